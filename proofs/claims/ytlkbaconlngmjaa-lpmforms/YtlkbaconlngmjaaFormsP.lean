/-
  Keys of two bytes of bits: what counts of them. (Of no world.)
-/
import Derived.Test.YtlkbaconlngmjaaTFirst
import Derived.Laws.BitsAllLaws
namespace Go.Proofs.Ytlkbaconlngmjaa
open Go.RowKit Go.Deep

theorem and_mask (x s : Nat) (hx : x < 65536) (hs : s ≤ 16) : x &&& (65536 - 2 ^ s) = x / 2 ^ s * 2 ^ s := by
  apply Nat.eq_of_testBit_eq
  intro j
  have h1 : (65536 - 2 ^ s : Nat) = 2 ^ 16 - ((2 ^ s - 1) + 1) := by
    have : 0 < 2 ^ s := Nat.pow_pos (by omega)
    show 2 ^ 16 - 2 ^ s = _
    omega
  have hle : 2 ^ s - 1 < 2 ^ 16 := by
    have : 2 ^ s ≤ 2 ^ 16 := Nat.pow_le_pow_right (by omega) hs
    have : 0 < 2 ^ s := Nat.pow_pos (by omega)
    omega
  rw [Nat.testBit_and, h1, Nat.testBit_two_pow_sub_succ hle, Nat.testBit_two_pow_sub_one, Nat.testBit_mul_two_pow]
  by_cases hj : s ≤ j
  · rw [Nat.testBit_div_two_pow, show j - s + s = j by omega, decide_eq_true hj, decide_eq_false (show ¬ j < s by omega)]
    by_cases h16 : j < 16
    · simp [h16]
    · have : x.testBit j = false := Nat.testBit_lt_two_pow (Nat.lt_of_lt_of_le hx (Nat.pow_le_pow_right (n := 2) (by omega) (show 16 ≤ j by omega)))
      simp [this]
  · rw [decide_eq_false hj, decide_eq_true (show j < s by omega)]
    simp
theorem mask_val (k : Nat) (hk : k ≤ 16) : IntKind.u16.wrap (4294901760 / 2 ^ k) = ((65536 - 2 ^ (16 - k) : Nat) : Int) := by
  have : k = 0 ∨ k = 1 ∨ k = 2 ∨ k = 3 ∨ k = 4 ∨ k = 5 ∨ k = 6 ∨ k = 7 ∨ k = 8 ∨ k = 9 ∨ k = 10 ∨ k = 11 ∨ k = 12 ∨ k = 13 ∨ k = 14 ∨ k = 15 ∨ k = 16 := by omega
  rcases this with rfl | rfl | rfl | rfl | rfl | rfl | rfl | rfl | rfl | rfl | rfl | rfl | rfl | rfl | rfl | rfl | rfl <;> decide
/-- What counts of a number of 16 bits. -/
def formI (k : Nat) (x : Int) : Int := x / 2 ^ (16 - k) * 2 ^ (16 - k)
theorem formI_bd (k : Nat) {x : Int} (h0 : 0 ≤ x) (h1 : x ≤ 65535) : 0 ≤ formI k x ∧ formI k x ≤ 65535 := by
  have hp : (0 : Int) < 2 ^ (16 - k) := Int.pow_pos (by omega)
  have h2 : x / 2 ^ (16 - k) * 2 ^ (16 - k) ≤ x := Int.ediv_mul_le x (by omega)
  have h3 : 0 ≤ x / 2 ^ (16 - k) := Int.ediv_nonneg h0 (by omega)
  have h4 : 0 ≤ x / 2 ^ (16 - k) * 2 ^ (16 - k) := Int.mul_nonneg h3 (by omega)
  unfold formI
  omega
theorem forms_pure (k : Nat) (hk : k ≤ 16) (a b : Int) (a0 : 0 ≤ a) (a1 : a ≤ 65535) (b0 : 0 ≤ b) (b1 : b ≤ 65535) :
    bits .and .u16 a (IntKind.u16.wrap (4294901760 / 2 ^ k)) = formI k a ∧
    ∃ C : Int, bits .or .u16 (formI k a) (bits .andNot .u16 b (IntKind.u16.wrap (4294901760 / 2 ^ k))) = C ∧ 0 ≤ C ∧ C ≤ 65535 ∧ formI k C = formI k a := by
  obtain ⟨A, rfl⟩ := Int.eq_ofNat_of_zero_le a0
  obtain ⟨B, rfl⟩ := Int.eq_ofNat_of_zero_le b0
  have hA : A < 65536 := by omega
  have hB : B < 65536 := by omega
  have hp : 0 < 2 ^ (16 - k) := Nat.pow_pos (by omega)
  have hp16 : 2 ^ (16 - k) ≤ 65536 := Nat.pow_le_pow_right (n := 2) (by omega) (show 16 - k ≤ 16 by omega)
  have hf : formI k (A : Int) = ((A / 2 ^ (16 - k) * 2 ^ (16 - k) : Nat) : Int) := by
    unfold formI
    rw [Int.natCast_mul, Int.natCast_ediv, Int.natCast_pow]
    rfl
  rw [mask_val k hk]
  have hle : A / 2 ^ (16 - k) * 2 ^ (16 - k) ≤ A := Nat.div_mul_le_self A _
  refine ⟨?_, ((A / 2 ^ (16 - k) * 2 ^ (16 - k) + B % 2 ^ (16 - k) : Nat) : Int), ?_, by omega, ?_, ?_⟩
  · rw [u16_and_nat A _ hA (by omega), and_mask A _ hA (by omega), hf]
  · have hmod : B &&& (65535 - (65536 - 2 ^ (16 - k))) = B % 2 ^ (16 - k) := by
      rw [show 65535 - (65536 - 2 ^ (16 - k)) = 2 ^ (16 - k) - 1 by omega, Nat.and_two_pow_sub_one_eq_mod]
    have hr := Nat.mod_lt B hp
    rw [hf, u16_andNot_nat B _ hB (by omega), hmod, u16_or_nat _ _ (by omega) (by omega), Nat.mul_comm, ← Nat.two_pow_add_eq_or_of_lt hr]
  · have hr := Nat.mod_lt B hp
    have hd : A / 2 ^ (16 - k) < 65536 / 2 ^ (16 - k) := by
      have h9 : 2 ^ (16 - k) * (65536 / 2 ^ (16 - k)) = 65536 := Nat.mul_div_cancel' (Nat.pow_dvd_pow 2 (show 16 - k ≤ 16 by omega))
      have : A / 2 ^ (16 - k) < 65536 / 2 ^ (16 - k) := by
        rw [Nat.div_lt_iff_lt_mul hp, Nat.mul_comm, h9]
        exact hA
      exact this
    have h9 : 2 ^ (16 - k) * (65536 / 2 ^ (16 - k)) = 65536 := Nat.mul_div_cancel' (Nat.pow_dvd_pow 2 (show 16 - k ≤ 16 by omega))
    have h10 : 2 ^ (16 - k) * (A / 2 ^ (16 - k) + 1) ≤ 2 ^ (16 - k) * (65536 / 2 ^ (16 - k)) := Nat.mul_le_mul_left _ hd
    rw [Nat.mul_add, Nat.mul_comm (2 ^ (16 - k)) (A / 2 ^ (16 - k))] at h10
    omega
  · have hr := Nat.mod_lt B hp
    have e1 : formI k ((A / 2 ^ (16 - k) * 2 ^ (16 - k) + B % 2 ^ (16 - k) : Nat) : Int) = (((A / 2 ^ (16 - k) * 2 ^ (16 - k) + B % 2 ^ (16 - k)) / 2 ^ (16 - k) * 2 ^ (16 - k) : Nat) : Int) := by
      unfold formI
      rw [Int.natCast_mul, Int.natCast_ediv, Int.natCast_pow]
      rfl
    rw [e1, hf]
    have e2 : (A / 2 ^ (16 - k) * 2 ^ (16 - k) + B % 2 ^ (16 - k)) / 2 ^ (16 - k) = A / 2 ^ (16 - k) := by
      rw [Nat.mul_comm, Nat.mul_add_div hp, Nat.div_eq_of_lt hr, Nat.add_zero]
    rw [e2]

theorem accB_upto (v : Int) (h0 : 0 ≤ v) (h1 : v ≤ 255) (q : Nat) : ∀ m, m ≤ q → m ≤ 8 → accB (fun j => decide (j < q) && decide (v / 2 ^ (7 - j) % 2 = 1)) m = v / 2 ^ (8 - m)
  | 0, _, _ => by
    show 0 = v / 2 ^ 8
    omega
  | m + 1, h, h8 => by
    have ih := accB_upto v h0 h1 q m (by omega) (by omega)
    show accB _ m * 2 + bI (decide (m < q) && decide (v / 2 ^ (7 - m) % 2 = 1)) = _
    have hb : v / 2 ^ (7 - m) % 2 = 0 ∨ v / 2 ^ (7 - m) % 2 = 1 := by omega
    rw [ih, decide_eq_true (show m < q by omega), Bool.true_and, bI_of (by omega), show 8 - m = (7 - m) + 1 by omega, Int.pow_succ, ← Int.ediv_ediv_of_nonneg (Int.pow_nonneg (by omega)), show 8 - (m + 1) = 7 - m by omega]
    omega
theorem accB_mask (v : Int) (h0 : 0 ≤ v) (h1 : v ≤ 255) (q : Nat) (hq : q ≤ 8) : accB (fun j => decide (j < q) && decide (v / 2 ^ (7 - j) % 2 = 1)) 8 = v / 2 ^ (8 - q) * 2 ^ (8 - q) := by
  have h2 := accB_tail (f := fun j => decide (j < q) && decide (v / 2 ^ (7 - j) % 2 = 1)) q (8 - q) (fun j h3 h4 => by
    show (decide (j < q) && _) = false
    rw [decide_eq_false (by omega)]
    rfl)
  rw [show q + (8 - q) = 8 by omega] at h2
  rw [h2, accB_upto v h0 h1 q q (Nat.le_refl _) hq]
/-- A key of two bytes of bits. -/
def key2 (k : Nat) (x : Int) : List Int := [(k : Int), 0, 0, 0, x / 256, x % 256]
theorem keyNum_key2 (k : Nat) (x : Int) : keyNum (key2 k x) = k := by
  unfold keyNum key2
  simp [num]
theorem key2_bd (k : Nat) (hk : k ≤ 16) {x : Int} (h0 : 0 ≤ x) (h1 : x ≤ 65535) : ∀ y ∈ key2 k x, 0 ≤ y ∧ y ≤ 255 := by
  unfold key2
  intro y hy
  simp only [List.mem_cons, List.not_mem_nil, or_false] at hy
  rcases hy with rfl | rfl | rfl | rfl | rfl | rfl <;> omega
theorem fits_key2 (k : Nat) (hk : k ≤ 16) (x : Int) : fitsK (key2 k x) 2 = true := by
  unfold fitsK
  rw [keyNum_key2]
  simp [key2]
  omega
theorem byteB_key2 (k : Nat) {x : Int} (h0 : 0 ≤ x) (h1 : x ≤ 65535) : byteB (pathP (key2 k x)) 0 = (x / 256) / 2 ^ (8 - min 8 k) * 2 ^ (8 - min 8 k) ∧ byteB (pathP (key2 k x)) 1 = (x % 256) / 2 ^ (8 - min 8 (k - 8)) * 2 ^ (8 - min 8 (k - 8)) := by
  refine ⟨?_, ?_⟩
  · rw [← accB_mask (x / 256) (by omega) (by omega) (min 8 k) (by omega)]
    unfold byteB
    refine accB_congr 8 fun j hj => ?_
    rw [pathP_get, keyNum_key2, Int.toNat_natCast]
    have e : bitP (key2 k x) (8 * 0 + j) = x / 256 / 2 ^ (7 - j) % 2 := by
      unfold bitP
      rw [show 4 + (8 * 0 + j) / 8 = 4 by omega, show (8 * 0 + j) % 8 = j by omega]
      rfl
    rw [e]
    congr 1
    by_cases h : j < k
    · rw [decide_eq_true (by omega), decide_eq_true (by omega)]
    · rw [decide_eq_false (by omega), decide_eq_false (by omega)]
  · rw [← accB_mask (x % 256) (by omega) (by omega) (min 8 (k - 8)) (by omega)]
    unfold byteB
    refine accB_congr 8 fun j hj => ?_
    rw [pathP_get, keyNum_key2, Int.toNat_natCast]
    have e : bitP (key2 k x) (8 * 1 + j) = x % 256 / 2 ^ (7 - j) % 2 := by
      unfold bitP
      rw [show 4 + (8 * 1 + j) / 8 = 5 by omega, show (8 * 1 + j) % 8 = j by omega]
      rfl
    rw [e]
    congr 1
    by_cases h : 8 + j < k
    · rw [decide_eq_true (by omega), decide_eq_true (by omega)]
    · rw [decide_eq_false (by omega), decide_eq_false (by omega)]
theorem form_key (k : Nat) (hk : k ≤ 16) {x : Int} (h0 : 0 ≤ x) (h1 : x ≤ 65535) : keyP (pathP (key2 k x)) 2 = key2 k (formI k x) := by
  obtain ⟨e0, e1⟩ := byteB_key2 k h0 h1
  have hb : bytesP (pathP (key2 k x)) 2 = [byteB (pathP (key2 k x)) 0, byteB (pathP (key2 k x)) 1] := rfl
  unfold keyP
  rw [hb, e0, e1, pathP_len, keyNum_key2, Int.toNat_natCast]
  have hl : le4 (k : Int) = [(k : Int), 0, 0, 0] := by
    rw [le4_eq]
    unfold byteOf
    simp only [List.cons.injEq, and_true]
    refine ⟨?_, ?_, ?_, ?_⟩ <;> omega
  rw [hl]
  unfold key2 formI
  show [(k : Int), 0, 0, 0, _, _] = _
  have : k = 0 ∨ k = 1 ∨ k = 2 ∨ k = 3 ∨ k = 4 ∨ k = 5 ∨ k = 6 ∨ k = 7 ∨ k = 8 ∨ k = 9 ∨ k = 10 ∨ k = 11 ∨ k = 12 ∨ k = 13 ∨ k = 14 ∨ k = 15 ∨ k = 16 := by omega
  rcases this with rfl | rfl | rfl | rfl | rfl | rfl | rfl | rfl | rfl | rfl | rfl | rfl | rfl | rfl | rfl | rfl | rfl <;>
    (simp only [List.cons.injEq, and_true, true_and]; constructor <;> (simp; try omega))
end Go.Proofs.Ytlkbaconlngmjaa
