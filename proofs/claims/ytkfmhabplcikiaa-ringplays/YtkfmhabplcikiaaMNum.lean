/-
  number and spread: numbers and their bytes, lowest first.
-/
import Derived.Test.YtkfmhabplcikiaaMFind
namespace Go.Proofs.Ytkfmhabplcikiaa.Mem
open Go.RowKit

/-- The number of the first n bytes, lowest first. -/
def num (bs : Nat → Int) : Nat → Int
  | 0 => 0
  | n + 1 => num bs n + bs n * 256 ^ n

theorem num_bd (bs : Nat → Int) : ∀ n, (∀ j, j < n → 0 ≤ bs j ∧ bs j ≤ 255) → 0 ≤ num bs n ∧ num bs n < 256 ^ n
  | 0, _ => by simp [num]
  | n + 1, h => by
    have h1 := num_bd bs n (fun j hj => h j (by omega))
    have h2 := h n (by omega)
    have h3 : (0 : Int) < 256 ^ n := Int.pow_pos (by omega)
    have h4 : bs n * 256 ^ n ≤ 255 * 256 ^ n := Int.mul_le_mul_of_nonneg_right h2.2 (by omega)
    have h5 : 0 ≤ bs n * 256 ^ n := Int.mul_nonneg h2.1 (by omega)
    unfold num
    rw [Int.pow_succ]
    omega
theorem num_congr {f g : Nat → Int} : ∀ n, (∀ j, j < n → f j = g j) → num f n = num g n
  | 0, _ => rfl
  | n + 1, h => by unfold num; rw [num_congr n (fun j hj => h j (by omega)), h n (by omega)]

theorem or_place (a x : Int) (k : Nat) (hk : k ≤ 7) (ha0 : 0 ≤ a) (ha1 : a < 256 ^ k) (hx0 : 0 ≤ x) (hx1 : x ≤ 255) :
    bits .or .u64 a (IntKind.u64.wrap (x * 2 ^ (8 * k))) = a + x * 256 ^ k := by
  obtain ⟨A, rfl⟩ := Int.eq_ofNat_of_zero_le ha0
  obtain ⟨X, rfl⟩ := Int.eq_ofNat_of_zero_le hx0
  have hp : (2 : Int) ^ (8 * k) = 256 ^ k := by rw [Int.pow_mul]; rfl
  have hA : A < 2 ^ (8 * k) := by
    have : ((A : Nat) : Int) < ((2 ^ (8 * k) : Nat) : Int) := by rw [Int.natCast_pow]; show (A : Int) < (2 : Int) ^ (8 * k); rw [hp]; exact ha1
    omega
  have hle : (2 : Nat) ^ (8 * k) ≤ 2 ^ 56 := Nat.pow_le_pow_right (by omega) (by omega)
  have hX : 2 ^ (8 * k) * X < 18446744073709551616 := by
    have : 2 ^ (8 * k) * X ≤ 2 ^ 56 * 255 := Nat.mul_le_mul hle (by omega)
    omega
  have hc : (X : Int) * 2 ^ (8 * k) = ((2 ^ (8 * k) * X : Nat) : Int) := by rw [Int.natCast_mul, Int.natCast_pow, Int.mul_comm]; rfl
  rw [← hp, hc, IntKind.wrap_u64, Int.emod_eq_of_lt (by omega) (by omega), u64_or_nat A _ (by omega) hX, Nat.or_comm, ← Nat.two_pow_add_eq_or_of_lt hA]
  omega

/-- Byte j of a number. -/
def byteOf (v : Int) (j : Nat) : Int := v / 256 ^ j % 256
theorem byteOf_bd (v : Int) (j : Nat) : 0 ≤ byteOf v j ∧ byteOf v j ≤ 255 := by unfold byteOf; omega

def spreadTo (v : Int) (k : Nat) : List Value := (List.range 8).map (fun j => if j < k then .int .u8 (byteOf v j) else .int .u8 0)

theorem spread_set (v : Int) (k : Nat) (_hk : k < 8) : (spreadTo v k).set k (.int .u8 (byteOf v k)) = spreadTo v (k + 1) := by
  apply List.ext_getElem
  · simp [spreadTo]
  · intro j h1 h2
    rw [List.getElem_set]
    simp only [spreadTo, List.getElem_map, List.getElem_range]
    by_cases e : k = j
    · subst e
      simp
    · rw [if_neg e]
      by_cases h : j < k
      · rw [if_pos h, if_pos (by omega)]
      · rw [if_neg h, if_neg (by omega)]
theorem spread_all (v : Int) : spreadTo v 8 = [.int .u8 (byteOf v 0), .int .u8 (byteOf v 1), .int .u8 (byteOf v 2), .int .u8 (byteOf v 3), .int .u8 (byteOf v 4), .int .u8 (byteOf v 5), .int .u8 (byteOf v 6), .int .u8 (byteOf v 7)] := rfl
theorem byte_shift (v : Int) (k : Nat) : v / 2 ^ (8 * k) % 256 = byteOf v k := by
  unfold byteOf
  rw [Int.pow_mul]
  rfl

set_option maxHeartbeats 1000000 in
set_option maxRecDepth 100000 in
theorem spread_any (v : Int) (w : World) (_hv0 : 0 ≤ v) :
    Calls Try.prog 37 #[.int .u64 v] w fun e w' => e = .returned (.agg #[.int .u8 (byteOf v 0), .int .u8 (byteOf v 1), .int .u8 (byteOf v 2), .int .u8 (byteOf v 3), .int .u8 (byteOf v 4), .int .u8 (byteOf v 5), .int .u8 (byteOf v 6), .int .u8 (byteOf v 7)]) ∧ Touch [] w w' := by
  have hz : Blk ((w.alloc (.cells #[.int .u8 0, .int .u8 0, .int .u8 0, .int .u8 0, .int .u8 0, .int .u8 0, .int .u8 0, .int .u8 0] 89)).alloc (.cells #[.int .u8 0, .int .u8 0, .int .u8 0, .int .u8 0, .int .u8 0, .int .u8 0, .int .u8 0, .int .u8 0] 89)) (w.heap.size + 1) (spreadTo v 0) 89 := by
    have := Blk.newA (w.alloc (.cells #[.int .u8 0, .int .u8 0, .int .u8 0, .int .u8 0, .int .u8 0, .int .u8 0, .int .u8 0, .int .u8 0] 89)) #[.int .u8 0, .int .u8 0, .int .u8 0, .int .u8 0, .int .u8 0, .int .u8 0, .int .u8 0, .int .u8 0] (spreadTo v 0) 89 rfl
    simpa using this
  have hz0 : Blk ((w.alloc (.cells #[.int .u8 0, .int .u8 0, .int .u8 0, .int .u8 0, .int .u8 0, .int .u8 0, .int .u8 0, .int .u8 0] 89)).alloc (.cells #[.int .u8 0, .int .u8 0, .int .u8 0, .int .u8 0, .int .u8 0, .int .u8 0, .int .u8 0, .int .u8 0] 89)) w.heap.size (spreadTo v 0) 89 :=
    (Blk.newA w #[.int .u8 0, .int .u8 0, .int .u8 0, .int .u8 0, .int .u8 0, .int .u8 0, .int .u8 0, .int .u8 0] (spreadTo v 0) 89 rfl).alloc _
  have HZ := toHid hz
  have HZ0 := toHid hz0
  clear hz hz0
  go_enter Try.func37, Try.ntmps37
  go_wp2
  go_loopw [5] (fun t w' => ∃ k : Nat, k ≤ 8 ∧ t = .int .i64 k ∧ Hid (Blk w' (w.heap.size + 1) (spreadTo v k) 89 ∧ Blk w' w.heap.size (spreadTo v 0) 89 ∧ Touch [] w w')) (fun t _ => 8 - (intOf t).toNat)
  case atStart => exact ⟨0, by omega, rfl, HZ.out, HZ0.out, ((Touch.refl _ w).alloc _).alloc _⟩
  case round =>
    rename_i wr
    obtain ⟨k, hk, rfl, HI⟩ := hrel
    by_cases hlt : k < 8
    · have c1 := HI.out.1.cellN (i := k) (by simpa [spreadTo] using hlt)
      have f1 := HI.out.1.frozen k
      have HB := toHid (byte_shift v k)
      go_wp2
      rw [HB.out]
      refine ⟨⟨k + 1, by omega, by go_num, ?_, ?_, ?_⟩, by simp [intOf]; omega⟩
      · rw [← spread_set v k hlt]
        exact HI.out.1.setCell k _
      · exact HI.out.2.1.setCell_other _ _ (by simp)
      · exact HI.out.2.2.setCell _ _ (Or.inr (by simp))
    · obtain rfl : k = 8 := by omega
      have hB := HI.out.1
      rw [spread_all] at hB
      have hR := HI.out.2.1
      have ht := toHid HI.out.2.2
      have c0 : wr.cell? ⟨w.heap.size + 1, 0, none⟩ = some _ := hB.cell rfl
      have c1 : wr.cell? ⟨w.heap.size + 1, 1, none⟩ = some _ := hB.cell rfl
      have c2 : wr.cell? ⟨w.heap.size + 1, 2, none⟩ = some _ := hB.cell rfl
      have c3 : wr.cell? ⟨w.heap.size + 1, 3, none⟩ = some _ := hB.cell rfl
      have c4 : wr.cell? ⟨w.heap.size + 1, 4, none⟩ = some _ := hB.cell rfl
      have c5 : wr.cell? ⟨w.heap.size + 1, 5, none⟩ = some _ := hB.cell rfl
      have c6 : wr.cell? ⟨w.heap.size + 1, 6, none⟩ = some _ := hB.cell rfl
      have c7 : wr.cell? ⟨w.heap.size + 1, 7, none⟩ = some _ := hB.cell rfl
      have d0 : wr.cell? ⟨w.heap.size, 0, none⟩ = some _ := hR.cell rfl
      have d1 : wr.cell? ⟨w.heap.size, 1, none⟩ = some _ := hR.cell rfl
      have d2 : wr.cell? ⟨w.heap.size, 2, none⟩ = some _ := hR.cell rfl
      have d3 : wr.cell? ⟨w.heap.size, 3, none⟩ = some _ := hR.cell rfl
      have d4 : wr.cell? ⟨w.heap.size, 4, none⟩ = some _ := hR.cell rfl
      have d5 : wr.cell? ⟨w.heap.size, 5, none⟩ = some _ := hR.cell rfl
      have d6 : wr.cell? ⟨w.heap.size, 6, none⟩ = some _ := hR.cell rfl
      have d7 : wr.cell? ⟨w.heap.size, 7, none⟩ = some _ := hR.cell rfl
      have fz := hR.frozen
      clear hB hR HI HZ HZ0
      go_wp2
      refine bodyPost_ret (v := .agg #[.int .u8 (byteOf v 0), .int .u8 (byteOf v 1), .int .u8 (byteOf v 2), .int .u8 (byteOf v 3), .int .u8 (byteOf v 4), .int .u8 (byteOf v 5), .int .u8 (byteOf v 6), .int .u8 (byteOf v 7)]) (by simp [results, Try.results37, go_sem, d0, d1, d2, d3, d4, d5, d6, d7]) rfl ⟨rfl, ?_⟩
      exact (((((((ht.out.setCell _ _ (Or.inr (by simp))).setCell _ _ (Or.inr (by simp))).setCell _ _ (Or.inr (by simp))).setCell _ _ (Or.inr (by simp))).setCell _ _ (Or.inr (by simp))).setCell _ _ (Or.inr (by simp))).setCell _ _ (Or.inr (by simp))).setCell _ _ (Or.inr (by simp))
end Go.Proofs.Ytkfmhabplcikiaa.Mem
