/-
  Operations undo each other, conditions are opposites, low halves: as facts on whole numbers. Of no program.
-/
import Derived.Test.YtfcekjdjhgoofaaRArsh
namespace Go.Proofs.Ytfcekjdjhgoofaa
open Go.RowKit

theorem mod_pos (w : Bool) : 0 < modI w := by cases w <;> decide
theorem mod_le (w : Bool) : modI w ≤ 18446744073709551616 := by cases w <;> decide
theorem okOp_cases {k : Int} (h : okOp k = true) : k = 0 ∨ k = 16 ∨ k = 32 ∨ k = 48 ∨ k = 64 ∨ k = 80 ∨ k = 96 ∨ k = 112 ∨ k = 128 ∨ k = 144 ∨ k = 160 ∨ k = 176 ∨ k = 192 := by
  simp [okOp] at h
  omega
theorem opI_bd {k : Int} {w : Bool} {a b : Int} (hk : okOp k = true) (ha : U64 a) (hb : U64 b) : 0 ≤ opI k w a b ∧ opI k w a b < modI w := by
  have hm := mod_pos w
  have hl := bit_lt ha hb w
  have h1 := ha.cut w
  have h2 := hb.cut w
  have em (x : Int) : 0 ≤ x % modI w ∧ x % modI w < modI w := ⟨Int.emod_nonneg _ (by omega), Int.emod_lt_of_pos _ hm⟩
  have ed (x y : Int) (hx : 0 ≤ x ∧ x < modI w) (hy : 0 ≤ y) : 0 ≤ x / y ∧ x / y < modI w := ⟨Int.ediv_nonneg hx.1 hy, by have := Int.ediv_le_self y hx.1; omega⟩
  rcases okOp_cases hk with rfl | rfl | rfl | rfl | rfl | rfl | rfl | rfl | rfl | rfl | rfl | rfl | rfl
  · exact em _
  · exact em _
  · exact em _
  · exact ed _ _ h1 h2.1
  · exact hl.2.1
  · exact hl.1
  · exact em _
  · exact ed _ _ h1 (Int.le_of_lt (powI_pos _))
  · exact em _
  · show 0 ≤ cutI w a % cutI w b ∧ cutI w a % cutI w b < modI w
    by_cases hz : cutI w b = 0
    · rw [hz, Int.emod_zero]
      exact h1
    · have g1 := Int.emod_nonneg (cutI w a) hz
      have g2 := Int.emod_lt_of_pos (cutI w a) (show 0 < cutI w b by omega)
      exact ⟨g1, by omega⟩
  · exact hl.2.2
  · exact h2
  · exact em _
theorem opI_u64 {k : Int} {w : Bool} {a b : Int} (hk : okOp k = true) (ha : U64 a) (hb : U64 b) : U64 (opI k w a b) := by
  have h := opI_bd (w := w) hk ha hb
  have := mod_le w
  unfold U64
  omega
theorem cut_op {k : Int} {w : Bool} {a b : Int} (hk : okOp k = true) (ha : U64 a) (hb : U64 b) : cutI w (opI k w a b) = opI k w a b :=
  cut_of w (opI_bd hk ha hb).1 (opI_bd hk ha hb).2

theorem undo_add (w : Bool) {a b : Int} (ha : U64 a) (hb : U64 b) : opI 16 w (opI 0 w a b) b = cutI w a := by
  have e : opI 16 w (opI 0 w a b) b = (cutI w (opI 0 w a b) - cutI w b) % modI w := rfl
  rw [e, cut_op (by decide) ha hb]
  show ((cutI w a + cutI w b) % modI w - cutI w b) % modI w = cutI w a
  rw [Int.emod_sub_emod, Int.add_sub_cancel]
  exact Int.emod_eq_of_lt (ha.cut w).1 (ha.cut w).2
theorem undo_xor (w : Bool) {a b : Int} (ha : U64 a) (hb : U64 b) : opI 160 w (opI 160 w a b) b = cutI w a := by
  have e : opI 160 w (opI 160 w a b) b = bits .xor .u64 (cutI w (opI 160 w a b)) (cutI w b) := rfl
  rw [e, cut_op (by decide) ha hb, xor_cut (opI_u64 (by decide) ha hb) (hb.cut64 w)]
  have e2 : opI 160 w a b = bits .xor .u64 (cutI w a) (cutI w b) := rfl
  rw [e2, xor_cut (ha.cut64 w) (hb.cut64 w), Int.toNat_natCast, Nat.xor_assoc, Nat.xor_self, Nat.xor_zero]
  have := (ha.cut w).1
  omega
theorem undo_neg (w : Bool) {a : Int} (ha : U64 a) : opI 128 w (opI 128 w a 0) 0 = cutI w a := by
  have hz : U64 0 := by unfold U64; omega
  have e : opI 128 w (opI 128 w a 0) 0 = (-cutI w (opI 128 w a 0)) % modI w := rfl
  rw [e, cut_op (by decide) ha hz]
  show (-(-cutI w a % modI w)) % modI w = cutI w a
  have h := ha.cut w
  rw [← Int.zero_sub, Int.sub_emod_emod, Int.zero_sub, Int.neg_neg]
  exact Int.emod_eq_of_lt h.1 h.2
theorem undo_div (w : Bool) {a b : Int} (ha : U64 a) (hb : U64 b) : opI 0 w (opI 32 w (opI 48 w a b) b) (opI 144 w a b) = cutI w a := by
  have hq : U64 (opI 48 w a b) := opI_u64 (by decide) ha hb
  have e : opI 0 w (opI 32 w (opI 48 w a b) b) (opI 144 w a b) = (cutI w (opI 32 w (opI 48 w a b) b) + cutI w (opI 144 w a b)) % modI w := rfl
  rw [e, cut_op (by decide) hq hb, cut_op (by decide) ha hb]
  have e2 : opI 32 w (opI 48 w a b) b = (cutI w (opI 48 w a b) * cutI w b) % modI w := rfl
  rw [e2, cut_op (by decide) ha hb]
  show ((cutI w a / cutI w b * cutI w b) % modI w + cutI w a % cutI w b) % modI w = cutI w a
  rw [Int.emod_add_emod, Int.mul_comm, Int.mul_ediv_add_emod]
  exact Int.emod_eq_of_lt (ha.cut w).1 (ha.cut w).2

theorem opp1 (w : Bool) (a b : Int) : holdI 80 w a b = !holdI 16 w a b := by
  show decide (¬ _) = !decide _
  exact decide_not
theorem opp2 (w : Bool) (a b : Int) : holdI 176 w a b = !holdI 32 w a b := by
  show decide (cutI w a ≤ cutI w b) = !decide (cutI w b < cutI w a)
  rw [← decide_not, decide_eq_decide]
  omega
theorem opp3 (w : Bool) (a b : Int) : holdI 160 w a b = !holdI 48 w a b := by
  show decide (cutI w a < cutI w b) = !decide (cutI w b ≤ cutI w a)
  rw [← decide_not, decide_eq_decide]
  omega
theorem opp4 (w : Bool) (a b : Int) : holdI 208 w a b = !holdI 96 w a b := by
  show decide (sgnI w a ≤ sgnI w b) = !decide (sgnI w b < sgnI w a)
  rw [← decide_not, decide_eq_decide]
  omega
theorem opp5 (w : Bool) (a b : Int) : holdI 192 w a b = !holdI 112 w a b := by
  show decide (sgnI w a < sgnI w b) = !decide (sgnI w b ≤ sgnI w a)
  rw [← decide_not, decide_eq_decide]
  omega

/-- The low half alone counts. -/
theorem low_only (k : Int) {a b a' b' : Int} (h : a % 4294967296 = a' % 4294967296) (g : b % 4294967296 = b' % 4294967296) : opI k false a b = opI k false a' b' := by
  have e1 : cutI false a = cutI false a' := h
  have e2 : cutI false b = cutI false b' := g
  have e3 : sgnI false a = sgnI false a' := by unfold sgnI; rw [e1]
  have e4 : byI false b = byI false b' := by
    simp only [byI, lenI, Bool.false_eq_true, ↓reduceIte]
    omega
  unfold opI
  rw [e1, e2, e3, e4]
theorem and_mod (x y : Nat) : (x % 4294967296) &&& (y % 4294967296) = (x &&& y) % 4294967296 := (Nat.and_mod_two_pow (n := 32)).symm
theorem or_mod (x y : Nat) : (x % 4294967296) ||| (y % 4294967296) = (x ||| y) % 4294967296 := (Nat.or_mod_two_pow (n := 32)).symm
theorem xor_mod (x y : Nat) : (x % 4294967296) ^^^ (y % 4294967296) = (x ^^^ y) % 4294967296 := (Nat.xor_mod_two_pow (n := 32)).symm
theorem low_bits {a b : Int} (ha : U64 a) (hb : U64 b) : bits .and .u64 (a % 4294967296) (b % 4294967296) = bits .and .u64 a b % 4294967296 ∧ bits .or .u64 (a % 4294967296) (b % 4294967296) = bits .or .u64 a b % 4294967296 ∧
    bits .xor .u64 (a % 4294967296) (b % 4294967296) = bits .xor .u64 a b % 4294967296 := by
  have hA : U64 (a % 4294967296) := ha.cut64 false
  have hB : U64 (b % 4294967296) := hb.cut64 false
  rw [and_cut hA hB, or_cut hA hB, xor_cut hA hB, and_cut ha hb, or_cut ha hb, xor_cut ha hb]
  obtain ⟨h0, _⟩ := ha
  obtain ⟨g0, _⟩ := hb
  have e1 : (a % 4294967296).toNat = a.toNat % 4294967296 := by omega
  have e2 : (b % 4294967296).toNat = b.toNat % 4294967296 := by omega
  rw [e1, e2, and_mod, or_mod, xor_mod]
  refine ⟨?_, ?_, ?_⟩ <;> omega
/-- Eight operations of 32 bits are the low halves of those of 64. -/
theorem low_half {k : Int} {a b : Int} (hk : k = 0 ∨ k = 16 ∨ k = 32 ∨ k = 64 ∨ k = 80 ∨ k = 128 ∨ k = 160 ∨ k = 176) (ha : U64 a) (hb : U64 b) : opI k false a b = opI k true a b % 4294967296 := by
  have hl := low_bits ha hb
  rcases hk with rfl | rfl | rfl | rfl | rfl | rfl | rfl | rfl
  · show (a % 4294967296 + b % 4294967296) % 4294967296 = (a + b) % 18446744073709551616 % 4294967296
    omega
  · show (a % 4294967296 - b % 4294967296) % 4294967296 = (a - b) % 18446744073709551616 % 4294967296
    omega
  · show (a % 4294967296 * (b % 4294967296)) % 4294967296 = (a * b) % 18446744073709551616 % 4294967296
    rw [← Int.mul_emod]
    generalize a * b = z
    omega
  · exact hl.2.1
  · exact hl.1
  · show (-(a % 4294967296)) % 4294967296 = (-a) % 18446744073709551616 % 4294967296
    omega
  · exact hl.2.2
  · rfl
/-- The low half of a, under another high half. -/
theorem high_or {a h : Int} (ha : U64 a) (h0 : 0 ≤ h) (h1 : h ≤ 4294967295) : U64 (bits .or .u64 (bits .and .u64 a 4294967295) (h * 4294967296)) ∧ bits .or .u64 (bits .and .u64 a 4294967295) (h * 4294967296) % 4294967296 = a % 4294967296 := by
  have hc := and_low32 a ha.1 (by have := ha.2; omega)
  have hA : U64 (a % 4294967296) := ha.cut64 false
  have hH : U64 (h * 4294967296) := by unfold U64; omega
  rw [hc]
  refine ⟨⟨bits_lo_u64 _ _ _, bits_hi_u64 _ _ _⟩, ?_⟩
  rw [or_cut hA hH]
  have e := or_mod (a % 4294967296).toNat (h * 4294967296).toNat
  rw [show (h * 4294967296).toNat % 4294967296 = 0 by omega, Nat.or_zero] at e
  omega
end Go.Proofs.Ytfcekjdjhgoofaa
