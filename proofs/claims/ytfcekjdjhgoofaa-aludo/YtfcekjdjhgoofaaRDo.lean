/-
  The document's own pow and Do.
-/
import Derived.Test.YtfcekjdjhgoofaaFns
namespace Go.Proofs.Ytfcekjdjhgoofaa
open Go.RowKit

theorem pow_bd (k : Nat) (h : k ≤ 63) : (0 : Int) < 2 ^ k ∧ (2 : Int) ^ k ≤ 9223372036854775808 := by
  constructor
  · exact Int.pow_pos (by omega)
  · have h2 : (2 : Nat) ^ k ≤ 2 ^ 63 := Nat.pow_le_pow_right (by omega) h
    have h3 : ((2 ^ k : Nat) : Int) ≤ ((2 ^ 63 : Nat) : Int) := by omega
    rw [Int.natCast_pow, Int.natCast_pow] at h3
    exact h3

def powI (n : Nat) : Int := 2 ^ n
theorem powI_bd (n : Nat) (h : n ≤ 63) : 0 < powI n ∧ powI n ≤ 9223372036854775808 := pow_bd n h
theorem ret_ib {k : IntKind} {x y : Int} {p q : Bool} (h : x = y) (g : p = q) : Ending.returned (.tuple #[.int k x, .bool p]) = .returned (.tuple #[.int k y, .bool q]) := by rw [h, g]
set_option maxHeartbeats 1000000 in
theorem pow_any (x : Int) (w : World) (h0 : 0 ≤ x) (h : x ≤ 63) :
    Calls Try.prog 20 #[.int .u64 x] w fun e w' => e = .returned (.int .u64 (powI x.toNat)) ∧ w' = w := by
  obtain ⟨n, rfl⟩ := Int.eq_ofNat_of_zero_le h0
  rw [Int.toNat_natCast]
  unfold powI
  go_enter Try.func20, Try.ntmps20
  go_wp2
  go_loop [0, 3] (fun t v => ∃ k : Nat, k ≤ n ∧ t = .int .u64 ((n - k : Nat) : Int) ∧ v = .int .u64 (2 ^ k)) (fun t _ => (intOf t).toNat)
  case atStart => exact ⟨0, by omega, by simp, by simp⟩
  case round =>
    obtain ⟨k, hk, rfl, rfl⟩ := hrel
    by_cases h0 : k = n
    · subst h0
      have : ((k - k : Nat) : Int) = 0 := by simp
      rw [this]
      go_wp2
      go_ret
      exact ⟨rfl, rfl⟩
    · have hb := pow_bd k (by omega)
      have HN : Hid ((2 : Int) ^ (k + 1) = 2 ^ k * 2) := toHid (Int.pow_succ _ _)
      have hb2 : (2 : Int) ^ k * 2 ≤ 9223372036854775808 := by
        have := (pow_bd (k + 1) (by omega)).2
        rwa [HN.out] at this
      generalize (2 : Int) ^ k = q at *
      go_wp2
      go_round
      case rel => exact ⟨k + 1, by omega, by congr 1; omega, by rw [HN.out]⟩
      case measure => simp [intOf]; omega

theorem tmod32 {x : Int} (h : 0 ≤ x) : x.tmod 4294967296 = x % 4294967296 := Int.tmod_eq_emod_of_nonneg h
theorem umax : IntKind.u64.max = 18446744073709551615 := by decide
theorem not_u64 {x : Int} (h : U64 x) : bits .xor .u64 IntKind.u64.max x = 18446744073709551615 - x := by
  rw [umax, xor_cut (by unfold U64; omega) h]
  obtain ⟨h0, h1⟩ := h
  obtain ⟨n, rfl⟩ := Int.eq_ofNat_of_zero_le h0
  have e : (18446744073709551615 : Int).toNat = 2 ^ 64 - 1 := rfl
  have h2 := congrArg BitVec.toNat (BitVec.not_def (x := BitVec.ofNat 64 n))
  rw [BitVec.toNat_not, BitVec.toNat_xor, BitVec.toNat_allOnes, BitVec.toNat_ofNat, Nat.mod_eq_of_lt (by omega)] at h2
  rw [e, Int.toNat_natCast, ← h2]
  omega
theorem or_xor_and (a b : Nat) (ha : a < 2 ^ 64) (hb : b < 2 ^ 64) : (a ^^^ b) + (a &&& b) = a ||| b := by
  have h0 : (BitVec.ofNat 64 a ^^^ BitVec.ofNat 64 b) &&& (BitVec.ofNat 64 a &&& BitVec.ofNat 64 b) = 0#64 := by
    ext i hi
    simp
    cases (BitVec.ofNat 64 a)[i] <;> cases (BitVec.ofNat 64 b)[i] <;> simp
  have h : (BitVec.ofNat 64 a ^^^ BitVec.ofNat 64 b) + (BitVec.ofNat 64 a &&& BitVec.ofNat 64 b) = BitVec.ofNat 64 a ||| BitVec.ofNat 64 b := by
    rw [BitVec.add_eq_or_of_and_eq_zero _ _ h0]
    ext i hi
    simp
    cases (BitVec.ofNat 64 a)[i] <;> cases (BitVec.ofNat 64 b)[i] <;> rfl
  have h2 := congrArg BitVec.toNat h
  rwa [BitVec.toNat_add_of_and_eq_zero h0, BitVec.toNat_xor, BitVec.toNat_and, BitVec.toNat_or, BitVec.toNat_ofNat, BitVec.toNat_ofNat, Nat.mod_eq_of_lt ha, Nat.mod_eq_of_lt hb] at h2
theorem or_sub_and {x y : Int} (hx : U64 x) (hy : U64 y) : bits .or .u64 x y - bits .and .u64 x y = bits .xor .u64 x y := by
  rw [or_cut hx hy, and_cut hx hy, xor_cut hx hy]
  obtain ⟨h0, h1⟩ := hx
  obtain ⟨g0, g1⟩ := hy
  have := or_xor_and x.toNat y.toNat (by omega) (by omega)
  omega
theorem rest_form64 (a b : Int) (h0 : 0 ≤ a) (_h1 : a ≤ 18446744073709551615) (g0 : 0 < b) (g1 : b ≤ 18446744073709551615) : (a - a / b * b % 18446744073709551616) % 18446744073709551616 = a % b := by
  have e := Int.mul_ediv_add_emod a b
  rw [Int.mul_comm] at e
  have q0 := Int.emod_nonneg a (show b ≠ 0 by omega)
  have q1 := Int.emod_lt_of_pos a g0
  have q2 : 0 ≤ a / b * b := Int.mul_nonneg (Int.ediv_nonneg h0 (by omega)) (by omega)
  generalize a / b * b = z at *
  generalize a % b = r at *
  omega
theorem rest_form32 (a b : Int) (h0 : 0 ≤ a) (h1 : a < 4294967296) (g0 : 0 < b) (g1 : b < 4294967296) : ((a - a / b * b % 18446744073709551616) % 18446744073709551616).tmod 4294967296 = a % b := by
  rw [rest_form64 a b h0 (by omega) g0 (by omega)]
  have q0 := Int.emod_nonneg a (show b ≠ 0 by omega)
  have q1 := Int.emod_lt_of_pos a g0
  rw [tmod32 q0, Int.emod_eq_of_lt q0 (by omega)]
set_option maxHeartbeats 4000000 in
theorem rdo_ok (k : Int) (wide : Bool) (a b : Int) (w : World) (hk : okOp k = true) (hs : k ≠ 192) (ha : U64 a) (hb : U64 b) :
    Calls Try.prog 10 #[.int .i64 k, .int .i64 (lenI wide), .int .u64 a, .int .u64 b] w fun e w' => e = .returned (.tuple #[.int .u64 (opI k wide a b), .bool true]) ∧ w' = w := by
  have hm1 : 0 ≤ b % 4294967296 % 32 := by omega
  have hm2 : b % 4294967296 % 32 ≤ 63 := by omega
  have hm3 : 0 ≤ b % 64 := by omega
  have hm4 : b % 64 ≤ 63 := by omega
  have hp1 := (powI_bd (b % 4294967296 % 32).toNat (by omega)).1
  have hp2 := (powI_bd (b % 64).toNat (by omega)).1
  have hp3 := (powI_bd (b % 32).toNat (by omega)).1
  simp [okOp] at hk
  have hl := toHid (bit_lt ha hb false)
  have hm := toHid (bit_lt ha hb true)
  have hA := toHid (ha.cut64 false)
  have hB := toHid (hb.cut64 false)
  have Ha := toHid ha
  have Hb := toHid hb
  obtain ⟨h0, h1⟩ := ha
  obtain ⟨g0, g1⟩ := hb
  have : k = 0 ∨ k = 16 ∨ k = 32 ∨ k = 48 ∨ k = 64 ∨ k = 80 ∨ k = 128 ∨ k = 144 ∨ k = 160 ∨ k = 176 ∨ k = 96 ∨ k = 112 := by omega
  clear hk hs
  cases wide
  all_goals rcases this with rfl | rfl | rfl | rfl | rfl | rfl | rfl | rfl | rfl | rfl | rfl | rfl
  all_goals simp only [lenI, Bool.false_eq_true, ↓reduceIte]
  all_goals go_enter Try.func10, Try.ntmps10
  all_goals go_wp2_with (go_at_call 20; refine (pow_any _ _ (by omega) (by omega)).mono ?_; rintro e w ⟨rfl, rfl⟩)
  all_goals go_ret2
  all_goals refine ⟨ret_ib ?_ rfl, rfl⟩
  all_goals
    replace hl : (0 ≤ bits .and .u64 (a % 4294967296) (b % 4294967296) ∧ bits .and .u64 (a % 4294967296) (b % 4294967296) < 4294967296) ∧
      (0 ≤ bits .or .u64 (a % 4294967296) (b % 4294967296) ∧ bits .or .u64 (a % 4294967296) (b % 4294967296) < 4294967296) ∧
      (0 ≤ bits .xor .u64 (a % 4294967296) (b % 4294967296) ∧ bits .xor .u64 (a % 4294967296) (b % 4294967296) < 4294967296) := hl.out
    replace hm : (0 ≤ bits .and .u64 a b ∧ bits .and .u64 a b < 18446744073709551616) ∧ (0 ≤ bits .or .u64 a b ∧ bits .or .u64 a b < 18446744073709551616) ∧ (0 ≤ bits .xor .u64 a b ∧ bits .xor .u64 a b < 18446744073709551616) := hm.out
    replace hA : U64 (a % 4294967296) := hA.out
    replace hB : U64 (b % 4294967296) := hB.out
    have ha := Ha.out
    have hb := Hb.out
  all_goals try simp only [IntKind.wrap_u64, not_u64 hA, not_u64 hB, not_u64 ha, not_u64 hb, or_sub_and hA hB, or_sub_and ha hb]
  · rfl
  · rw [tmod32 (by omega)]
    show _ = (a % 4294967296 - b % 4294967296) % 4294967296
    omega
  · show _ = (a % 4294967296 * (b % 4294967296)) % 4294967296
    generalize a % 4294967296 * (b % 4294967296) = z
    rw [tmod32 (by omega)]
    omega
  · show _ = a % 4294967296 / (b % 4294967296)
    have q0 := Int.ediv_nonneg (show 0 ≤ a % 4294967296 by omega) (show 0 ≤ b % 4294967296 by omega)
    have q1 := Int.ediv_le_self (b % 4294967296) (show 0 ≤ a % 4294967296 by omega)
    rw [tmod32 q0, Int.emod_eq_of_lt q0 (by omega)]
  · show _ = a % 4294967296 / (b % 4294967296)
    rw [show b % 4294967296 = 0 by omega, Int.ediv_zero]
  · rw [tmod32 hl.2.1.1, Int.emod_eq_of_lt hl.2.1.1 hl.2.1.2]
    rfl
  · rw [tmod32 hl.1.1, Int.emod_eq_of_lt hl.1.1 hl.1.2]
    rfl
  · rw [tmod32 (by omega)]
    show _ = (-(a % 4294967296)) % 4294967296
    omega
  · show _ = a % 4294967296 % (b % 4294967296)
    exact rest_form32 _ _ (by omega) (by omega) (by omega) (by omega)
  · show _ = a % 4294967296 % (b % 4294967296)
    rw [show b % 4294967296 = 0 by omega, Int.emod_zero]
    omega
  · rw [Int.emod_eq_of_lt hl.2.2.1 (by omega), tmod32 hl.2.2.1, Int.emod_eq_of_lt hl.2.2.1 hl.2.2.2]
    rfl
  · show _ = b % 4294967296
    omega
  · show _ = (a % 4294967296 * 2 ^ (b % 32).toNat) % 4294967296
    unfold powI
    generalize a % 4294967296 * 2 ^ (b % 32).toNat = z
    rw [tmod32 (by omega)]
    omega
  · show _ = a % 4294967296 / 2 ^ (b % 32).toNat
    have q0 := Int.ediv_nonneg (show 0 ≤ a % 4294967296 by omega) (Int.le_of_lt hp3)
    have q1 := Int.ediv_le_self (powI (b % 32).toNat) (show 0 ≤ a % 4294967296 by omega)
    rw [tmod32 q0, Int.emod_eq_of_lt q0 (by omega)]
    rfl
  · rfl
  · show _ = (a - b) % 18446744073709551616
    omega
  · rfl
  · rfl
  · show _ = a / b
    rw [show b = 0 by omega, Int.ediv_zero]
  · rfl
  · rfl
  · show _ = (-a) % 18446744073709551616
    omega
  · show _ = a % b
    exact rest_form64 _ _ (by omega) (by omega) (by omega) (by omega)
  · show _ = a % b
    rw [show b = 0 by omega, Int.emod_zero]
  · rw [Int.emod_eq_of_lt hm.2.2.1 hm.2.2.2]
    rfl
  · rfl
  · rfl
  · rfl
end Go.Proofs.Ytfcekjdjhgoofaa
