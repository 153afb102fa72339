/-
  The document's own Holds.
-/
import Derived.Test.YtfcekjdjhgoofaaRArsh
namespace Go.Proofs.Ytfcekjdjhgoofaa
open Go.RowKit

theorem ret_bb {x y p q : Bool} (h : x = y) (g : p = q) : Ending.returned (.tuple #[.bool x, .bool p]) = .returned (.tuple #[.bool y, .bool q]) := by rw [h, g]
set_option maxHeartbeats 4000000 in
theorem rholds_ok (k : Int) (wide : Bool) (a b : Int) (w : World) (hk : okCond k = true) (ha : U64 a) (hb : U64 b) :
    Calls Try.prog 13 #[.int .i64 k, .int .i64 (lenI wide), .int .u64 a, .int .u64 b] w fun e w' => e = .returned (.tuple #[.bool (holdI k wide a b), .bool true]) ∧ w' = w := by
  have hp4 : powI 31 = 2147483648 := rfl
  have hp5 : powI 63 = 9223372036854775808 := rfl
  simp [okCond] at hk
  have hl := toHid (bit_lt ha hb false)
  have hm := toHid (bit_lt ha hb true)
  obtain ⟨h0, h1⟩ := ha
  obtain ⟨g0, g1⟩ := hb
  have : k = 16 ∨ k = 80 ∨ k = 32 ∨ k = 48 ∨ k = 160 ∨ k = 176 ∨ k = 96 ∨ k = 112 ∨ k = 192 ∨ k = 208 ∨ k = 64 := by omega
  clear hk
  cases wide
  all_goals rcases this with rfl | rfl | rfl | rfl | rfl | rfl | rfl | rfl | rfl | rfl | rfl
  all_goals simp only [lenI, Bool.false_eq_true, ↓reduceIte]
  all_goals go_enter Try.func13, Try.ntmps13
  all_goals go_wp2_with (go_at_call 20; refine (pow_any _ _ (by omega) (by omega)).mono ?_; rintro e w ⟨rfl, rfl⟩)
  all_goals go_ret2
  all_goals refine ⟨ret_bb ?_ rfl, rfl⟩
  all_goals first
    | rfl
    | (rw [Bool.eq_iff_iff]; simp [holdI, cutI]; done)
    | (rw [Bool.eq_iff_iff]; simp only [holdI, sgnI, cutI, halfI, modI, Bool.false_eq_true, ↓reduceIte, Int.reduceEq, decide_eq_true_eq, IntKind.wrap_u64]; split <;> split <;> omega)
    | skip
  all_goals clear hp4 hp5
  · replace hl := hl.out.1.1
    rw [Bool.eq_iff_iff]
    simp [holdI, cutI] at *
    omega
  · replace hm := hm.out.1.1
    rw [Bool.eq_iff_iff]
    simp [holdI, cutI] at *
    omega
set_option maxHeartbeats 4000000 in
theorem rholds_bad (k : Int) (wide : Bool) (a b : Int) (w : World) (hk : okCond k = false) (ha : U64 a) (hb : U64 b) :
    Calls Try.prog 13 #[.int .i64 k, .int .i64 (lenI wide), .int .u64 a, .int .u64 b] w fun e w' => e = .returned (.tuple #[.bool false, .bool false]) ∧ w' = w := by
  have hp4 : powI 31 = 2147483648 := rfl
  have hp5 : powI 63 = 9223372036854775808 := rfl
  simp [okCond] at hk
  obtain ⟨h0, h1⟩ := ha
  obtain ⟨g0, g1⟩ := hb
  have k1 : k ≠ 16 := by omega
  have k2 : k ≠ 80 := by omega
  have k3 : k ≠ 32 := by omega
  have k4 : k ≠ 48 := by omega
  have k5 : k ≠ 160 := by omega
  have k6 : k ≠ 176 := by omega
  have k7 : k ≠ 96 := by omega
  have k8 : k ≠ 112 := by omega
  have k9 : k ≠ 192 := by omega
  have k10 : k ≠ 208 := by omega
  have k11 : k ≠ 64 := by omega
  clear hk
  cases wide
  all_goals simp only [lenI, Bool.false_eq_true, ↓reduceIte]
  all_goals go_enter Try.func13, Try.ntmps13
  all_goals go_wp2_with (go_at_call 20; refine (pow_any _ _ (by omega) (by omega)).mono ?_; rintro e w ⟨rfl, rfl⟩)
  all_goals go_ret2
  all_goals exact ⟨rfl, rfl⟩
end Go.Proofs.Ytfcekjdjhgoofaa
