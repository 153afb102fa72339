/-
  For every input AluDo returns true, and each argument reads afterwards as it read before. No conditions. (The walk.)
-/
import Derived.Test.YtfcekjdjhgoofaaRArsh
namespace Go.Proofs.Ytfcekjdjhgoofaa
open Go.RowKit

set_option maxHeartbeats 2000000 in
theorem aluDo_walk (k a b : Int) (w : World) (ha : U64 a) (hb : U64 b) :
    Calls Try.prog 3 #[.int .i64 k, .int .u64 a, .int .u64 b] w fun e w' => e = .returned (.bool true) ∧ Touch [] w w' := by
  have hB := Blk.newA w #[.bool true, .bool false] _ 4 rfl
  have HT := toHid ((Touch.refl [] w).alloc (.cells #[.bool true, .bool false] 4))
  have HD : Hid (∀ v w, Calls Try.prog 9 #[.int .i64 k, .bool v, .int .u64 a, .int .u64 b] w fun e w' => (okOp k = true ∧ e = .returned (.tuple #[.int .u64 (opI k v a b), .int .i64 0]) ∨ okOp k = false ∧ e = .returned (.tuple #[.int .u64 0, .int .i64 2])) ∧ w' = w) := by
    refine toHid fun v w => ?_
    cases hk : okOp k
    · exact (do_bad k v a b w hk).mono fun e w' ⟨h, h'⟩ => ⟨Or.inr ⟨rfl, h⟩, h'⟩
    · exact (do_ok k v a b w hk ha hb).mono fun e w' ⟨h, h'⟩ => ⟨Or.inl ⟨rfl, h⟩, h'⟩
  have HR : Hid (∀ v w, Calls Try.prog 10 #[.int .i64 k, .int .i64 (lenI v), .int .u64 a, .int .u64 b] w fun e w' => (okOp k = true ∧ e = .returned (.tuple #[.int .u64 (opI k v a b), .bool true]) ∨ okOp k = false ∧ e = .returned (.tuple #[.int .u64 0, .bool false])) ∧ w' = w) := by
    refine toHid fun v w => ?_
    cases hk : okOp k
    · exact (rdo_bad k v a b w hk).mono fun e w' ⟨h, h'⟩ => ⟨Or.inr ⟨rfl, h⟩, h'⟩
    · exact (rdo_any k v a b w hk ha hb).mono fun e w' ⟨h, h'⟩ => ⟨Or.inl ⟨rfl, h⟩, h'⟩
  go_enter Try.func3, Try.ntmps3
  go_wp2_with (go_at_call 8; refine (first_any _).mono ?_; rintro e w ⟨rfl, rfl⟩)
  generalize w.heap.size = N at *
  generalize World.alloc _ _ = w1 at *
  go_loopw [17] (fun t w' => ∃ j : Nat, j ≤ 2 ∧ t = .int .i64 j ∧ w' = w1) (fun t _ => 2 - (intOf t).toNat)
  case atStart => exact ⟨0, by omega, rfl, rfl⟩
  case round =>
    obtain ⟨j, hj, rfl, rfl⟩ := hrel
    by_cases h2 : j = 2
    · subst h2
      go_wp2
      go_ret
      exact ⟨rfl, HT.out⟩
    · obtain ⟨v, hv⟩ : ∃ v, ([Value.bool true, Value.bool false])[j]? = some (Value.bool v) := by
        have : j = 0 ∨ j = 1 := by omega
        rcases this with rfl | rfl
        · exact ⟨_, rfl⟩
        · exact ⟨_, rfl⟩
      have hc := hB.cell hv
      clear hv
      have hlt : j < 2 := by omega
      go_wp2_with fail
      refine (HD.out v _).mono ?_
      rintro e w2 ⟨he, rfl⟩
      cases hk : okOp k
      all_goals rw [hk] at he
      all_goals simp at he
      all_goals subst he
      all_goals go_wp2_with fail
      all_goals refine (bitsOf_any v _).mono ?_
      all_goals rintro e w2 ⟨rfl, rfl⟩
      all_goals go_wp2_with fail
      all_goals refine (HR.out v _).mono ?_
      all_goals rintro e w2 ⟨he, rfl⟩
      all_goals rw [hk] at he
      all_goals simp at he
      all_goals subst he
      all_goals go_wp2
      all_goals go_roundw
      all_goals first | exact ⟨j + 1, by omega, rfl, trivial⟩ | (simp [intOf]; omega)
end Go.Proofs.Ytfcekjdjhgoofaa
