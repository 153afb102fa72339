/-
  For every input InsnOps returns true, and each argument reads afterwards as it read before. No conditions. (The walk.)
-/
import Derived.Test.YtjioemkapmchpaaFirst
import Derived.Test.YtjioemkapmchpaaFns2
namespace Go.Proofs.Ytjioemkapmchpaa
open Go.RowKit

set_option maxHeartbeats 2000000 in
set_option maxRecDepth 100000 in
theorem insnOps_walk (op : Int) (w : World) (h0 : 0 ≤ op) (h1 : op ≤ 255) :
    Calls Try.prog 5 #[.int .u8 op] w fun e w' => e = .returned (.bool true) ∧ Touch [] w w' := by
  have hr : regB op = (op / 8 % 2 == 1) := by unfold regB; rw [Bool.eq_iff_iff]; simp
  have hw : wideB op = (op == 24) := by unfold wideB; rw [Bool.eq_iff_iff]; simp
  go_enter Try.func5, Try.ntmps5
  go_wp2_with fail
  refine (first_any w).mono ?_
  rintro e w2 ⟨rfl, ht2⟩
  have HT := toHid ht2
  clear ht2
  go_wp2_with fail
  refine (known_any op _ h0 h1).mono ?_
  rintro e w2 ⟨rfl, rfl⟩
  go_wp2_with fail
  refine (rknown_any op _ h0 h1).mono ?_
  rintro e w2 ⟨rfl, rfl⟩
  go_wp2_with (first | (go_at_call 15; refine (class_any _ _ h0 h1).mono ?_; rintro e w2 ⟨rfl, rfl⟩) | (go_at_call 16; refine (kind_any _ _ h0 h1).mono ?_; rintro e w2 ⟨rfl, rfl⟩) | (go_at_call 17; refine (byReg_any _ _ h0 h1).mono ?_; rintro e w2 ⟨rfl, rfl⟩) | (go_at_call 18; refine (size_any _ _ h0 h1).mono ?_; rintro e w2 ⟨rfl, rfl⟩))
  refine (rsize_any op _ h0 h1).mono ?_
  rintro e w3 ⟨rfl, ht3⟩
  have HT3 := toHid (HT.out.trans ht3 (by simp))
  clear ht3 HT
  go_wp2_with (go_at_call 20; refine (wide_any _ _).mono ?_; rintro e w3 ⟨rfl, rfl⟩)
  go_ret
  exact ⟨rfl, HT3.out⟩
end Go.Proofs.Ytjioemkapmchpaa
