/-
  Size of package insn, and the document's own Known and Size.
-/
import Derived.Test.YtpoliblfgioocaaFns
namespace Go.Proofs.Ytpoliblfgioocaa
open Go.RowKit

/-- How many bytes an access takes. -/
def sizeI (op : Int) : Int := if accB op = true ∧ knownB op = true then (if op / 8 = 12 then 4 else if op / 8 = 13 then 2 else if op / 8 = 14 then 1 else 8) else 0

theorem acc_iff (op : Int) : accB op = true ↔ 1 ≤ op % 8 ∧ op % 8 ≤ 3 := by unfold accB; simp
theorem known_acc {op : Int} (h : accB op = true) : knownB op = true ↔ 12 ≤ op / 8 ∧ op / 8 ≤ 15 := by
  rw [acc_iff] at h
  unfold knownB
  rw [decide_eq_true_iff, if_neg (by omega), if_pos (by omega)]

set_option maxHeartbeats 1000000 in
theorem rknown_any (op : Int) (w : World) (h0 : 0 ≤ op) (h1 : op ≤ 255) :
    Calls Try.prog 35 #[.int .i64 op] w fun e w' => e = .returned (.bool (knownB op)) ∧ w' = w := by
  have hc : op % 8 = 0 ∨ op % 8 = 1 ∨ op % 8 = 2 ∨ op % 8 = 3 ∨ op % 8 = 4 ∨ op % 8 = 5 ∨ op % 8 = 6 ∨ op % 8 = 7 := by omega
  rcases hc with hc | hc | hc | hc | hc | hc | hc | hc
  all_goals
    go_enter Try.func35, Try.ntmps35
    go_wp2
    all_goals
      go_ret
      refine ⟨ret_bool (known_mk ?_), rfl⟩
      first
        | (rw [if_pos hc]; simp; done)
        | (rw [if_neg (by omega), if_pos (by omega)]; simp; first | done | omega)
        | (rw [if_neg (by omega), if_neg (by omega), if_pos (by omega)]; simp; first | done | omega)
        | (rw [if_neg (by omega), if_neg (by omega), if_neg (by omega)]; simp; first | done | omega)

end Go.Proofs.Ytpoliblfgioocaa
