/-
  For every input FormJoins returns true, and each argument reads afterwards as it read before. No conditions.
-/
import Derived.Test.YtpoliblfgioocaaFormJoins
import Derived.Test.YtpoliblfgioocaaSl
import Derived.ProofKit
import Derived.OpenShut
namespace Go.Proofs.Ytpoliblfgioocaa
open Go.ChangeShapes Go.WideShapes Go.ChangeAt Go.RowKit

set_option maxRecDepth 100000 in
theorem formJoins_lifted (os : Os) (started : os.Started) (H : Type) (enc : TypeId × Value → H) :
    ReturnsInHanded {} Try.checked os 6 .any (Rows.formJoinsSpec.pre6 enc Try.prog Try.f6 Rows.formJoinsRow.domain false) (Rows.formJoinsSpec.post enc Try.prog Try.f6 false true false false) := by
  refine returnsInHanded_of_change_sized (C := Try.checked) own started (by kernel_rfl) Try.func6
    (ChangeSpec.witness6 (enc := enc) (C := Try.checked) false ⟨#[], #[.slice none 0 0, .slice none 0 0], []⟩ 8 (by kernel_rfl) (by kernel_rfl) (by kernel_rfl) (by kernel_rfl)) ?_
  intro W base args ds gs before hval0 hW _ hsz0 _
  have hsz : (DataW.weightsEach Try.prog (Try.f6.params.toList ++ Rows.formJoinsSpec.plain.varTypes Try.prog) (ds ++ gs)).all (· ≤ reachBytes) = true := hsz0
  clear hsz0
  have hval : ∀ (j : Nat) t v, Try.f6.params[j]? = some t → args[j]? = some v → Value.okWide Try.prog W .any base t v := hval0
  have hW' := hW
  obtain ⟨p, q, hA0, hV, rfl, _, _⟩ := hW
  have hA : DataW.TrodAll enc Try.prog W 0 (fun _ => true) true Try.f6.params.toList args.toList ds p := hA0
  rw [Try.params6] at hA hval hsz
  obtain ⟨v0, vs0, d0, ds0, p0, q0, hargs, rfl, rfl, h0, r0⟩ := trodAll_cons hA
  obtain ⟨v1, vs1, d1, ds1, p1, q1, rfl, rfl, rfl, h1, r1⟩ := trodAll_cons r0
  obtain ⟨rfl, rfl, rfl⟩ := trodAll_nil r1
  obtain rfl : args = #[v0, v1] := by cases args; simp_all
  obtain ⟨rfl, rfl⟩ := trodVars_none hV
  have lt0 : ∀ x ∈ p0, x.block < W.heap.size := by obtain ⟨m, hm⟩ := h0; exact DataW.trod_lt m _ _ _ hm
  have lt1 : ∀ x ∈ p1, x.block < W.heap.size := by obtain ⟨m, hm⟩ := h1; exact DataW.trod_lt m _ _ _ hm
  obtain ⟨sa, n, c, rfl⟩ := slice_open Try.underlying22 (hval 0 22 v0 rfl rfl)
  obtain ⟨⟨f, hf⟩, hnc, _, hcd⟩ := came_inst h0
  have hcc : c * 12 ≤ 140737488351232 := by
    rcases hcd with hcd | ⟨el, sp, hd, hl⟩
    · omega
    · subst hd
      have := sized_slice hsz (j := 0) (t := 22) (e := 31) rfl rfl Try.underlying22
      rw [bytes31, hl] at this
      simp only [reachBytes] at this
      omega
  obtain ⟨sab, nb, cb, rfl⟩ := slice_open Try.underlying22 (hval 1 22 v1 rfl rfl)
  obtain ⟨⟨fb, hfb⟩, hncb, _, hcdb⟩ := came_inst h1
  have hccb : cb * 12 ≤ 140737488351232 := by
    rcases hcdb with hcd | ⟨el, sp, hd, hl⟩
    · omega
    · subst hd
      have := sized_slice hsz (j := 1) (t := 22) (e := 31) rfl rfl Try.underlying22
      rw [bytes31, hl] at this
      simp only [reachBytes] at this
      omega
  clear hA0 hval0
  refine (formJoins_walk sa n c sab nb cb f fb W (came_list hf) (came_list hfb) (by omega) (by omega)).mono fun e W' ⟨he, ht⟩ => ?_
  subst he
  have bel := ht.below
  exact ⟨_, rfl, _, _, _, [], _, [], hW', trodAll_mk1 (shut_bool Try.underlying4 _), (trodAll_cons_mk (Below.trod laidOut (by kernel_rfl) (of_decide_eq_true (by kernel_rfl)) h0 bel lt0) (trodAll_cons_mk (Below.trod laidOut (by kernel_rfl) (of_decide_eq_true (by kernel_rfl)) h1 bel lt1) trodAll_mk0)), rfl, bel.frame _, fun h => by cases h⟩

theorem formJoins_holds : Rows.FormJoinsSaid :=
  OpenClaim.holds_of_wide 6 Try.f6 rfl rfl rfl rfl rfl rfl rfl ⟨rfl, rfl, rfl, rfl, rfl⟩ rfl rfl rfl rfl rfl (by kernel_rfl) Try.func6 (by kernel_rfl)
    (of_decide_eq_true (by kernel_rfl)) (by unfold Func.isWrapper; first | (rw [if_pos (by decide +kernel)]; kernel_rfl) | (rw [if_neg (by decide +kernel)]; exact ⟨rfl, rfl⟩))
    (fun os started H enc _ => formJoins_lifted os started H enc)

#print axioms formJoins_holds
end Go.Proofs.Ytpoliblfgioocaa
