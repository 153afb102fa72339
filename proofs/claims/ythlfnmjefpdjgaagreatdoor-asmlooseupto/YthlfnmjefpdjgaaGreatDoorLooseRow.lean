/-
  For every input of bulk at most 1048576 AsmLoose returns true, and each argument reads afterwards as it read before. Conditions: the listed package-level variables hold what the program's text lays; the arguments are of that bulk.
-/
import Derived.Test.YthlfnmjefpdjgaaGreatDoorCameB
import Derived.Test.YthlfnmjefpdjgaaGreatDoorBulk
namespace Go.Proofs.YthlfnmjefpdjgaaGreatDoor
open Go.ChangeShapes Go.WideShapes Go.ChangeAt Go.RowKit

theorem asmLoose_reads (os : Os) {H : Type} (enc : TypeId × Value → H) : ∃ places, DataW.whole enc Tryz.prog ((laidWorld os).forCall (fun _ _ => 0) ⟨#[], #[.slice none 0 0, .slice none 0 0], []⟩).memory Tryz.f6.params.toList Rows.asmLooseSpec.vars false (#[.slice none 0 0, .slice none 0 0] : Array Value).toList 8 = some ([.nil, .nil], [], places) :=
  ⟨[], by kernel_rfl⟩

set_option maxRecDepth 100000 in
theorem asmLoose_lifted (os : Os) (started : os.Started) (H : Type) (enc : TypeId × Value → H) (F : Stop.Interp) :
    ReturnsInHanded {} Tryz.checked os 6 .any ((Rows.OpenSpec.upto Rows.asmLooseSpec).preRow enc Tryz.prog Tryz.f6 Rows.asmLooseUptoRow.domain false Rows.asmLooseUptoRow.laid) (((Rows.OpenSpec.upto Rows.asmLooseSpec).at F).post enc Tryz.prog Tryz.f6 false true false false) := by
  obtain ⟨places, hx⟩ := asmLoose_reads os enc
  refine returnsInHanded_of_row (C := Tryz.checked) (s := Rows.OpenSpec.upto Rows.asmLooseSpec) own started (by kernel_rfl) Tryz.func6
    (witness_row_atRef (enc := enc) (C := Tryz.checked) false (laidWorld os) #[.slice none 0 0, .slice none 0 0] rfl (by kernel_rfl) (by kernel_rfl) (by kernel_rfl)
      (OpenSpec.preRow_of_cond 8 hx (by kernel_rfl) (fun k hk => by cases hk; kernel_rfl) (by kernel_rfl) (laid_met os _))) ?_
  intro W base args ds gs before hval0 hW _ hcond _ hL hsh _
  have hbulk : Rows.uptoSmall H (ds ++ gs) = true := hcond _ rfl
  clear hcond
  have hE : Env W := env_of hL hsh
  have hval : ∀ (j : Nat) t v, Tryz.f6.params[j]? = some t → args[j]? = some v → Value.okWide Tryz.prog W .any base t v := hval0
  have hW' := hW
  obtain ⟨p, q, hA0, hV0, rfl, _, _⟩ := hW
  have hA : DataW.TrodAll enc Tryz.prog W 0 (fun _ => true) true Tryz.f6.params.toList args.toList ds p := hA0
  rw [Tryz.params6] at hA hval
  obtain ⟨v0, vs0, d0, ds0, p0, q0, hargs, rfl, rfl, h0, r0⟩ := trodAll_cons hA
  obtain ⟨v1, vs1, d1, ds1, p1, q1, rfl, rfl, rfl, h1, r1⟩ := trodAll_cons r0
  obtain ⟨rfl, rfl, rfl⟩ := trodAll_nil r1
  obtain rfl : args = #[v0, v1] := by cases args; simp_all
  obtain ⟨rfl, rfl⟩ := trodVars_none hV0
  have lt0 : ∀ x ∈ p0, x.block < W.heap.size := by obtain ⟨m, hm⟩ := h0; exact DataW.trod_lt m _ _ _ hm
  have lt1 : ∀ x ∈ p1, x.block < W.heap.size := by obtain ⟨m, hm⟩ := h1; exact DataW.trod_lt m _ _ _ hm
  have hbk := of_decide_eq_true hbulk
  obtain ⟨sa, n, c, rfl⟩ := slice_open Tryz.underlying22 (hval 0 22 v0 rfl rfl)
  obtain ⟨sb, m, cb, rfl⟩ := slice_open Tryz.underlying36 (hval 1 36 v1 rfl rfl)
  obtain ⟨⟨f, hf⟩, hnc, _, hcd⟩ := came_inst h0
  obtain ⟨⟨z, hz⟩, hmc, hce⟩ := came_bytes h1
  simp only [List.append_nil, Rows.uptoBulkAll, Nat.add_zero] at hbk
  have hcc : c ≤ 1048576 := by
    rcases hcd with hcd | ⟨el, sp, hd, hl⟩
    · omega
    · subst hd
      have := bulk_slice el sp _ (Nat.le_trans (Nat.le_add_right _ _) hbk)
      omega
  have hcc2 : cb ≤ 1048576 := by
    rcases hce with hce | ⟨el, sp, hd, hl⟩
    · omega
    · subst hd
      have := bulk_slice el sp _ (Nat.le_trans (Nat.le_add_left _ _) hbk)
      omega
  have hlen : ((List.range n).map f).length = n := by simp
  have hwalk := loose_walk ((List.range n).map f) sa c sb m cb z W hE (by omega) (by omega) (by omega) (lc_came hf) (ok_came hf) hz
  rw [hlen] at hwalk
  clear hA0 hval0
  refine (hwalk).mono fun e W' ⟨he, ht⟩ => ?_
  subst he
  have bel := ht.below
  exact ⟨_, rfl, _, _, _, [], _, [], hW', trodAll_mk1 (shut_bool Tryz.underlying4 _), (trodAll_cons_mk (Below.trod laidOut (by kernel_rfl) (of_decide_eq_true (by kernel_rfl)) h0 bel lt0) (trodAll_cons_mk (Below.trod laidOut (by kernel_rfl) (of_decide_eq_true (by kernel_rfl)) h1 bel lt1) trodAll_mk0)), rfl, bel.frame _, fun h => by cases h⟩

theorem asmLoose_said : Rows.AsmLooseUptoSaid :=
  OpenClaim.holds_of_cond 6 Tryz.f6 rfl rfl rfl rfl rfl rfl rfl ⟨rfl, rfl, rfl, rfl, rfl⟩ rfl rfl rfl rfl rfl (by kernel_rfl) Tryz.func6 (by kernel_rfl)
    (of_decide_eq_true (by kernel_rfl)) (by unfold Func.isWrapper; first | (rw [if_pos (by decide +kernel)]; kernel_rfl) | (rw [if_neg (by decide +kernel)]; exact ⟨rfl, rfl⟩))
    (fun os started H enc _ F => by rw [OpenClaim.pre_eq_preRow]; exact asmLoose_lifted os started H enc F)
theorem asmLoose_plain (f : FuncId) (fn : Func) (hf : Tryz.pinned.checked.prog.funcNamed "postern/posternlaw03.AsmLoose" = some f) (hfn : Tryz.pinned.checked.prog.funcs[f]? = some fn) :
    true = Tryz.pinned.checked.prog.looks [] ∧ ∀ (j : Nat) t, fn.params[j]? = some t → Tryz.pinned.checked.prog.wantsStandIn t = false := by
  obtain rfl : f = 6 := Option.some.inj ((show Tryz.prog.funcNamed "postern/posternlaw03.AsmLoose" = some 6 by kernel_rfl).symm.trans hf) |>.symm
  obtain rfl : fn = Tryz.f6 := (Option.some.inj (Tryz.func6.symm.trans hfn)).symm
  refine ⟨by kernel_rfl, fun j t ht => ?_⟩
  rw [Tryz.params6] at ht
  have hm : t = 22 ∨ t = 36 := by simpa using Array.mem_of_getElem? ht
  rcases hm with rfl | rfl
  · exact (show Tryz.prog.wantsStandIn 22 = false by kernel_rfl)
  · exact (show Tryz.prog.wantsStandIn 36 = false by kernel_rfl)
theorem asmLoose_card : Rows.AsmLooseUptoCardSaid :=
  Claim7.holds_tied_plain_at .later [] _ _ _ _ asmLoose_said (fun _ h => by cases h) (by kernel_rfl) (fun _ h => by cases h) asmLooseUpto_row_tie rfl ⟨rfl, rfl⟩ (by kernel_rfl) rfl asmLoose_plain (by kernel_rfl)

#print axioms asmLoose_card
end Go.Proofs.YthlfnmjefpdjgaaGreatDoor
