/-
  A script that came in, each key's length within its capacity.
-/
import Derived.Test.YtlkbaconlngmjaaScript
namespace Go.Proofs.Ytlkbaconlngmjaa
open Go.ChangeShapes Go.WideShapes Go.ChangeAt Go.RowKit

/-- A script that came in. -/
def Script9 (w : World) (sa : Option Addr) (n : Nat) (f : Nat → OpC) : Prop := Script w sa n f ∧ ∀ j, j < n → (f j).sl ≤ (f j).sc
section
variable {H : Type} {enc : TypeId × Value → H} {W : World}
/-- A slice of bytes inside what came in. -/
theorem key_in9 {m : Nat} {v : Value} {x : DataW H × List MemPlace} (h : DataW.trod enc Try.prog W 0 (fun _ => true) true m 32 [v] = some x) : ∃ sa sl sc bs, v = .slice sa sl sc ∧ KeyAt W sa sl bs ∧ sl ≤ sc := by
  rcases open_ints Try.underlying32 Try.underlying5 (by kernel_rfl) h with ⟨hcs, _⟩ | ⟨a, l, c, zs, hcs, _, hl, hm, hz, _, hcell, hwz⟩
  · simp at hcs
    exact ⟨none, 0, 0, [], hcs, ⟨rfl, by simp, by simp, by simp⟩, Nat.le_refl _⟩
  · simp at hcs
    have hz' : zs.length = c := by simpa using hz
    unfold maxLen at hm
    have hlen : (zs.take l).length = l := by simp; omega
    refine ⟨some a, l, c, zs.take l, hcs, ⟨hlen.symm, fun y hy => wf_u8 (hwz y (List.mem_of_mem_take hy)), by omega, fun hp => ?_⟩, hl⟩
    obtain ⟨b, off, spot⟩ := a
    have hc := hcell 0 (by omega)
    have hspot : spot = none := by simpa [Addr.add] using World.cell?_spot hc
    subst hspot
    refine ⟨b, off, rfl, fun j hj => ?_⟩
    have hjl : j < l := by omega
    have hj' := hcell j (by omega)
    rw [Addr.add_lit] at hj'
    rw [hj', List.getD_eq_getElem?_getD, List.getD_eq_getElem?_getD, List.getElem?_take, if_pos hjl]

set_option maxRecDepth 100000 in
theorem op_at9 {m : Nat} {cs : List Value} {x : DataW H × List MemPlace} (h : DataW.trod enc Try.prog W 0 (fun _ => true) true m 35 cs = some x) : ∃ o : OpC, (o.Ok W ∧ o.sl ≤ o.sc) ∧ cs = o.cells := by
  obtain ⟨xs, k, _, _, hl, hxl, hf⟩ := DataW.trod_struct Try.underlying35 h
  rw [cells35] at hl
  match cs, hl with
  | [u0, u1, u2], _ =>
    have g0 : DataW.trod enc Try.prog W 0 (fun _ => true) true k 3 (List.take (Try.prog.cellsOf 3) (List.drop 0 [u0, u1, u2])) = xs[0]? := hf 0 _ rfl
    have g1 : DataW.trod enc Try.prog W 0 (fun _ => true) true k 32 (List.take (Try.prog.cellsOf 32) (List.drop 1 [u0, u1, u2])) = xs[1]? := hf 1 _ rfl
    have g2 : DataW.trod enc Try.prog W 0 (fun _ => true) true k 33 (List.take (Try.prog.cellsOf 33) (List.drop 2 [u0, u1, u2])) = xs[2]? := hf 2 _ rfl
    have k3 : Try.prog.cellsOf 3 = 1 := by kernel_rfl
    have k32 : Try.prog.cellsOf 32 = 1 := by kernel_rfl
    have k33 : Try.prog.cellsOf 33 = 1 := by kernel_rfl
    simp only [k3, k32, k33, List.drop_succ_cons, List.drop_zero, List.take_succ_cons, List.take_zero] at g0 g1 g2
    match xs, hxl with
    | [x0, x1, x2], _ =>
      obtain ⟨n0, e0, _, w0⟩ := DataW.trod_int Try.underlying3 (show _ = some x0 from g0)
      obtain ⟨sa, sl, sc, bs, e1, ha, hsc⟩ := key_in9 (show _ = some x1 from g1)
      obtain ⟨n2, e2, _, w2⟩ := DataW.trod_int Try.underlying33 (show _ = some x2 from g2)
      simp at e0 e2
      subst e0 e1 e2
      exact ⟨⟨n0, sa, sl, sc, bs, n2⟩, ⟨⟨(wf_i64 w0).1, (wf_i64 w0).2, (wf_u64 w2).1, (wf_u64 w2).2, ha⟩, hsc⟩, rfl⟩

set_option maxRecDepth 100000 in
theorem script_in9 {sa : Option Addr} {n c : Nat} {d : DataW H} {p : List MemPlace} (h : DataW.Trod enc Try.prog W 0 (fun _ => true) true 23 (.slice sa n c) d p) : (∃ f, Script9 W sa n f) ∧ n ≤ 9223372036854775807 ∧ n ≤ c := by
  obtain ⟨fuel, hf⟩ := h
  rcases Deep.open_slice Try.underlying23 hf with ⟨hcs, _⟩ | ⟨x, l, c', m, k, D, Pl, hcs, _, hl, hm, hmm, _, hx⟩
  · simp [Value.cells] at hcs
    obtain ⟨rfl, rfl, rfl⟩ := hcs
    exact ⟨⟨fun _ => OpC.zero, Or.inl rfl, fun j hj => by omega⟩, by omega, by omega⟩
  · simp [Value.cells] at hcs
    obtain ⟨rfl, rfl, rfl⟩ := hcs
    simp only [if_true] at hmm
    subst hmm
    unfold maxLen at hm
    refine ⟨?_, by omega, by omega⟩
    by_cases h0 : n = 0
    · exact ⟨fun _ => OpC.zero, Or.inl h0, fun j hj => by omega⟩
    · rw [cells35] at hx
      have hx' : ∀ j, j < n → ∃ o : OpC, (o.Ok W ∧ o.sl ≤ o.sc) ∧ ∀ r v, o.cells[r]? = some v → W.cell? ((x.add (j * 3)).add r) = some v := by
        intro j hj
        obtain ⟨cs', h1, h2⟩ := hx j (by omega)
        obtain ⟨o, ok, rfl⟩ := op_at9 h2
        obtain ⟨_, hlen, hcell⟩ := World.cells?_some h1
        refine ⟨o, ok, fun r v hv => ?_⟩
        have hr : r < 3 := by have := (List.getElem?_eq_some_iff.1 hv).1; simpa [OpC.cells] using this
        rw [hcell r hr]
        exact hv
      obtain ⟨f, hf⟩ := choose_op hx'
      obtain ⟨b, off, spot⟩ := x
      have hc := (hf 0 (by omega)).2 0 _ rfl
      have hspot : spot = none := by simpa [Addr.add] using World.cell?_spot hc
      subst hspot
      refine ⟨f, Or.inr ⟨b, off, rfl, fun j hj => ?_⟩, fun j hj => (hf j hj).1.2⟩
      obtain ⟨ok, hcell⟩ := hf j hj
      have k0 := hcell 0 _ rfl
      have k1 := hcell 1 _ rfl
      have k2 := hcell 2 _ rfl
      simp only [Addr.add_lit, Nat.add_zero] at k0 k1 k2
      exact ⟨ok.1, k0, k1, k2⟩
end
end Go.Proofs.Ytlkbaconlngmjaa
