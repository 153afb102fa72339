/-
  Arguments that came in: numbers, scripts.
-/
import Derived.Test.YtkfmhabplcikiaaGRoom
import Derived.ProofKit
import Derived.Deep.Slices
namespace Go.Proofs.Ytkfmhabplcikiaa.Ring
open Go.ChangeShapes Go.WideShapes Go.ChangeAt Go.RowKit

theorem own : ownKnob Try.prog.godebug = none := by kernel_rfl
theorem laidOut : laidOutB Try.prog = true := by kernel_rfl
theorem cellsOp : Try.prog.cellsOf 44 = 3 := by kernel_rfl
theorem cell_int {P : Program} {w : World} {r : Reach} {base : Nat} {t : TypeId} {v : Value} {k : IntKind} (ht : P.underlying t = some (.int k)) (h : Cell.okWide P w r base t v) : ∃ n, v = .int k n ∧ k.has n := by
  simp only [Cell.okWide, ht] at h
  cases v <;> simp_all [Cell.ok]
theorem cell_slice {P : Program} {w : World} {r : Reach} {base : Nat} {t e : TypeId} {v : Value} (ht : P.underlying t = some (.slice e)) (h : Cell.okWide P w r base t v) : ∃ a len cap, v = .slice a len cap := by
  simp only [Cell.okWide, ht] at h
  cases v <;> simp_all [Cell.ok]
theorem int_open {P : Program} {w : World} {r : Reach} {base : Nat} {t : TypeId} {v : Value} {k : IntKind} (ht : P.underlying t = some (.int k)) (h : Value.okWide P w r base t v) : ∃ n, v = .int k n ∧ k.has n := by
  simp only [Value.okWide, ht] at h
  exact cell_int ht h
theorem slice_open {P : Program} {w : World} {r : Reach} {base : Nat} {t e : TypeId} {v : Value} (ht : P.underlying t = some (.slice e)) (h : Value.okWide P w r base t v) : ∃ a len cap, v = .slice a len cap := by
  simp only [Value.okWide, ht] at h
  exact cell_slice ht h
theorem has_i64 {n : Int} (h : IntKind.i64.has n) : -9223372036854775808 ≤ n ∧ n ≤ 9223372036854775807 := by
  simp [IntKind.has, IntKind.min, IntKind.max, IntKind.signed, IntKind.bits] at h
  omega
theorem has_u64 {n : Int} (h : IntKind.u64.has n) : 0 ≤ n ∧ n ≤ 18446744073709551615 := by
  simp [IntKind.has, IntKind.min, IntKind.max, IntKind.signed, IntKind.bits] at h
  omega
set_option maxRecDepth 100000 in
theorem val_i64 {W : World} {base : Nat} {v : Value} (h : Value.okWide Try.prog W .any base 3 v) : ∃ n, v = .int .i64 n ∧ -9223372036854775808 ≤ n ∧ n ≤ 9223372036854775807 := by
  obtain ⟨n, rfl, hn⟩ := int_open Try.underlying3 h
  exact ⟨n, rfl, has_i64 hn⟩
set_option maxRecDepth 100000 in
theorem val_u64 {W : World} {base : Nat} {v : Value} (h : Value.okWide Try.prog W .any base 30 v) : ∃ n, v = .int .u64 n ∧ 0 ≤ n ∧ n ≤ 18446744073709551615 := by
  obtain ⟨n, rfl, hn⟩ := int_open Try.underlying30 h
  exact ⟨n, rfl, has_u64 hn⟩
theorem wf_u64 {n : Int} (h : (Lit.int .u64 n).wf = true) : 0 ≤ n ∧ n ≤ 18446744073709551615 := by
  simp [Lit.wf, IntKind.min, IntKind.max, IntKind.signed, IntKind.bits] at h
  omega
theorem wf_i64 {n : Int} (h : (Lit.int .i64 n).wf = true) : -9223372036854775808 ≤ n ∧ n ≤ 9223372036854775807 := by
  simp [Lit.wf, IntKind.min, IntKind.max, IntKind.signed, IntKind.bits] at h
  omega
/-- A call of a script. -/
structure OpT where
  k : Int
  at_ : Int
  n : Int
def OpT.cells (o : OpT) : List Value := [.int .i64 o.k, .int .i64 o.at_, .int .u64 o.n]
structure OpT.Ok (o : OpT) : Prop where
  k0 : -9223372036854775808 ≤ o.k
  k1 : o.k ≤ 9223372036854775807
  m0 : -9223372036854775808 ≤ o.at_
  m1 : o.at_ ≤ 9223372036854775807
  f0 : 0 ≤ o.n
  f1 : o.n ≤ 18446744073709551615
structure ScriptT (w : World) (sa : Option Addr) (n : Nat) (f : Nat → OpT) : Prop where
  small : n ≤ 9223372036854775807
  at_ : ∀ j, j < n → ∃ b off, sa = some ⟨b, off, none⟩ ∧ (f j).Ok ∧ ∀ r v, (f j).cells[r]? = some v → w.cell? ⟨b, off + j * 3 + r, none⟩ = some v
theorem ScriptT.touch {w w' : World} {sa : Option Addr} {n : Nat} {f : Nat → OpT} (h : ScriptT w sa n f) (ht : Touch [] w w') : ScriptT w' sa n f :=
  ⟨h.small, fun j hj => by
    obtain ⟨b, off, h1, h2, h3⟩ := h.at_ j hj
    exact ⟨b, off, h1, h2, fun r v hv => ht.cell (h3 r v hv) (by simp)⟩⟩
section
variable {H : Type} {enc : TypeId × Value → H} {W : World}
set_option maxRecDepth 100000 in
theorem nums_in {sa : Option Addr} {n c : Nat} {d : DataW H} {p : List MemPlace} (h : DataW.Trod enc Try.prog W 0 (fun _ => true) true 62 (.slice sa n c) d p) : ∃ f, NumsT W sa n f := by
  obtain ⟨fuel, hf⟩ := h
  rcases open_ints Try.underlying62 Try.underlying30 (by kernel_rfl) hf with ⟨hcs, _⟩ | ⟨a, l, c', zs, hcs, _, hl, hm, hz, _, hcell, hwz⟩
  · simp [Value.cells] at hcs
    obtain ⟨rfl, rfl, rfl⟩ := hcs
    exact ⟨fun _ => 0, by omega, fun j hj => by omega⟩
  · simp [Value.cells] at hcs
    obtain ⟨rfl, rfl, rfl⟩ := hcs
    have hz' : zs.length = c := by simpa using hz
    unfold maxLen at hm
    refine ⟨fun j => zs.getD j 0, by omega, fun j hj => ?_⟩
    obtain ⟨b, off, spot⟩ := a
    have hc := hcell 0 (by omega)
    have hspot : spot = none := by simpa [Addr.add] using World.cell?_spot hc
    subst hspot
    have hj' := hcell j (by omega)
    rw [Addr.add_lit] at hj'
    have hw := wf_u64 (hwz (zs.getD j 0) (by
      rw [List.getD_eq_getElem?_getD, List.getElem?_eq_getElem (by omega)]
      exact List.getElem_mem _))
    exact ⟨b, off, rfl, hw.1, hw.2, hj'⟩
set_option maxRecDepth 100000 in
theorem op_at {m : Nat} {cs : List Value} {x : DataW H × List MemPlace} (h : DataW.trod enc Try.prog W 0 (fun _ => true) true m 44 cs = some x) : ∃ o : OpT, o.Ok ∧ cs = o.cells := by
  obtain ⟨xs, k, _, _, hl, hxl, hf⟩ := DataW.trod_struct Try.underlying44 h
  rw [cellsOp] at hl
  match cs, hl with
  | [u0, u1, u2], _ =>
    have g0 : DataW.trod enc Try.prog W 0 (fun _ => true) true k 3 (List.take (Try.prog.cellsOf 3) (List.drop 0 [u0, u1, u2])) = xs[0]? := hf 0 _ rfl
    have g1 : DataW.trod enc Try.prog W 0 (fun _ => true) true k 3 (List.take (Try.prog.cellsOf 3) (List.drop 1 [u0, u1, u2])) = xs[1]? := hf 1 _ rfl
    have g2 : DataW.trod enc Try.prog W 0 (fun _ => true) true k 30 (List.take (Try.prog.cellsOf 30) (List.drop 2 [u0, u1, u2])) = xs[2]? := hf 2 _ rfl
    have k3 : Try.prog.cellsOf 3 = 1 := by kernel_rfl
    have ku : Try.prog.cellsOf 30 = 1 := by kernel_rfl
    simp only [k3, ku, List.drop_succ_cons, List.drop_zero, List.take_succ_cons, List.take_zero] at g0 g1 g2
    match xs, hxl with
    | [x0, x1, x2], _ =>
      obtain ⟨n0, e0, _, w0⟩ := DataW.trod_int Try.underlying3 (show _ = some x0 from g0)
      obtain ⟨n1, e1, _, w1⟩ := DataW.trod_int Try.underlying3 (show _ = some x1 from g1)
      obtain ⟨n2, e2, _, w2⟩ := DataW.trod_int Try.underlying30 (show _ = some x2 from g2)
      simp at e0 e1 e2
      subst e0 e1 e2
      exact ⟨⟨n0, n1, n2⟩, ⟨(wf_i64 w0).1, (wf_i64 w0).2, (wf_i64 w1).1, (wf_i64 w1).2, (wf_u64 w2).1, (wf_u64 w2).2⟩, rfl⟩
theorem choose_op {Q : Nat → OpT → Prop} {m : Nat} (h : ∀ j, j < m → ∃ i, Q j i) : ∃ f : Nat → OpT, ∀ j, j < m → Q j (f j) := by
  refine ⟨fun j => if hj : j < m then Classical.choose (h j hj) else ⟨0, 0, 0⟩, fun j hj => ?_⟩
  simp only [hj, dif_pos]
  exact Classical.choose_spec (h j hj)
set_option maxRecDepth 100000 in
theorem script_in {sa : Option Addr} {n c : Nat} {d : DataW H} {p : List MemPlace} (h : DataW.Trod enc Try.prog W 0 (fun _ => true) true 22 (.slice sa n c) d p) : ∃ f, ScriptT W sa n f := by
  obtain ⟨fuel, hf⟩ := h
  rcases Deep.open_slice Try.underlying22 hf with ⟨hcs, _⟩ | ⟨x, l, c', m, k, D, Pl, hcs, _, hl, hm, hmm, _, hx⟩
  · simp [Value.cells] at hcs
    obtain ⟨rfl, rfl, rfl⟩ := hcs
    exact ⟨fun _ => ⟨0, 0, 0⟩, by omega, fun j hj => by omega⟩
  · simp [Value.cells] at hcs
    obtain ⟨rfl, rfl, rfl⟩ := hcs
    simp only [if_true] at hmm
    subst hmm
    unfold maxLen at hm
    by_cases h0 : n = 0
    · exact ⟨fun _ => ⟨0, 0, 0⟩, by omega, fun j hj => by omega⟩
    · rw [cellsOp] at hx
      have hx' : ∀ j, j < n → ∃ o : OpT, o.Ok ∧ ∀ r v, o.cells[r]? = some v → W.cell? ((x.add (j * 3)).add r) = some v := by
        intro j hj
        obtain ⟨cs', h1, h2⟩ := hx j (by omega)
        obtain ⟨o, ok, rfl⟩ := op_at h2
        obtain ⟨_, hlen, hcell⟩ := World.cells?_some h1
        refine ⟨o, ok, fun r v hv => ?_⟩
        have hr : r < 3 := by have := (List.getElem?_eq_some_iff.1 hv).1; simpa [OpT.cells] using this
        rw [hcell r hr]
        exact hv
      obtain ⟨f, hf⟩ := choose_op hx'
      obtain ⟨b, off, spot⟩ := x
      have hc := (hf 0 (by omega)).2 0 _ rfl
      have hspot : spot = none := by simpa [Addr.add] using World.cell?_spot hc
      subst hspot
      refine ⟨f, by omega, fun j hj => ⟨b, off, rfl, (hf j hj).1, fun r v hv => ?_⟩⟩
      have := (hf j hj).2 r v hv
      rw [Addr.add_lit, Addr.add_lit] at this
      exact this
end
end Go.Proofs.Ytkfmhabplcikiaa.Ring
