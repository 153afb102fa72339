/-
  A script that came in: its calls, cell by cell.
-/
import Derived.Test.YtbidppeelophhaaMemPlays
import Derived.Test.YtbidppeelophhaaArr
import Derived.Deep.Slices
namespace Go.Proofs.Ytbidppeelophhaa
open Go.ChangeShapes Go.WideShapes Go.ChangeAt Go.RowKit

theorem wf_u64 {n : Int} (h : (Lit.int .u64 n).wf = true) : 0 ≤ n ∧ n ≤ 18446744073709551615 := by
  simp [Lit.wf, IntKind.min, IntKind.max, IntKind.signed, IntKind.bits] at h
  omega
theorem wf_i64 {n : Int} (h : (Lit.int .i64 n).wf = true) : -9223372036854775808 ≤ n ∧ n ≤ 9223372036854775807 := by
  simp [Lit.wf, IntKind.min, IntKind.max, IntKind.signed, IntKind.bits] at h
  omega
theorem wf_u8 {n : Int} (h : (Lit.int .u8 n).wf = true) : 0 ≤ n ∧ n ≤ 255 := by
  simp [Lit.wf, IntKind.min, IntKind.max, IntKind.signed, IntKind.bits] at h
  omega

section
variable {H : Type} {enc : TypeId × Value → H} {W : World}

/-- A slice of bytes inside what came in. -/
theorem arg_in {m : Nat} {v : Value} {x : DataW H × List MemPlace} (h : DataW.trod enc Try.prog W 0 (fun _ => true) true m 31 [v] = some x) : ∃ sa sl sc bs, v = .slice sa sl sc ∧ ArgIn W sa sl bs := by
  rcases open_ints Try.underlying31 Try.underlying5 (by kernel_rfl) h with ⟨hcs, _⟩ | ⟨a, l, c, zs, hcs, _, hl, hm, hz, _, hcell, hwz⟩
  · simp at hcs
    exact ⟨none, 0, 0, [], hcs, rfl, by simp, by simp, by simp⟩
  · simp at hcs
    have hz' : zs.length = c := by simpa using hz
    unfold maxLen at hm
    have hlen : (zs.take l).length = l := by simp; omega
    refine ⟨some a, l, c, zs.take l, hcs, hlen.symm, fun y hy => wf_u8 (hwz y (List.mem_of_mem_take hy)), by omega, fun hp => ?_⟩
    obtain ⟨b, off, spot⟩ := a
    have hc := hcell 0 (by omega)
    have hspot : spot = none := by simpa [Addr.add] using World.cell?_spot hc
    subst hspot
    refine ⟨b, off, rfl, World.block_lt_of_cell? W _ (by simpa [Addr.add] using hc), fun j u hj => ?_⟩
    have hjl : j < l := by have := (List.getElem?_eq_some_iff.1 hj).1; simp at this; omega
    have hj' := hcell j (by omega)
    rw [Addr.add_lit] at hj'
    rw [hj']
    rw [List.getElem?_map, List.getElem?_take, if_pos hjl] at hj
    rw [List.getD_eq_getElem?_getD]
    have hq : zs[j]? = some zs[j] := List.getElem?_eq_getElem (by omega)
    rw [hq] at hj ⊢
    simpa using hj

def OpC.cells (o : OpC) : List Value := [.int .i64 o.k, .int .u64 o.a, .int .i64 o.n, .int .i64 o.m, .int .u64 o.v, .slice o.sa o.sl o.sc]

set_option maxRecDepth 100000 in
theorem op_at {m : Nat} {cs : List Value} {x : DataW H × List MemPlace} (h : DataW.trod enc Try.prog W 0 (fun _ => true) true m 33 cs = some x) : ∃ o : OpC, o.Ok W ∧ cs = o.cells := by
  obtain ⟨xs, k, _, _, hl, hxl, hf⟩ := DataW.trod_struct Try.underlying33 h
  rw [cells33] at hl
  match cs, hl with
  | [u0, u1, u2, u3, u4, u5], _ =>
    have g0 : DataW.trod enc Try.prog W 0 (fun _ => true) true k 3 (List.take (Try.prog.cellsOf 3) (List.drop 0 [u0, u1, u2, u3, u4, u5])) = xs[0]? := hf 0 _ rfl
    have g1 : DataW.trod enc Try.prog W 0 (fun _ => true) true k 30 (List.take (Try.prog.cellsOf 30) (List.drop 1 [u0, u1, u2, u3, u4, u5])) = xs[1]? := hf 1 _ rfl
    have g2 : DataW.trod enc Try.prog W 0 (fun _ => true) true k 3 (List.take (Try.prog.cellsOf 3) (List.drop 2 [u0, u1, u2, u3, u4, u5])) = xs[2]? := hf 2 _ rfl
    have g3 : DataW.trod enc Try.prog W 0 (fun _ => true) true k 3 (List.take (Try.prog.cellsOf 3) (List.drop 3 [u0, u1, u2, u3, u4, u5])) = xs[3]? := hf 3 _ rfl
    have g4 : DataW.trod enc Try.prog W 0 (fun _ => true) true k 30 (List.take (Try.prog.cellsOf 30) (List.drop 4 [u0, u1, u2, u3, u4, u5])) = xs[4]? := hf 4 _ rfl
    have g5 : DataW.trod enc Try.prog W 0 (fun _ => true) true k 31 (List.take (Try.prog.cellsOf 31) (List.drop 5 [u0, u1, u2, u3, u4, u5])) = xs[5]? := hf 5 _ rfl
    have k3 : Try.prog.cellsOf 3 = 1 := by kernel_rfl
    have k30 : Try.prog.cellsOf 30 = 1 := by kernel_rfl
    have k31 : Try.prog.cellsOf 31 = 1 := by kernel_rfl
    simp only [k3, k30, k31, List.drop_succ_cons, List.drop_zero, List.take_succ_cons, List.take_zero] at g0 g1 g2 g3 g4 g5
    match xs, hxl with
    | [x0, x1, x2, x3, x4, x5], _ =>
      obtain ⟨n0, e0, _, w0⟩ := DataW.trod_int Try.underlying3 (show _ = some x0 from g0)
      obtain ⟨n1, e1, _, w1⟩ := DataW.trod_int Try.underlying30 (show _ = some x1 from g1)
      obtain ⟨n2, e2, _, w2⟩ := DataW.trod_int Try.underlying3 (show _ = some x2 from g2)
      obtain ⟨n3, e3, _, w3⟩ := DataW.trod_int Try.underlying3 (show _ = some x3 from g3)
      obtain ⟨n4, e4, _, w4⟩ := DataW.trod_int Try.underlying30 (show _ = some x4 from g4)
      obtain ⟨sa, sl, sc, bs, e5, ha⟩ := arg_in (show _ = some x5 from g5)
      simp at e0 e1 e2 e3 e4
      subst e0 e1 e2 e3 e4 e5
      exact ⟨⟨n0, n1, n2, n3, n4, sa, sl, sc, bs⟩, ⟨(wf_u64 w1).1, (wf_u64 w1).2, (wf_i64 w2).2, (wf_u64 w4).1, (wf_u64 w4).2, ha⟩, rfl⟩

def OpC.zero : OpC := ⟨0, 0, 0, 0, 0, none, 0, 0, []⟩
theorem choose_op {Q : Nat → OpC → Prop} {m : Nat} (h : ∀ j, j < m → ∃ i, Q j i) : ∃ f : Nat → OpC, ∀ j, j < m → Q j (f j) := by
  refine ⟨fun j => if hj : j < m then Classical.choose (h j hj) else OpC.zero, fun j hj => ?_⟩
  simp only [hj, dif_pos]
  exact Classical.choose_spec (h j hj)

set_option maxRecDepth 100000 in
theorem script_in {sa : Option Addr} {n c : Nat} {d : DataW H} {p : List MemPlace} (h : DataW.Trod enc Try.prog W 0 (fun _ => true) true 22 (.slice sa n c) d p) : (∃ f, Script W sa n f) ∧ n ≤ 9223372036854775807 := by
  obtain ⟨fuel, hf⟩ := h
  rcases Deep.open_slice Try.underlying22 hf with ⟨hcs, _⟩ | ⟨x, l, c', m, k, D, Pl, hcs, _, hl, hm, hmm, _, hx⟩
  · simp [Value.cells] at hcs
    obtain ⟨rfl, rfl, rfl⟩ := hcs
    exact ⟨⟨fun _ => OpC.zero, Or.inl rfl⟩, by omega⟩
  · simp [Value.cells] at hcs
    obtain ⟨rfl, rfl, rfl⟩ := hcs
    simp only [if_true] at hmm
    subst hmm
    unfold maxLen at hm
    refine ⟨?_, by omega⟩
    by_cases h0 : n = 0
    · exact ⟨fun _ => OpC.zero, Or.inl h0⟩
    · rw [cells33] at hx
      have hx' : ∀ j, j < n → ∃ o : OpC, o.Ok W ∧ ∀ r v, o.cells[r]? = some v → W.cell? ((x.add (j * 6)).add r) = some v := by
        intro j hj
        obtain ⟨cs', h1, h2⟩ := hx j (by omega)
        obtain ⟨o, ok, rfl⟩ := op_at h2
        obtain ⟨_, hlen, hcell⟩ := World.cells?_some h1
        refine ⟨o, ok, fun r v hv => ?_⟩
        have hr : r < 6 := by have := (List.getElem?_eq_some_iff.1 hv).1; simpa [OpC.cells] using this
        rw [hcell r hr]
        exact hv
      obtain ⟨f, hf⟩ := choose_op hx'
      obtain ⟨b, off, spot⟩ := x
      have hc := (hf 0 (by omega)).2 0 _ rfl
      have hspot : spot = none := by simpa [Addr.add] using World.cell?_spot hc
      subst hspot
      refine ⟨f, Or.inr ⟨b, off, rfl, fun j hj => ?_⟩⟩
      obtain ⟨ok, hcell⟩ := hf j hj
      have k0 := hcell 0 _ rfl
      have k1 := hcell 1 _ rfl
      have k2 := hcell 2 _ rfl
      have k3 := hcell 3 _ rfl
      have k4 := hcell 4 _ rfl
      have k5 := hcell 5 _ rfl
      simp only [Addr.add_lit, Nat.add_zero] at k0 k1 k2 k3 k4 k5
      exact ⟨ok, k0, k1, k2, k3, k4, k5⟩
end

theorem slice_open {P : Program} {w : World} {r : Reach} {base : Nat} {t e : TypeId} {v : Value} (ht : P.underlying t = some (.slice e)) (h : Value.okWide P w r base t v) : ∃ a len cap, v = .slice a len cap := by
  simp only [Value.okWide, ht] at h
  exact cell_slice ht h
end Go.Proofs.Ytbidppeelophhaa
