/-
  Arguments that came in: numbers, arrays of two numbers, scripts.
-/
import Derived.Test.YtlkbaconlngmjaaBase
import Derived.ProofKit
import Derived.Deep.Slices
namespace Go.Proofs.Ytlkbaconlngmjaa
open Go.ChangeShapes Go.WideShapes Go.ChangeAt Go.RowKit

theorem own : ownKnob Try.prog.godebug = none := by kernel_rfl
theorem laidOut : laidOutB Try.prog = true := by kernel_rfl
theorem cells35 : Try.prog.cellsOf 35 = 3 := by kernel_rfl
theorem cellTypes22 : Try.prog.cellTypes Try.prog.depth 22 = some [3, 3] := by kernel_rfl
theorem cells22 : Try.prog.cellsOf 22 = 2 := by kernel_rfl

theorem cell_int {P : Program} {w : World} {r : Reach} {base : Nat} {t : TypeId} {v : Value} {k : IntKind} (ht : P.underlying t = some (.int k)) (h : Cell.okWide P w r base t v) : ∃ n, v = .int k n ∧ k.has n := by
  simp only [Cell.okWide, ht] at h
  cases v <;> simp_all [Cell.ok]
theorem cell_slice {P : Program} {w : World} {r : Reach} {base : Nat} {t e : TypeId} {v : Value} (ht : P.underlying t = some (.slice e)) (h : Cell.okWide P w r base t v) : ∃ a len cap, v = .slice a len cap := by
  simp only [Cell.okWide, ht] at h
  cases v <;> simp_all [Cell.ok]
theorem int_open {P : Program} {w : World} {r : Reach} {base : Nat} {t : TypeId} {v : Value} {k : IntKind} (ht : P.underlying t = some (.int k)) (h : Value.okWide P w r base t v) : ∃ n, v = .int k n ∧ k.has n := by
  simp only [Value.okWide, ht] at h
  exact cell_int ht h
theorem slice_open {P : Program} {w : World} {r : Reach} {base : Nat} {t e : TypeId} {v : Value} (ht : P.underlying t = some (.slice e)) (h : Value.okWide P w r base t v) : ∃ a len cap, v = .slice a len cap := by
  simp only [Value.okWide, ht] at h
  exact cell_slice ht h
theorem has_u32 {n : Int} (h : IntKind.u32.has n) : 0 ≤ n ∧ n ≤ 4294967295 := by
  simp [IntKind.has, IntKind.min, IntKind.max, IntKind.signed, IntKind.bits] at h
  omega
theorem has_i64 {n : Int} (h : IntKind.i64.has n) : -9223372036854775808 ≤ n ∧ n ≤ 9223372036854775807 := by
  simp [IntKind.has, IntKind.min, IntKind.max, IntKind.signed, IntKind.bits] at h
  omega
set_option maxRecDepth 100000 in
theorem val_i64 {W : World} {base : Nat} {v : Value} (h : Value.okWide Try.prog W .any base 3 v) : ∃ n, v = .int .i64 n ∧ -9223372036854775808 ≤ n ∧ n ≤ 9223372036854775807 := by
  obtain ⟨n, rfl, hn⟩ := int_open Try.underlying3 h
  exact ⟨n, rfl, has_i64 hn⟩
theorem two_arr {cs : Array Value} (h : cs.size = 2) : ∃ c0 c1, cs = #[c0, c1] := by
  obtain ⟨l⟩ := cs
  match l, h with
  | [c0, c1], _ => exact ⟨c0, c1, rfl⟩
theorem arr_cells {P : Program} {w : World} {r : Reach} {base : Nat} {t3 : TypeId} (u3 : P.underlying t3 = some (.int .i64)) {c0 c1 : Value}
    (hc : ∀ (i : Nat) v, (#[c0, c1] : Array Value)[i]? = some v → ∃ u, ([t3, t3] : List TypeId)[i % 2]? = some u ∧ Cell.okWide P w r base u v) : ∃ a b, (Value.agg #[c0, c1]) = .agg #[.int .i64 a, .int .i64 b] ∧ IntKind.i64.has a ∧ IntKind.i64.has b := by
  obtain ⟨x0, hu0, h0⟩ := hc 0 c0 rfl
  obtain ⟨x1, hu1, h1⟩ := hc 1 c1 rfl
  simp at hu0 hu1
  subst hu0
  subst hu1
  obtain ⟨a, rfl, ha⟩ := cell_int u3 h0
  obtain ⟨b, rfl, hb⟩ := cell_int u3 h1
  exact ⟨a, b, rfl, ha, hb⟩
set_option maxRecDepth 100000 in
theorem arr_open {W : World} {base : Nat} {v : Value} (h : Value.okWide Try.prog W .any base 22 v) : ∃ a b, v = .agg #[.int .i64 a, .int .i64 b] ∧ IntKind.i64.has a ∧ IntKind.i64.has b := by
  simp only [Value.okWide, Try.underlying22] at h
  obtain ⟨cs, rfl, hsz, ts, hts, _, hc⟩ := h
  rw [cellTypes22] at hts
  injection hts with hts
  subst hts
  rw [cells22] at hsz
  obtain ⟨c0, c1, rfl⟩ := two_arr hsz
  exact arr_cells Try.underlying3 hc

theorem wf_u64 {n : Int} (h : (Lit.int .u64 n).wf = true) : 0 ≤ n ∧ n ≤ 18446744073709551615 := by
  simp [Lit.wf, IntKind.min, IntKind.max, IntKind.signed, IntKind.bits] at h
  omega
theorem wf_i64 {n : Int} (h : (Lit.int .i64 n).wf = true) : -9223372036854775808 ≤ n ∧ n ≤ 9223372036854775807 := by
  simp [Lit.wf, IntKind.min, IntKind.max, IntKind.signed, IntKind.bits] at h
  omega
theorem wf_u8 {n : Int} (h : (Lit.int .u8 n).wf = true) : 0 ≤ n ∧ n ≤ 255 := by
  simp [Lit.wf, IntKind.min, IntKind.max, IntKind.signed, IntKind.bits] at h
  omega

section
variable {H : Type} {enc : TypeId × Value → H} {W : World}

/-- A slice of bytes inside what came in. -/
theorem key_in {m : Nat} {v : Value} {x : DataW H × List MemPlace} (h : DataW.trod enc Try.prog W 0 (fun _ => true) true m 32 [v] = some x) : ∃ sa sl sc bs, v = .slice sa sl sc ∧ KeyAt W sa sl bs := by
  rcases open_ints Try.underlying32 Try.underlying5 (by kernel_rfl) h with ⟨hcs, _⟩ | ⟨a, l, c, zs, hcs, _, hl, hm, hz, _, hcell, hwz⟩
  · simp at hcs
    exact ⟨none, 0, 0, [], hcs, rfl, by simp, by simp, by simp⟩
  · simp at hcs
    have hz' : zs.length = c := by simpa using hz
    unfold maxLen at hm
    have hlen : (zs.take l).length = l := by simp; omega
    refine ⟨some a, l, c, zs.take l, hcs, hlen.symm, fun y hy => wf_u8 (hwz y (List.mem_of_mem_take hy)), by omega, fun hp => ?_⟩
    obtain ⟨b, off, spot⟩ := a
    have hc := hcell 0 (by omega)
    have hspot : spot = none := by simpa [Addr.add] using World.cell?_spot hc
    subst hspot
    refine ⟨b, off, rfl, fun j hj => ?_⟩
    have hjl : j < l := by omega
    have hj' := hcell j (by omega)
    rw [Addr.add_lit] at hj'
    rw [hj', List.getD_eq_getElem?_getD, List.getD_eq_getElem?_getD, List.getElem?_take, if_pos hjl]

def OpC.cells (o : OpC) : List Value := [.int .i64 o.k, .slice o.sa o.sl o.sc, .int .u64 o.fl]

set_option maxRecDepth 100000 in
theorem op_at {m : Nat} {cs : List Value} {x : DataW H × List MemPlace} (h : DataW.trod enc Try.prog W 0 (fun _ => true) true m 35 cs = some x) : ∃ o : OpC, o.Ok W ∧ cs = o.cells := by
  obtain ⟨xs, k, _, _, hl, hxl, hf⟩ := DataW.trod_struct Try.underlying35 h
  rw [cells35] at hl
  match cs, hl with
  | [u0, u1, u2], _ =>
    have g0 : DataW.trod enc Try.prog W 0 (fun _ => true) true k 3 (List.take (Try.prog.cellsOf 3) (List.drop 0 [u0, u1, u2])) = xs[0]? := hf 0 _ rfl
    have g1 : DataW.trod enc Try.prog W 0 (fun _ => true) true k 32 (List.take (Try.prog.cellsOf 32) (List.drop 1 [u0, u1, u2])) = xs[1]? := hf 1 _ rfl
    have g2 : DataW.trod enc Try.prog W 0 (fun _ => true) true k 33 (List.take (Try.prog.cellsOf 33) (List.drop 2 [u0, u1, u2])) = xs[2]? := hf 2 _ rfl
    have k3 : Try.prog.cellsOf 3 = 1 := by kernel_rfl
    have k32 : Try.prog.cellsOf 32 = 1 := by kernel_rfl
    have k33 : Try.prog.cellsOf 33 = 1 := by kernel_rfl
    simp only [k3, k32, k33, List.drop_succ_cons, List.drop_zero, List.take_succ_cons, List.take_zero] at g0 g1 g2
    match xs, hxl with
    | [x0, x1, x2], _ =>
      obtain ⟨n0, e0, _, w0⟩ := DataW.trod_int Try.underlying3 (show _ = some x0 from g0)
      obtain ⟨sa, sl, sc, bs, e1, ha⟩ := key_in (show _ = some x1 from g1)
      obtain ⟨n2, e2, _, w2⟩ := DataW.trod_int Try.underlying33 (show _ = some x2 from g2)
      simp at e0 e2
      subst e0 e1 e2
      exact ⟨⟨n0, sa, sl, sc, bs, n2⟩, ⟨(wf_i64 w0).1, (wf_i64 w0).2, (wf_u64 w2).1, (wf_u64 w2).2, ha⟩, rfl⟩

def OpC.zero : OpC := ⟨0, none, 0, 0, [], 0⟩
theorem choose_op {Q : Nat → OpC → Prop} {m : Nat} (h : ∀ j, j < m → ∃ i, Q j i) : ∃ f : Nat → OpC, ∀ j, j < m → Q j (f j) := by
  refine ⟨fun j => if hj : j < m then Classical.choose (h j hj) else OpC.zero, fun j hj => ?_⟩
  simp only [hj, dif_pos]
  exact Classical.choose_spec (h j hj)

set_option maxRecDepth 100000 in
theorem script_in {sa : Option Addr} {n c : Nat} {d : DataW H} {p : List MemPlace} (h : DataW.Trod enc Try.prog W 0 (fun _ => true) true 23 (.slice sa n c) d p) : (∃ f, Script W sa n f) ∧ n ≤ 9223372036854775807 ∧ n ≤ c := by
  obtain ⟨fuel, hf⟩ := h
  rcases Deep.open_slice Try.underlying23 hf with ⟨hcs, _⟩ | ⟨x, l, c', m, k, D, Pl, hcs, _, hl, hm, hmm, _, hx⟩
  · simp [Value.cells] at hcs
    obtain ⟨rfl, rfl, rfl⟩ := hcs
    exact ⟨⟨fun _ => OpC.zero, Or.inl rfl⟩, by omega, by omega⟩
  · simp [Value.cells] at hcs
    obtain ⟨rfl, rfl, rfl⟩ := hcs
    simp only [if_true] at hmm
    subst hmm
    unfold maxLen at hm
    refine ⟨?_, by omega, by omega⟩
    by_cases h0 : n = 0
    · exact ⟨fun _ => OpC.zero, Or.inl h0⟩
    · rw [cells35] at hx
      have hx' : ∀ j, j < n → ∃ o : OpC, o.Ok W ∧ ∀ r v, o.cells[r]? = some v → W.cell? ((x.add (j * 3)).add r) = some v := by
        intro j hj
        obtain ⟨cs', h1, h2⟩ := hx j (by omega)
        obtain ⟨o, ok, rfl⟩ := op_at h2
        obtain ⟨_, hlen, hcell⟩ := World.cells?_some h1
        refine ⟨o, ok, fun r v hv => ?_⟩
        have hr : r < 3 := by have := (List.getElem?_eq_some_iff.1 hv).1; simpa [OpC.cells] using this
        rw [hcell r hr]
        exact hv
      obtain ⟨f, hf⟩ := choose_op hx'
      obtain ⟨b, off, spot⟩ := x
      have hc := (hf 0 (by omega)).2 0 _ rfl
      have hspot : spot = none := by simpa [Addr.add] using World.cell?_spot hc
      subst hspot
      refine ⟨f, Or.inr ⟨b, off, rfl, fun j hj => ?_⟩⟩
      obtain ⟨ok, hcell⟩ := hf j hj
      have k0 := hcell 0 _ rfl
      have k1 := hcell 1 _ rfl
      have k2 := hcell 2 _ rfl
      simp only [Addr.add_lit, Nat.add_zero] at k0 k1 k2
      exact ⟨ok, k0, k1, k2⟩
end
end Go.Proofs.Ytlkbaconlngmjaa
