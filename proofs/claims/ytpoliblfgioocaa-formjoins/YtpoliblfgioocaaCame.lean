/-
  Slices of bytes and of instructions that came in: what their cells hold, how long they may be.
-/
import Derived.Test.YtpoliblfgioocaaVal
import Derived.Deep.Slices
import Derived.SizedLaws
namespace Go.Proofs.Ytpoliblfgioocaa
open Go.ChangeShapes Go.WideShapes Go.ChangeAt Go.RowKit

theorem wf_u8 {n : Int} (h : (Lit.int .u8 n).wf = true) : 0 ≤ n ∧ n ≤ 255 := by
  simp [Lit.wf, IntKind.min, IntKind.max, IntKind.signed, IntKind.bits] at h
  omega
theorem wf_i16 {n : Int} (h : (Lit.int .i16 n).wf = true) : -32768 ≤ n ∧ n ≤ 32767 := by
  simp [Lit.wf, IntKind.min, IntKind.max, IntKind.signed, IntKind.bits] at h
  omega
theorem wf_i32 {n : Int} (h : (Lit.int .i32 n).wf = true) : -2147483648 ≤ n ∧ n ≤ 2147483647 := by
  simp [Lit.wf, IntKind.min, IntKind.max, IntKind.signed, IntKind.bits] at h
  omega

section
variable {H : Type} {enc : TypeId × Value → H} {W : World} {sa : Option Addr} {n c : Nat} {d : DataW H} {p : List MemPlace}

set_option maxRecDepth 100000 in
theorem inst_at {m : Nat} {cs : List Value} {x : DataW H × List MemPlace} (h : DataW.trod enc Try.prog W 0 (fun _ => true) true m 31 cs = some x) : ∃ i : In, i.Ok ∧ cs = i.cells := by
  obtain ⟨xs, k, _, _, hl, hxl, hf⟩ := DataW.trod_struct Try.underlying31 h
  rw [cells31] at hl
  match cs, hl with
  | [v0, v1, v2, v3, v4], _ =>
    have g0 : DataW.trod enc Try.prog W 0 (fun _ => true) true k 5 (List.take (Try.prog.cellsOf 5) (List.drop 0 [v0, v1, v2, v3, v4])) = xs[0]? := hf 0 _ rfl
    have g1 : DataW.trod enc Try.prog W 0 (fun _ => true) true k 5 (List.take (Try.prog.cellsOf 5) (List.drop 1 [v0, v1, v2, v3, v4])) = xs[1]? := hf 1 _ rfl
    have g2 : DataW.trod enc Try.prog W 0 (fun _ => true) true k 5 (List.take (Try.prog.cellsOf 5) (List.drop 2 [v0, v1, v2, v3, v4])) = xs[2]? := hf 2 _ rfl
    have g3 : DataW.trod enc Try.prog W 0 (fun _ => true) true k 29 (List.take (Try.prog.cellsOf 29) (List.drop 3 [v0, v1, v2, v3, v4])) = xs[3]? := hf 3 _ rfl
    have g4 : DataW.trod enc Try.prog W 0 (fun _ => true) true k 21 (List.take (Try.prog.cellsOf 21) (List.drop 4 [v0, v1, v2, v3, v4])) = xs[4]? := hf 4 _ rfl
    have k5 : Try.prog.cellsOf 5 = 1 := by kernel_rfl
    have k29 : Try.prog.cellsOf 29 = 1 := by kernel_rfl
    have k21 : Try.prog.cellsOf 21 = 1 := by kernel_rfl
    simp only [k5, k29, k21, List.drop_succ_cons, List.drop_zero, List.take_succ_cons, List.take_zero] at g0 g1 g2 g3 g4
    match xs, hxl with
    | [x0, x1, x2, x3, x4], _ =>
      obtain ⟨n0, e0, _, w0⟩ := DataW.trod_int Try.underlying5 (show _ = some x0 from g0)
      obtain ⟨n1, e1, _, w1⟩ := DataW.trod_int Try.underlying5 (show _ = some x1 from g1)
      obtain ⟨n2, e2, _, w2⟩ := DataW.trod_int Try.underlying5 (show _ = some x2 from g2)
      obtain ⟨n3, e3, _, w3⟩ := DataW.trod_int Try.underlying29 (show _ = some x3 from g3)
      obtain ⟨n4, e4, _, w4⟩ := DataW.trod_int Try.underlying21 (show _ = some x4 from g4)
      simp at e0 e1 e2 e3 e4
      subst e0 e1 e2 e3 e4
      have a0 := wf_u8 w0
      have a1 := wf_u8 w1
      have a2 := wf_u8 w2
      have a3 := wf_i16 w3
      have a4 := wf_i32 w4
      exact ⟨⟨n0, n1, n2, n3, n4⟩, ⟨a0.1, a0.2, a1.1, a1.2, a2.1, a2.2, a3.1, a3.2, a4.1, a4.2⟩, rfl⟩

theorem choose_in {Q : Nat → In → Prop} {m : Nat} (h : ∀ j, j < m → ∃ i, Q j i) : ∃ f : Nat → In, ∀ j, j < m → Q j (f j) := by
  refine ⟨fun j => if hj : j < m then Classical.choose (h j hj) else In.zero, fun j hj => ?_⟩
  simp only [hj, dif_pos]
  exact Classical.choose_spec (h j hj)

set_option maxRecDepth 100000 in
theorem came_inst (h : DataW.Trod enc Try.prog W 0 (fun _ => true) true 22 (.slice sa n c) d p) :
    (∃ f, CameI W sa n f) ∧ n ≤ c ∧ c ≤ 9223372036854775807 ∧ (c = 0 ∨ ∃ el sp, d = .slice el sp ∧ el.length + sp.length = c) := by
  obtain ⟨fuel, hf⟩ := h
  rcases Deep.open_slice Try.underlying22 hf with ⟨hcs, _⟩ | ⟨x, l, c', m, k, D, Pl, hcs, _, hl, hm, hmm, hd, hx⟩
  · simp [Value.cells] at hcs
    obtain ⟨rfl, rfl, rfl⟩ := hcs
    exact ⟨⟨fun _ => In.zero, Or.inl rfl⟩, Nat.le_refl _, by omega, Or.inl rfl⟩
  · simp [Value.cells] at hcs
    obtain ⟨rfl, rfl, rfl⟩ := hcs
    simp only [if_true] at hmm
    subst hmm
    unfold maxLen at hm
    simp only [Prod.mk.injEq] at hd
    refine ⟨?_, hl, by omega, Or.inr ⟨_, _, hd.1, by simp; omega⟩⟩
    by_cases h0 : n = 0
    · exact ⟨fun _ => In.zero, Or.inl h0⟩
    · rw [cells31] at hx
      have hx' : ∀ j, j < n → ∃ i : In, i.Ok ∧ ∀ r v, i.cells[r]? = some v → W.cell? ((x.add (j * 5)).add r) = some v := by
        intro j hj
        obtain ⟨cs', h1, h2⟩ := hx j (by omega)
        obtain ⟨i, ok, rfl⟩ := inst_at h2
        obtain ⟨_, hlen, hcell⟩ := World.cells?_some h1
        refine ⟨i, ok, fun r v hv => ?_⟩
        have hr : r < 5 := by have := (List.getElem?_eq_some_iff.1 hv).1; simpa [In.cells] using this
        rw [hcell r hr]
        exact hv
      obtain ⟨f, hf⟩ := choose_in hx'
      obtain ⟨b, off, spot⟩ := x
      have hc := (hf 0 (by omega)).2 0 _ rfl
      have hspot : spot = none := by simpa [Addr.add] using World.cell?_spot hc
      subst hspot
      refine ⟨f, Or.inr ⟨b, off, rfl, World.block_lt_of_cell? W _ (by simpa [Addr.add] using hc), fun j hj => ?_⟩⟩
      obtain ⟨ok, hcell⟩ := hf j hj
      have k0 := hcell 0 _ rfl
      have k1 := hcell 1 _ rfl
      have k2 := hcell 2 _ rfl
      have k3 := hcell 3 _ rfl
      have k4 := hcell 4 _ rfl
      simp only [Addr.add_lit, Nat.add_zero] at k0 k1 k2 k3 k4
      exact ⟨ok, k0, k1, k2, k3, k4⟩
end
end Go.Proofs.Ytpoliblfgioocaa
