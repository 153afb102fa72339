/-
  A call of a script (Op) as a value: its six cells.
-/
import Derived.Test.YtbidppeelophhaaRows
import Derived.ProofKit
namespace Go.Proofs.Ytbidppeelophhaa
open Go.ChangeShapes Go.WideShapes Go.ChangeAt Go.RowKit

theorem own : ownKnob Try.prog.godebug = none := by kernel_rfl
theorem laidOut : laidOutB Try.prog = true := by kernel_rfl
theorem cellTypes33 : Try.prog.cellTypes Try.prog.depth 33 = some [3, 30, 3, 3, 30, 31] := by kernel_rfl
theorem cells33 : Try.prog.cellsOf 33 = 6 := by kernel_rfl

theorem cell_int {P : Program} {w : World} {r : Reach} {base : Nat} {t : TypeId} {v : Value} {k : IntKind} (ht : P.underlying t = some (.int k)) (h : Cell.okWide P w r base t v) : ∃ n, v = .int k n ∧ k.has n := by
  simp only [Cell.okWide, ht] at h
  cases v <;> simp_all [Cell.ok]
theorem cell_slice {P : Program} {w : World} {r : Reach} {base : Nat} {t e : TypeId} {v : Value} (ht : P.underlying t = some (.slice e)) (h : Cell.okWide P w r base t v) : ∃ a len cap, v = .slice a len cap := by
  simp only [Cell.okWide, ht] at h
  cases v <;> simp_all [Cell.ok]

theorem six {cs : Array Value} (h : cs.size = 6) : ∃ c0 c1 c2 c3 c4 c5, cs = #[c0, c1, c2, c3, c4, c5] := by
  obtain ⟨l⟩ := cs
  match l, h with
  | [c0, c1, c2, c3, c4, c5], _ => exact ⟨c0, c1, c2, c3, c4, c5, rfl⟩

/-- What the cells of an Op are. -/
def OpCells (v : Value) : Prop := ∃ (k0 a0 n0 m0 v0 : Int) (sa : Option Addr) (sl sc : Nat), v = .agg #[.int .i64 k0, .int .u64 a0, .int .i64 n0, .int .i64 m0, .int .u64 v0, .slice sa sl sc] ∧
      IntKind.i64.has k0 ∧ IntKind.u64.has a0 ∧ IntKind.i64.has n0 ∧ IntKind.i64.has m0 ∧ IntKind.u64.has v0

theorem op_cells {P : Program} {w : World} {r : Reach} {base : Nat} {t3 t30 t31 e : TypeId} (u3 : P.underlying t3 = some (.int .i64)) (u30 : P.underlying t30 = some (.int .u64)) (u31 : P.underlying t31 = some (.slice e))
    {c0 c1 c2 c3 c4 c5 : Value} (hc : ∀ (i : Nat) v, (#[c0, c1, c2, c3, c4, c5] : Array Value)[i]? = some v → ∃ u, ([t3, t30, t3, t3, t30, t31] : List TypeId)[i % 6]? = some u ∧ Cell.okWide P w r base u v) : OpCells (.agg #[c0, c1, c2, c3, c4, c5]) := by
  obtain ⟨x0, hu0, h0⟩ := hc 0 c0 rfl
  obtain ⟨x1, hu1, h1⟩ := hc 1 c1 rfl
  obtain ⟨x2, hu2, h2⟩ := hc 2 c2 rfl
  obtain ⟨x3, hu3, h3⟩ := hc 3 c3 rfl
  obtain ⟨x4, hu4, h4⟩ := hc 4 c4 rfl
  obtain ⟨x5, hu5, h5⟩ := hc 5 c5 rfl
  simp at hu0 hu1 hu2 hu3 hu4 hu5
  subst hu0 hu1 hu4 hu5 hu2 hu3
  obtain ⟨k0, rfl, g0⟩ := cell_int u3 h0
  obtain ⟨a0, rfl, g1⟩ := cell_int u30 h1
  obtain ⟨n0, rfl, g2⟩ := cell_int u3 h2
  obtain ⟨m0, rfl, g3⟩ := cell_int u3 h3
  obtain ⟨v0, rfl, g4⟩ := cell_int u30 h4
  obtain ⟨sa, sl, sc, rfl⟩ := cell_slice u31 h5
  exact ⟨k0, a0, n0, m0, v0, sa, sl, sc, rfl, g0, g1, g2, g3, g4⟩

set_option maxRecDepth 100000 in
theorem op_open {W : World} {base : Nat} {v : Value} (h : Value.okWide Try.prog W .any base 33 v) : OpCells v := by
  simp only [Value.okWide, Try.underlying33] at h
  obtain ⟨cs, rfl, hsz, ts, hts, _, hc⟩ := h
  rw [cellTypes33] at hts
  injection hts with hts
  subst hts
  rw [cells33] at hsz
  obtain ⟨c0, c1, c2, c3, c4, c5, rfl⟩ := six hsz
  exact op_cells Try.underlying3 Try.underlying30 Try.underlying31 hc
end Go.Proofs.Ytbidppeelophhaa
