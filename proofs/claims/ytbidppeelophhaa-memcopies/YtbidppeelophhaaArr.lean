/-
  Arguments that are numbers or arrays of two numbers: their values.
-/
import Derived.Test.YtbidppeelophhaaOp
namespace Go.Proofs.Ytbidppeelophhaa
open Go.ChangeShapes Go.WideShapes Go.ChangeAt Go.RowKit

theorem cellTypes55 : Try.prog.cellTypes Try.prog.depth 55 = some [3, 3] := by kernel_rfl
theorem cells55 : Try.prog.cellsOf 55 = 2 := by kernel_rfl

theorem two_arr {cs : Array Value} (h : cs.size = 2) : ∃ c0 c1, cs = #[c0, c1] := by
  obtain ⟨l⟩ := cs
  match l, h with
  | [c0, c1], _ => exact ⟨c0, c1, rfl⟩

theorem arr_cells {P : Program} {w : World} {r : Reach} {base : Nat} {t3 : TypeId} (u3 : P.underlying t3 = some (.int .i64)) {c0 c1 : Value}
    (hc : ∀ (i : Nat) v, (#[c0, c1] : Array Value)[i]? = some v → ∃ u, ([t3, t3] : List TypeId)[i % 2]? = some u ∧ Cell.okWide P w r base u v) : ∃ a b, (Value.agg #[c0, c1]) = .agg #[.int .i64 a, .int .i64 b] := by
  obtain ⟨x0, hu0, h0⟩ := hc 0 c0 rfl
  obtain ⟨x1, hu1, h1⟩ := hc 1 c1 rfl
  simp at hu0 hu1
  subst hu0
  subst hu1
  obtain ⟨a, rfl, _⟩ := cell_int u3 h0
  obtain ⟨b, rfl, _⟩ := cell_int u3 h1
  exact ⟨a, b, rfl⟩

set_option maxRecDepth 100000 in
theorem arr_open {W : World} {base : Nat} {v : Value} (h : Value.okWide Try.prog W .any base 55 v) : ∃ a b, v = .agg #[.int .i64 a, .int .i64 b] := by
  simp only [Value.okWide, Try.underlying55] at h
  obtain ⟨cs, rfl, hsz, ts, hts, _, hc⟩ := h
  rw [cellTypes55] at hts
  injection hts with hts
  subst hts
  rw [cells55] at hsz
  obtain ⟨c0, c1, rfl⟩ := two_arr hsz
  exact arr_cells Try.underlying3 hc

theorem int_open {P : Program} {w : World} {r : Reach} {base : Nat} {t : TypeId} {v : Value} {k : IntKind} (ht : P.underlying t = some (.int k)) (h : Value.okWide P w r base t v) : ∃ n, v = .int k n ∧ k.has n := by
  simp only [Value.okWide, ht] at h
  exact cell_int ht h
theorem has_u64 {n : Int} (h : IntKind.u64.has n) : 0 ≤ n ∧ n ≤ 18446744073709551615 := by
  simp [IntKind.has, IntKind.min, IntKind.max, IntKind.signed, IntKind.bits] at h
  omega
theorem has_i64 {n : Int} (h : IntKind.i64.has n) : -9223372036854775808 ≤ n ∧ n ≤ 9223372036854775807 := by
  simp [IntKind.has, IntKind.min, IntKind.max, IntKind.signed, IntKind.bits] at h
  omega
set_option maxRecDepth 100000 in
theorem val_u64 {W : World} {base : Nat} {v : Value} (h : Value.okWide Try.prog W .any base 30 v) : ∃ n, v = .int .u64 n ∧ 0 ≤ n ∧ n ≤ 18446744073709551615 := by
  obtain ⟨n, rfl, hn⟩ := int_open Try.underlying30 h
  exact ⟨n, rfl, has_u64 hn⟩
set_option maxRecDepth 100000 in
theorem val_i64 {W : World} {base : Nat} {v : Value} (h : Value.okWide Try.prog W .any base 3 v) : ∃ n, v = .int .i64 n ∧ -9223372036854775808 ≤ n ∧ n ≤ 9223372036854775807 := by
  obtain ⟨n, rfl, hn⟩ := int_open Try.underlying3 h
  exact ⟨n, rfl, has_i64 hn⟩
end Go.Proofs.Ytbidppeelophhaa
