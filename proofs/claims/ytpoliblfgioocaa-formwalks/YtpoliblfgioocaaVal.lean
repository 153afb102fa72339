/-
  Arguments as values: numbers, instructions.
-/
import Derived.Test.YtpoliblfgioocaaSlots
import Derived.ProofKit
namespace Go.Proofs.Ytpoliblfgioocaa
open Go.ChangeShapes Go.WideShapes Go.ChangeAt Go.RowKit

theorem own : ownKnob Try.prog.godebug = none := by kernel_rfl
theorem laidOut : laidOutB Try.prog = true := by kernel_rfl
theorem cellTypes31 : Try.prog.cellTypes Try.prog.depth 31 = some [5, 5, 5, 29, 21] := by kernel_rfl
theorem cells31 : Try.prog.cellsOf 31 = 5 := by kernel_rfl

theorem cell_int {P : Program} {w : World} {r : Reach} {base : Nat} {t : TypeId} {v : Value} {k : IntKind} (ht : P.underlying t = some (.int k)) (h : Cell.okWide P w r base t v) : ∃ n, v = .int k n ∧ k.has n := by
  simp only [Cell.okWide, ht] at h
  cases v <;> simp_all [Cell.ok]
theorem int_open {P : Program} {w : World} {r : Reach} {base : Nat} {t : TypeId} {v : Value} {k : IntKind} (ht : P.underlying t = some (.int k)) (h : Value.okWide P w r base t v) : ∃ n, v = .int k n ∧ k.has n := by
  simp only [Value.okWide, ht] at h
  exact cell_int ht h
theorem has_u64 {n : Int} (h : IntKind.u64.has n) : 0 ≤ n ∧ n ≤ 18446744073709551615 := by
  simp [IntKind.has, IntKind.min, IntKind.max, IntKind.signed, IntKind.bits] at h
  omega
theorem has_i64 {n : Int} (h : IntKind.i64.has n) : -9223372036854775808 ≤ n ∧ n ≤ 9223372036854775807 := by
  simp [IntKind.has, IntKind.min, IntKind.max, IntKind.signed, IntKind.bits] at h
  omega
theorem has_u8 {n : Int} (h : IntKind.u8.has n) : 0 ≤ n ∧ n ≤ 255 := by
  simp [IntKind.has, IntKind.min, IntKind.max, IntKind.signed, IntKind.bits] at h
  omega
theorem has_i16 {n : Int} (h : IntKind.i16.has n) : -32768 ≤ n ∧ n ≤ 32767 := by
  simp [IntKind.has, IntKind.min, IntKind.max, IntKind.signed, IntKind.bits] at h
  omega
theorem has_i32 {n : Int} (h : IntKind.i32.has n) : -2147483648 ≤ n ∧ n ≤ 2147483647 := by
  simp [IntKind.has, IntKind.min, IntKind.max, IntKind.signed, IntKind.bits] at h
  omega
set_option maxRecDepth 100000 in
theorem val_i64 {W : World} {base : Nat} {v : Value} (h : Value.okWide Try.prog W .any base 3 v) : ∃ n, v = .int .i64 n ∧ -9223372036854775808 ≤ n ∧ n ≤ 9223372036854775807 := by
  obtain ⟨n, rfl, hn⟩ := int_open Try.underlying3 h
  exact ⟨n, rfl, has_i64 hn⟩
theorem five {cs : Array Value} (h : cs.size = 5) : ∃ c0 c1 c2 c3 c4, cs = #[c0, c1, c2, c3, c4] := by
  obtain ⟨l⟩ := cs
  match l, h with
  | [c0, c1, c2, c3, c4], _ => exact ⟨c0, c1, c2, c3, c4, rfl⟩
theorem in_cells {P : Program} {w : World} {r : Reach} {base : Nat} {t5 t28 t21 : TypeId} (u5 : P.underlying t5 = some (.int .u8)) (u28 : P.underlying t28 = some (.int .i16)) (u21 : P.underlying t21 = some (.int .i32))
    {c0 c1 c2 c3 c4 : Value} (hc : ∀ (i : Nat) v, (#[c0, c1, c2, c3, c4] : Array Value)[i]? = some v → ∃ u, ([t5, t5, t5, t28, t21] : List TypeId)[i % 5]? = some u ∧ Cell.okWide P w r base u v) : ∃ i : In, (Value.agg #[c0, c1, c2, c3, c4]) = i.v ∧ i.Ok := by
  obtain ⟨x0, hu0, h0⟩ := hc 0 c0 rfl
  obtain ⟨x1, hu1, h1⟩ := hc 1 c1 rfl
  obtain ⟨x2, hu2, h2⟩ := hc 2 c2 rfl
  obtain ⟨x3, hu3, h3⟩ := hc 3 c3 rfl
  obtain ⟨x4, hu4, h4⟩ := hc 4 c4 rfl
  simp at hu0 hu1 hu2 hu3 hu4
  subst hu0 hu3 hu4 hu1 hu2
  obtain ⟨n0, rfl, g0⟩ := cell_int u5 h0
  obtain ⟨n1, rfl, g1⟩ := cell_int u5 h1
  obtain ⟨n2, rfl, g2⟩ := cell_int u5 h2
  obtain ⟨n3, rfl, g3⟩ := cell_int u28 h3
  obtain ⟨n4, rfl, g4⟩ := cell_int u21 h4
  have a0 := has_u8 g0
  have a1 := has_u8 g1
  have a2 := has_u8 g2
  have a3 := has_i16 g3
  have a4 := has_i32 g4
  exact ⟨⟨n0, n1, n2, n3, n4⟩, rfl, a0.1, a0.2, a1.1, a1.2, a2.1, a2.2, a3.1, a3.2, a4.1, a4.2⟩
set_option maxRecDepth 100000 in
theorem in_open {W : World} {base : Nat} {v : Value} (h : Value.okWide Try.prog W .any base 31 v) : ∃ i : In, v = i.v ∧ i.Ok := by
  simp only [Value.okWide, Try.underlying31] at h
  obtain ⟨cs, rfl, hsz, ts, hts, _, hc⟩ := h
  rw [cellTypes31] at hts
  injection hts with hts
  subst hts
  rw [cells31] at hsz
  obtain ⟨c0, c1, c2, c3, c4, rfl⟩ := five hsz
  exact in_cells Try.underlying5 Try.underlying29 Try.underlying21 hc
end Go.Proofs.Ytpoliblfgioocaa
