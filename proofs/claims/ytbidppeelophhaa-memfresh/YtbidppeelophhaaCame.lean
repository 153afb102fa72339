/-
  A slice of bytes that came in: what its cells hold.
-/
import Derived.Test.YtbidppeelophhaaMemFresh
import Derived.Test.YtbidppeelophhaaOp
namespace Go.Proofs.Ytbidppeelophhaa
open Go.ChangeShapes Go.WideShapes Go.ChangeAt Go.RowKit

set_option maxRecDepth 100000 in
theorem came_open {H : Type} {enc : TypeId × Value → H} {W : World} {sa : Option Addr} {sl sc : Nat} {d : DataW H} {p : List MemPlace}
    (h : DataW.Trod enc Try.prog W 0 (fun _ => true) true 31 (.slice sa sl sc) d p) : ∃ z, Came W sa sl z ∧ sl ≤ 9223372036854775807 := by
  obtain ⟨fuel, hf⟩ := h
  rcases open_ints Try.underlying31 Try.underlying5 (by kernel_rfl) hf with ⟨hcs, _⟩ | ⟨x, l, c, zs, hcs, _, hl, hm, hz, _, hcell, hwz⟩
  · simp [Value.cells] at hcs
    obtain ⟨rfl, rfl, rfl⟩ := hcs
    exact ⟨fun _ => 0, Or.inl rfl, by omega⟩
  · simp [Value.cells] at hcs
    obtain ⟨rfl, rfl, rfl⟩ := hcs
    unfold maxLen at hm
    have hz' : zs.length = sc := by simpa using hz
    refine ⟨fun j => zs.getD j 0, ?_, by omega⟩
    by_cases h0 : sl = 0
    · exact Or.inl h0
    · obtain ⟨b, off, spot⟩ := x
      have hc := hcell 0 (by omega)
      have hspot : spot = none := by simpa [Addr.add] using World.cell?_spot hc
      subst hspot
      refine Or.inr ⟨b, off, rfl, World.block_lt_of_cell? W _ (by simpa [Addr.add] using hc), fun j hj => ?_⟩
      have hj' := hcell j (by omega)
      rw [Addr.add_lit] at hj'
      refine ⟨hj', ?_⟩
      have := hwz (zs.getD j 0) (by
        rw [List.getD_eq_getElem?_getD, List.getElem?_eq_getElem (by omega)]
        exact List.getElem_mem _)
      simp [Lit.wf, IntKind.min, IntKind.max, IntKind.signed, IntKind.bits] at this
      show 0 ≤ zs.getD j 0 ∧ zs.getD j 0 ≤ 255
      rw [List.getD_eq_getElem?_getD]
      omega
end Go.Proofs.Ytbidppeelophhaa
