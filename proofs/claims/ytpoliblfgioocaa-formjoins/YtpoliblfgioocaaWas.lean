/-
  A copy of a list of instructions by append.
-/
import Derived.Test.YtpoliblfgioocaaSlots
namespace Go.Proofs.Ytpoliblfgioocaa
open Go.RowKit

/-- The cells of a row of instructions. -/
def rowCells (f : Nat → In) (n : Nat) : List Value := ((List.range n).map f).flatMap In.cells
theorem rowCells_length (f : Nat → In) (n : Nat) : (rowCells f n).length = n * 5 := by unfold rowCells; rw [flat_length In.cells 5 In.cells_length]; simp
theorem rowCells_get (f : Nat → In) (n k r : Nat) (hk : k < n) (hr : r < 5) : (rowCells f n)[k * 5 + r]? = (f k).cells[r]? :=
  flat_get In.cells 5 In.cells_length _ k r (f k) hr (by simp [List.getElem?_range hk])
theorem slots_cell {w : World} {b off n : Nat} {f : Nat → In} (h : Slots w b off n f) (j : Nat) (v : Value) (hv : (rowCells f n)[j]? = some v) : w.cell? ⟨b, off + j, none⟩ = some v := by
  have hj : j < n * 5 := by have := (List.getElem?_eq_some_iff.1 hv).1; rw [rowCells_length] at this; exact this
  have hq : j / 5 < n := by omega
  obtain ⟨e0, e1, e2, e3, e4⟩ := h.at_ (j / 5) hq
  have hd : j / 5 * 5 + j % 5 = j := by omega
  rw [← hd, rowCells_get f n (j / 5) (j % 5) hq (by omega)] at hv
  rw [← hd, ← Nat.add_assoc]
  have : j % 5 = 0 ∨ j % 5 = 1 ∨ j % 5 = 2 ∨ j % 5 = 3 ∨ j % 5 = 4 := by omega
  rcases this with h | h | h | h | h
  all_goals
    rw [h] at hv ⊢
    injection hv with hv
    subst hv
    assumption
theorem row_one (f : Nat → In) (n : Nat) : ∀ u ∈ rowCells f n, u.oneCell' = true := by
  intro u hu
  unfold rowCells at hu
  obtain ⟨x, _, hx⟩ := List.mem_flatMap.1 hu
  simp [In.cells] at hx
  rcases hx with rfl | rfl | rfl | rfl | rfl <;> rfl
/-- append(s, list...). -/
theorem append_list {w : World} {g : Option Nat} {n cap : Nat} {cs : List Value} {sa : Option Addr} {m c : Nat} {f : Nat → In} (h : RowAt w 31 5 g n cap cs) (hc : ListAt w sa m f) (hn : (n + m) * 12 ≤ 140737488355328) :
    ∃ g' cap' w', (Builtin.append_ #[22, 22] 22 #[slV g n cap, .slice sa m c]).run Try.prog w = .ok (slV g' (n + m) cap') w' ∧ RowAt w' 31 5 g' (n + m) cap' (cs ++ rowCells f m) ∧ Touch g.toList w w' ∧ (g' = g ∨ g' = some w.heap.size) := by
  obtain ⟨i, hi, hz, hs, hb⟩ := info_of info31
  have main : ∀ a : Addr, sa = some a → (∀ j v, (rowCells f m)[j]? = some v → w.cell? (a.add j) = some v) →
      ∃ g' cap' w', (Builtin.append_ #[22, 22] 22 #[slV g n cap, .slice sa m c]).run Try.prog w = .ok (slV g' (n + m) cap') w' ∧ RowAt w' 31 5 g' (n + m) cap' (cs ++ rowCells f m) ∧ Touch g.toList w w' ∧ (g' = g ∨ g' = some w.heap.size) := by
    intro a ha hcell
    subst ha
    obtain ⟨g', cap', w', hr, h2, h3, h4, _⟩ := run_append_row (P := Try.prog) w 22 22 31 i _ 5 Try.underlying22 hi hz hs rfl (by omega) g n cap cs h a m c (rowCells f m) (rowCells_length f m) hcell (row_one f m) (by rw [hb]; omega) (by omega)
    exact ⟨g', cap', w', hr, h2, h3, h4⟩
  rcases hc with h0 | ⟨b, off, hsa, hS⟩
  · subst h0
    cases sa with
    | some a => exact main a rfl (fun j v hv => by simp [rowCells] at hv)
    | none =>
      refine ⟨g, cap, w, ?_, by simpa [rowCells] using h, Touch.refl _ _, Or.inl rfl⟩
      have hcap := h.2.1
      cases g <;> simp [slV, Builtin.append_, run_underlying Try.underlying22, sizeOf, typeInfo, hi, Builtin.lenOf, Builtin.firstCells, storeCells, hcap]
  · exact main ⟨b, off, none⟩ hsa (fun j v hv => by rw [Addr.add_lit]; exact slots_cell hS j v hv)
theorem row_list {w : World} {g : Option Nat} {n cap : Nat} {f : Nat → In} (ok : ∀ j, j < n → (f j).Ok) (h : RowAt w 31 5 g n cap (rowCells f n)) : ListAt w (g.map fun b => ⟨b, 0, none⟩) n f := by
  cases g with
  | none =>
    have h1 := h.2.1
    have h4 : cap = 0 := h.2.2.2
    exact Or.inl (by omega)
  | some b =>
    obtain ⟨_, _, _, rest, hB, _⟩ := h
    refine Or.inr ⟨b, 0, rfl, hB.lt, ok, fun j hj => ?_⟩
    have hc : ∀ r v, r < 5 → (f j).cells[r]? = some v → w.cell? ⟨b, 0 + j * 5 + r, none⟩ = some v := fun r v hr hv => by
      rw [Nat.zero_add]
      refine hB.cell ?_
      have h1 := rowCells_get f n j r hj hr
      rw [hv] at h1
      rw [List.getElem?_append_left (List.getElem?_eq_some_iff.1 h1).1, h1]
    exact ⟨hc 0 _ (by omega) rfl, hc 1 _ (by omega) rfl, hc 2 _ (by omega) rfl, hc 3 _ (by omega) rfl, hc 4 _ (by omega) rfl⟩
end Go.Proofs.Ytpoliblfgioocaa
