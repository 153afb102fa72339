/-
  What InsnLists wants besides: a copy of the list by append, bytes of a row as a string, slots read again.
-/
import Derived.Test.YtjioemkapmchpaaOwn
import Derived.Test.YtjioemkapmchpaaInsnBytes
namespace Go.Proofs.Ytjioemkapmchpaa
open Go.RowKit

theorem CameI.touch {w w' : World} {sa : Option Addr} {n : Nat} {f : Nat → In} (h : CameI w sa n f) (ht : Touch [] w w') : CameI w' sa n f := by
  rcases h with h | ⟨b, off, h1, h2, h3⟩
  · exact Or.inl h
  · refine Or.inr ⟨b, off, h1, Nat.lt_of_lt_of_le h2 ht.size, fun j hj => ?_⟩
    obtain ⟨ok, e0, e1, e2, e3, e4⟩ := h3 j hj
    exact ⟨ok, ht.cell e0 (by simp), ht.cell e1 (by simp), ht.cell e2 (by simp), ht.cell e3 (by simp), ht.cell e4 (by simp)⟩

/-- The cells of a row of instructions. -/
def rowCells (f : Nat → In) (n : Nat) : List Value := ((List.range n).map f).flatMap In.cells
theorem rowCells_length (f : Nat → In) (n : Nat) : (rowCells f n).length = n * 5 := by unfold rowCells; rw [flat_length In.cells 5 In.cells_length]; simp
theorem rowCells_get (f : Nat → In) (n k r : Nat) (hk : k < n) (hr : r < 5) : (rowCells f n)[k * 5 + r]? = (f k).cells[r]? :=
  flat_get In.cells 5 In.cells_length _ k r (f k) hr (by simp [List.getElem?_range hk])
theorem came_cell {w : World} {b off n : Nat} {f : Nat → In} (h : ∀ j, j < n → (f j).Ok ∧ w.cell? ⟨b, off + j * 5, none⟩ = some (.int .u8 (f j).op) ∧ w.cell? ⟨b, off + j * 5 + 1, none⟩ = some (.int .u8 (f j).dst) ∧
    w.cell? ⟨b, off + j * 5 + 2, none⟩ = some (.int .u8 (f j).src) ∧ w.cell? ⟨b, off + j * 5 + 3, none⟩ = some (.int .i16 (f j).off) ∧ w.cell? ⟨b, off + j * 5 + 4, none⟩ = some (.int .i32 (f j).imm)) (j : Nat) (v : Value) (hv : (rowCells f n)[j]? = some v) :
    w.cell? ⟨b, off + j, none⟩ = some v := by
  have hj : j < n * 5 := by have := (List.getElem?_eq_some_iff.1 hv).1; rw [rowCells_length] at this; exact this
  have hq : j / 5 < n := by omega
  obtain ⟨_, e0, e1, e2, e3, e4⟩ := h (j / 5) hq
  have hd : j / 5 * 5 + j % 5 = j := by omega
  rw [← hd, rowCells_get f n (j / 5) (j % 5) hq (by omega)] at hv
  rw [← hd, ← Nat.add_assoc]
  have : j % 5 = 0 ∨ j % 5 = 1 ∨ j % 5 = 2 ∨ j % 5 = 3 ∨ j % 5 = 4 := by omega
  rcases this with h | h | h | h | h
  all_goals
    rw [h] at hv ⊢
    injection hv with hv
    subst hv
    assumption

/-- append([]Inst{}, list...). -/
theorem append_was {w : World} {E : Nat} {sa : Option Addr} {n c : Nat} {f : Nat → In} (hE : Blk w E [] 30) (hc : CameI w sa n f) (hn : n * 12 ≤ 140737488355328) :
    ∃ g cap w', (Builtin.append_ #[24, 24] 24 #[.slice (some ⟨E, 0, none⟩) 0 0, .slice sa n c]).run Try.prog w = .ok (slV g n cap) w' ∧ RowAt w' 30 5 g n cap (rowCells f n) ∧ Touch [E] w w' ∧ ∀ b, g = some b → E ≤ b := by
  obtain ⟨i, hi, hz, hs, hb⟩ := info_of info30
  have hrow : RowAt w 30 5 (some E) 0 0 [] := ⟨rfl, Nat.le_refl _, by unfold maxLen; omega, [], by simpa using hE, by simp⟩
  have main : ∀ a : Addr, sa = some a → (∀ j v, (rowCells f n)[j]? = some v → w.cell? (a.add j) = some v) →
      ∃ g cap w', (Builtin.append_ #[24, 24] 24 #[.slice (some ⟨E, 0, none⟩) 0 0, .slice sa n c]).run Try.prog w = .ok (slV g n cap) w' ∧ RowAt w' 30 5 g n cap (rowCells f n) ∧ Touch [E] w w' ∧ ∀ b, g = some b → E ≤ b := by
    intro a ha hcell
    subst ha
    obtain ⟨g', cap', w', hr, h2, h3, h4, _⟩ := run_append_row (P := Try.prog) w 24 24 30 i _ 5 Try.underlying24 hi hz hs rfl (by omega) (some E) 0 0 [] hrow a n c (rowCells f n) (rowCells_length f n) hcell (fun u hu => by
      unfold rowCells at hu
      obtain ⟨x, _, hx⟩ := List.mem_flatMap.1 hu
      simp [In.cells] at hx
      rcases hx with rfl | rfl | rfl | rfl | rfl <;> rfl) (by rw [hb]; omega) (by omega)
    simp only [Nat.zero_add, List.nil_append] at hr h2
    refine ⟨g', cap', w', hr, h2, by simpa using h3, fun b hb => ?_⟩
    have hlt := hE.lt
    rcases h4 with rfl | rfl
    · injection hb with hb; omega
    · injection hb with hb; omega
  rcases hc with h0 | ⟨b, off, hsa, hbw, hx⟩
  · subst h0
    cases sa with
    | some a => exact main a rfl (fun j v hv => by simp [rowCells] at hv)
    | none =>
      refine ⟨some E, 0, w, ?_, ?_, Touch.refl _ _, fun b hb => by injection hb with hb; omega⟩
      · simp [slV, Builtin.append_, run_underlying Try.underlying24, sizeOf, typeInfo, hi, Builtin.lenOf, Builtin.firstCells, loadCells, loadCellsFrom, storeCells]
      · simpa [rowCells] using hrow
  · exact main ⟨b, off, none⟩ hsa (fun j v hv => by rw [Addr.add_lit]; exact came_cell hx j v hv)

theorem row_came {w : World} {g : Option Nat} {n cap : Nat} {f : Nat → In} (ok : ∀ j, j < n → (f j).Ok) (h : RowAt w 30 5 g n cap (rowCells f n)) : CameI w (g.map fun b => ⟨b, 0, none⟩) n f := by
  cases g with
  | none =>
    have h1 := h.2.1
    have h4 : cap = 0 := h.2.2.2
    exact Or.inl (by omega)
  | some b =>
    obtain ⟨_, _, _, rest, hB, _⟩ := h
    refine Or.inr ⟨b, 0, rfl, hB.lt, fun j hj => ?_⟩
    have gg : ∀ r v, r < 5 → (f j).cells[r]? = some v → w.cell? ⟨b, 0 + j * 5 + r, none⟩ = some v := fun r v hr hv => hB.cell (by
      rw [Nat.zero_add, List.getElem?_append_left (by rw [rowCells_length]; omega), rowCells_get f n j r hj hr]
      exact hv)
    exact ⟨ok j hj, gg 0 _ (by omega) rfl, gg 1 _ (by omega) rfl, gg 2 _ (by omega) rfl, gg 3 _ (by omega) rfl, gg 4 _ (by omega) rfl⟩

theorem conv_own {w0 w : World} {v : Value} {bs : List Int} (h : OwnAt w0 w v bs) : (convert 22 9 v).run Try.prog w = .ok (.string (strOfNums bs)) w := by
  obtain ⟨g, cap, rfl, hrow, _⟩ := h
  cases g with
  | none =>
    have h1 := hrow.2.1
    have h4 : cap = 0 := hrow.2.2.2
    obtain rfl : bs = [] := List.eq_nil_of_length_eq_zero (by omega)
    exact conv_zero w 22 9 5 Try.underlying22 Try.underlying5 Try.underlying9 none cap
  | some b =>
    obtain ⟨_, _, _, rest, hB, _⟩ := hrow
    refine run_convert_bytes_arg w 22 5 Try.underlying22 Try.underlying5 b 0 bs.length cap bs rfl (fun i hi => ?_) 9 Try.underlying9
    rw [Nat.zero_add]
    refine hB.cell ?_
    rw [List.getElem?_append_left (by simpa using hi)]
    simp [List.getD_eq_getElem?_getD, List.getElem?_eq_getElem hi]

/-- All bytes of a row, as numbers. -/
def rowNums (f : Nat → In) (n : Nat) : List Int := ((List.range n).map f).flatMap In.nums
theorem nums_map (i : In) : i.nums.map (Value.int .u8) = i.bytes := rfl
theorem rowNums_eq (f : Nat → In) (n : Nat) : rowNums f n = (List.range (8 * n)).map (rowByte f) := by
  have h1 : (rowNums f n).map (Value.int .u8) = ((List.range n).map f).flatMap In.bytes := by
    unfold rowNums
    rw [List.map_flatMap]
    rfl
  have h2 : ((List.range (8 * n)).map (rowByte f)).map (Value.int .u8) = ((List.range n).map f).flatMap In.bytes := by
    apply List.ext_getElem?
    intro j
    by_cases hj : j < 8 * n
    · rw [row_get f n j hj]
      simp [List.getElem?_range hj]
    · rw [List.getElem?_eq_none (by simp; omega), List.getElem?_eq_none (by rw [flat_length In.bytes 8 In.bytes_length]; simp; omega)]
  exact (List.map_inj_right (fun x y h => by injection h)).1 (h1.trans h2.symm)
theorem rowNums_succ (f : Nat → In) (k : Nat) : rowNums f (k + 1) = rowNums f k ++ (f k).nums := by
  unfold rowNums
  rw [List.range_succ]
  simp
theorem rowNums_length (f : Nat → In) (n : Nat) : (rowNums f n).length = 8 * n := by rw [rowNums_eq]; simp

/-- A slot, written and read again. -/
theorem slot_row (f : Nat → In) (k : Nat) (ok : (f k).Ok) : slotAt (rowByte f) k = ⟨(f k).op, (f k).dst % 16, (f k).src % 16, (f k).off, (f k).imm⟩ := by
  have hb : ∀ j, j < 8 → rowByte f (8 * k + j) = (f k).byte j := fun j hj => by
    unfold rowByte
    rw [show (8 * k + j) / 8 = k by omega, show (8 * k + j) % 8 = j by omega]
  unfold slotAt slotOf
  dsimp only
  rw [hb 0 (by omega), hb 1 (by omega), hb 2 (by omega), hb 3 (by omega), hb 4 (by omega), hb 5 (by omega), hb 6 (by omega), hb 7 (by omega)]
  generalize f k = i at *
  have o0 := ok.off0
  have o1 := ok.off1
  have m0 := ok.imm0
  have m1 := ok.imm1
  have e1 : (i.src % 16 * 16 + i.dst % 16) % 16 = i.dst % 16 := by omega
  have e2 : (i.src % 16 * 16 + i.dst % 16) / 16 = i.src % 16 := by omega
  have e3 : IntKind.i16.wrap (i.off % 65536 % 256 + i.off % 65536 / 256 * 256) = i.off := by
    simp only [IntKind.wrap, IntKind.bits, IntKind.signed]
    simp
    omega
  have e4 : IntKind.i32.wrap (i.imm % 4294967296 % 256 + i.imm % 4294967296 / 256 % 256 * 256 + i.imm % 4294967296 / 65536 % 256 * 65536 + i.imm % 4294967296 / 16777216 * 16777216) = i.imm := by
    rw [IntKind.wrap_i32]
    omega
  show (⟨i.op, (i.src % 16 * 16 + i.dst % 16) % 16, (i.src % 16 * 16 + i.dst % 16) / 16, IntKind.i16.wrap (i.off % 65536 % 256 + i.off % 65536 / 256 * 256), IntKind.i32.wrap (i.imm % 4294967296 % 256 + i.imm % 4294967296 / 256 % 256 * 256 + i.imm % 4294967296 / 65536 % 256 * 65536 + i.imm % 4294967296 / 16777216 * 16777216)⟩ : In) = _
  rw [e1, e2, e3, e4]
end Go.Proofs.Ytjioemkapmchpaa
