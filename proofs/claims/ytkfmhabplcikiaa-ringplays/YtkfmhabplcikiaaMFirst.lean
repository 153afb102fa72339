/-
  first: what must be answered ahead of everything else is answered.
-/
import Derived.Test.YtkfmhabplcikiaaMNil
namespace Go.Proofs.Ytkfmhabplcikiaa.Mem
open Go.RowKit

/-- A new memory. -/
def MS.new (m : Nat) : MS := ⟨m, none, 0, [], 0⟩
theorem memAt_new (w : World) : MemAt (w.alloc (.cells #[.slice none 0 0, .int .i64 0] 66)) (MS.new w.heap.size) where
  self := Blk.newA w #[.slice none 0 0, .int .i64 0] _ 66 rfl
  row := ⟨rfl, by simp [MS.new], by simp [MS.new], rfl⟩
  regs := fun r hr => by cases hr
  ok := fun r hr => by cases hr
  apart := by simp [MS.blocks, MS.new]
  sorted := List.Pairwise.nil
  ids := List.Pairwise.nil
  idlt := fun r hr => by cases hr
  many := by simp [MS.new]

theorem newM_any (w : World) : Calls Try.prog 7 #[] w fun e w' => e = .returned (.pointer (some ⟨w.heap.size, 0, none⟩)) ∧ MemAt w' (MS.new w.heap.size) ∧ Touch [] w w' :=
  (new_any w).mono (fun e w' ⟨h1, h2⟩ => ⟨h1, by rw [h2]; exact memAt_new w, by rw [h2]; exact (Touch.refl _ w).alloc _⟩)

theorem findR_one (r : Reg) (addr : Int) : findR [r] addr = if hasB r addr = true then some r else none := by
  unfold findR
  rw [List.find?_cons]
  cases hasB r addr <;> rfl

/-- The whole of a good Add on an empty memory. -/
theorem addNew_any {w : World} {m : Nat} (h : MemAt w (MS.new m)) (base size perm : Int) (hb0 : 0 ≤ base) (hb1 : base ≤ 18446744073709551615) (hm : mayBeB base size perm = true) :
    Calls Try.prog 8 #[.pointer (some ⟨m, 0, none⟩), .int .u64 base, .int .i64 size, .int .i64 perm] w fun e w' => e = .returned (.tuple #[.int .i64 0, .int .i64 0]) ∧ Touch [m] w w' ∧ ∃ s', MemAt w' s' ∧ s'.m = m ∧ s'.next = 1 ∧
      (∀ x ∈ s'.blocks, x = m ∨ w.heap.size ≤ x) ∧ ∃ r, s'.rs = [r] ∧ NewReg r 0 base size perm := by
  have he : addE (MS.new m).rs base size perm = 0 := by
    unfold addE
    rw [if_neg (by rw [hm]; decide), if_neg (by simp [busyB, MS.new]), if_neg (by simp [MS.new])]
  refine (add_any h base size perm hb0 hb1 (by simp [MS.new])).mono ?_
  rintro e w' ⟨rfl, ht, s', hs', hown, _, h0⟩
  obtain ⟨hn, i, r, hi, hrs, hr⟩ := h0 he
  refine ⟨by rw [he]; rfl, by simpa [MS.blocks, MS.new] using ht, s', hs', hown.1, hn, fun x hx => ?_, r, ?_, hr⟩
  · have := hown.2 x hx
    simpa [MS.blocks, MS.new] using this
  · rw [hrs]
    simp [MS.new]
end Go.Proofs.Ytkfmhabplcikiaa.Mem
