/-
  first: what must be answered ahead of everything else is answered.
-/
import Derived.Test.YtpoliblfgioocaaCheck
namespace Go.Proofs.Ytpoliblfgioocaa
open Go.RowKit

def prog1 (j : Nat) : In := [⟨5, 0, 0, 1, 0⟩, ⟨24, 0, 0, 0, 0⟩, ⟨0, 0, 0, 0, 0⟩, ⟨149, 0, 0, 0, 0⟩].getD j ⟨0, 0, 0, 0, 0⟩
def prog2 (j : Nat) : In := [⟨183, 0, 0, 0, 0⟩, ⟨149, 0, 0, 0, 0⟩].getD j ⟨0, 0, 0, 0, 0⟩
theorem beg1 : begL prog1 4 = [0, 1, 3] := by
  unfold begL
  rw [beg_step (by omega) (by decide +kernel), show 0 + lenP prog1 4 0 = 1 by decide +kernel, beg_step (by omega) (by decide +kernel), show 1 + lenP prog1 4 1 = 3 by decide +kernel, beg_step (by omega) (by decide +kernel), show 3 + lenP prog1 4 3 = 4 by decide +kernel, beg_stop (by omega)]
theorem wrong1 : wrongL prog1 4 = none := by
  unfold wrongL
  rw [wrong_step (by omega) (by decide +kernel) (by decide +kernel), show 0 + lenP prog1 4 0 = 1 by decide +kernel, wrong_step (by omega) (by decide +kernel) (by decide +kernel), show 1 + lenP prog1 4 1 = 3 by decide +kernel, wrong_step (by omega) (by decide +kernel) (by decide +kernel), show 3 + lenP prog1 4 3 = 4 by decide +kernel, wrong_end (by omega)]
theorem beg2 : begL prog2 2 = [0, 1] := by
  unfold begL
  rw [beg_step (by omega) (by decide +kernel), show 0 + lenP prog2 2 0 = 1 by decide +kernel, beg_step (by omega) (by decide +kernel), show 1 + lenP prog2 2 1 = 2 by decide +kernel, beg_stop (by omega)]
theorem wrong2 : wrongL prog2 2 = none := by
  unfold wrongL
  rw [wrong_step (by omega) (by decide +kernel) (by decide +kernel), show 0 + lenP prog2 2 0 = 1 by decide +kernel, wrong_step (by omega) (by decide +kernel) (by decide +kernel), show 1 + lenP prog2 2 1 = 2 by decide +kernel, wrong_end (by omega)]
theorem check1 : checkP prog1 4 = (0, 43) := by
  unfold checkP
  have hs : firstL (strayB prog1 4) (begL prog1 4) = some 0 := by
    unfold firstL strayB
    rw [beg1]
    decide +kernel
  rw [if_neg (by omega), wrong1, hs]
theorem parts2 : partsL prog2 2 = [0] := by
  unfold partsL isPartB
  rw [beg2]
  decide +kernel
theorem check2 : checkP prog2 2 = (0, 0) := by
  unfold checkP
  have hs : firstL (strayB prog2 2) (begL prog2 2) = none := by
    unfold firstL strayB
    rw [beg2]
    decide +kernel
  have hc : firstL (crossB prog2 2) (begL prog2 2) = none := by
    unfold firstL crossB
    rw [beg2, parts2]
    decide +kernel
  have he : endFrom prog2 (partsL prog2 2) 0 (begL prog2 2) = none := by
    rw [beg2, parts2]
    decide +kernel
  rw [if_neg (by omega), wrong2, hs, hc, he]

theorem ok1 : ∀ j, j < 4 → (prog1 j).Ok := by
  intro j hj
  have : j = 0 ∨ j = 1 ∨ j = 2 ∨ j = 3 := by omega
  rcases this with rfl | rfl | rfl | rfl <;> exact ⟨by decide, by decide, by decide, by decide, by decide, by decide, by decide, by decide, by decide, by decide⟩
theorem ok2 : ∀ j, j < 2 → (prog2 j).Ok := by
  intro j hj
  have : j = 0 ∨ j = 1 := by omega
  rcases this with rfl | rfl <;> exact ⟨by decide, by decide, by decide, by decide, by decide, by decide, by decide, by decide, by decide, by decide⟩
def cells1 : Array Value := #[.int .u8 5, .int .u8 0, .int .u8 0, .int .i16 1, .int .i32 0, .int .u8 24, .int .u8 0, .int .u8 0, .int .i16 0, .int .i32 0, .int .u8 0, .int .u8 0, .int .u8 0, .int .i16 0, .int .i32 0, .int .u8 149, .int .u8 0, .int .u8 0, .int .i16 0, .int .i32 0]
def cells2 : Array Value := #[.int .u8 183, .int .u8 0, .int .u8 0, .int .i16 0, .int .i32 0, .int .u8 149, .int .u8 0, .int .u8 0, .int .i16 0, .int .i32 0]
theorem slots1 (w : World) : ListAt (w.alloc (.cells cells1 31)) (some ⟨w.heap.size, 0, none⟩) 4 prog1 := by
  have hB := Blk.newA w cells1 cells1.toList 31 rfl
  refine Or.inr ⟨_, _, rfl, hB.lt, ok1, fun j hj => ?_⟩
  have : j = 0 ∨ j = 1 ∨ j = 2 ∨ j = 3 := by omega
  rcases this with rfl | rfl | rfl | rfl <;> exact ⟨hB.cell rfl, hB.cell rfl, hB.cell rfl, hB.cell rfl, hB.cell rfl⟩
theorem slots2 (w : World) : ListAt (w.alloc (.cells cells2 31)) (some ⟨w.heap.size, 0, none⟩) 2 prog2 := by
  have hB := Blk.newA w cells2 cells2.toList 31 rfl
  refine Or.inr ⟨_, _, rfl, hB.lt, ok2, fun j hj => ?_⟩
  have : j = 0 ∨ j = 1 := by omega
  rcases this with rfl | rfl <;> exact ⟨hB.cell rfl, hB.cell rfl, hB.cell rfl, hB.cell rfl, hB.cell rfl⟩

set_option maxHeartbeats 1000000 in
set_option maxRecDepth 100000 in
theorem first_any (w : World) : Calls Try.prog 7 #[] w fun e w' => e = .returned (.bool true) ∧ Touch [] w w' := by
  have H1 := toHid (check_any _ 4 4 prog1 _ (slots1 w) (by omega))
  have HT := toHid ((Touch.refl [] w).alloc (.cells cells1 31))
  rw [check1] at H1
  simp only [checkV, cells1] at H1 HT
  go_enter Try.func7, Try.ntmps7
  go_wp2_with fail
  refine Calls.mono H1.out ?_
  rintro e w2 ⟨rfl, ht2⟩
  have HT2 := toHid (HT.out.trans ht2 (by simp))
  clear ht2 H1 HT
  have H2 := toHid (check_any _ 2 2 prog2 _ (slots2 w2) (by omega))
  have HT := toHid (HT2.out.alloc (.cells cells2 31))
  rw [check2] at H2
  simp only [checkV, cells2] at H2 HT
  go_wp2_with fail
  refine Calls.mono H2.out ?_
  rintro e w3 ⟨rfl, ht3⟩
  have HT3 := toHid (HT.out.trans ht3 (by simp))
  clear ht3 H2 HT
  go_wp2
  go_ret
  exact ⟨rfl, HT3.out⟩
end Go.Proofs.Ytpoliblfgioocaa
