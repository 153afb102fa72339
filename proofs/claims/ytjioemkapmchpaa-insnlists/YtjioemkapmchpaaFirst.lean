/-
  first: what must be answered ahead of everything else is answered.
-/
import Derived.Test.YtjioemkapmchpaaDecode
namespace Go.Proofs.Ytjioemkapmchpaa
open Go.RowKit

/-- The bytes that first hands to Decode. -/
def fz (j : Nat) : Int := [183, 33, 255, 255, 5, 0, 0, 128].getD j 0
theorem fz_slot : slots fz 1 = [⟨183, 1, 2, -1, -2147483643⟩] := by kernel_rfl

set_option maxHeartbeats 1000000 in
set_option maxRecDepth 100000 in
theorem first_any (w : World) : Calls Try.prog 8 #[] w fun e w' => e = .returned (.bool true) ∧ Touch [] w w' := by
  have hB := Blk.newA w #[.int .u8 183, .int .u8 33, .int .u8 255, .int .u8 255, .int .u8 5, .int .u8 0, .int .u8 0, .int .u8 128] _ 5 rfl
  have H1 := toHid (decode_any (some ⟨w.heap.size, 0, none⟩) 8 8 fz (w.alloc (.cells #[.int .u8 183, .int .u8 33, .int .u8 255, .int .u8 255, .int .u8 5, .int .u8 0, .int .u8 0, .int .u8 128] 5))
    (Or.inr ⟨w.heap.size, 0, rfl, by simp, fun j hj => by
      have : j = 0 ∨ j = 1 ∨ j = 2 ∨ j = 3 ∨ j = 4 ∨ j = 5 ∨ j = 6 ∨ j = 7 := by omega
      rcases this with rfl | rfl | rfl | rfl | rfl | rfl | rfl | rfl <;> exact ⟨hB.cell rfl, by decide, by decide⟩⟩) (by omega) (by omega) (by omega))
  clear hB
  go_enter Try.func8, Try.ntmps8
  go_wp2_with fail
  refine H1.out.mono ?_
  rintro e w2 ⟨ht, he⟩
  rw [if_pos (by rfl)] at he
  obtain ⟨N, rfl, hN, hb⟩ := he
  rw [show (8 : Nat) / 8 = 1 from rfl, fz_slot] at *
  have HT := toHid ht
  have d0 : w2.cell? ⟨N, 0, none⟩ = some _ := hb.cell rfl
  have d1 : w2.cell? ⟨N, 1, none⟩ = some _ := hb.cell rfl
  have d2 : w2.cell? ⟨N, 2, none⟩ = some _ := hb.cell rfl
  have d3 : w2.cell? ⟨N, 3, none⟩ = some _ := hb.cell rfl
  have d4 : w2.cell? ⟨N, 4, none⟩ = some _ := hb.cell rfl
  clear hb ht H1
  have k1 : knownB 24 = true := by decide
  have k2 : knownB 140 = false := by decide
  go_wp2_with (go_at_call 13; refine (known_any _ _ (by decide) (by decide)).mono ?_; rintro e w' ⟨rfl, rfl⟩)
  go_ret
  exact ⟨rfl, ((Touch.refl _ w).alloc _).trans HT.out (by simp)⟩
end Go.Proofs.Ytjioemkapmchpaa
