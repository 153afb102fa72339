/-
  For every input FormChecks returns true, and each argument reads afterwards as it read before. No conditions. (The walk.)
-/
import Derived.Test.YtpoliblfgioocaaFirst
import Derived.Test.YtpoliblfgioocaaRCheck
import Derived.Test.YtpoliblfgioocaaWas
namespace Go.Proofs.Ytpoliblfgioocaa
open Go.RowKit

set_option maxHeartbeats 2000000 in
set_option maxRecDepth 100000 in
theorem formChecks_walk (sa : Option Addr) (n c : Nat) (f : Nat → In) (w : World) (h : ListAt w sa n f) (hn : n * 12 ≤ 140737488355328) :
    Calls Try.prog 3 #[.slice sa n c] w fun e w' => e = .returned (.bool true) ∧ Touch [] w w' := by
  have HS := toHid h
  have hok : ∀ j, j < n → (f j).Ok := fun j hj => by
    obtain ⟨b, off, _, hS⟩ := h.slots hj
    exact hS.ok j hj
  have HOK := toHid hok
  clear h hok
  go_enter Try.func3, Try.ntmps3
  go_wp2_with fail
  refine (first_any w).mono ?_
  rintro e w2 ⟨rfl, ht2⟩
  have hta : Touch [] w (w2.alloc (.cells #[] 31)) := ht2.alloc _
  have hE : Blk (w2.alloc (.cells #[] 31)) w2.heap.size [] 31 := Blk.newA w2 #[] [] 31 rfl
  have hrow : RowAt (w2.alloc (.cells #[] 31)) 31 5 (some w2.heap.size) 0 0 [] := ⟨rfl, Nat.le_refl _, by unfold maxLen; omega, [], by simpa using hE, by simp⟩
  obtain ⟨g, cap, w3, hr3, hrow3, ht3, hg3⟩ := append_list (c := c) hrow (HS.out.touch hta (by simp)) (by omega)
  have hs2 := ht2.size
  have hT3 : Touch [] w w3 := hta.trans ht3 (fun x hx => Or.inr (by simp at hx; omega))
  simp only [Nat.zero_add, List.nil_append] at hr3 hrow3
  have HR3 := toHid hr3
  have HW3 := toHid (row_list HOK.out hrow3)
  have HT3 := toHid hT3
  have HL3 := toHid (HS.out.touch hT3 (by simp))
  clear hr3 hrow3 ht3 hT3 hta hE ht2 hg3 hs2 hrow
  simp only [slV, Option.map_some] at HR3
  go_wp2_with (at_builtin; refine Lib.wpList_append_run _ rfl _ _ _ _ rfl _ _ rfl rfl _ _ HR3.out ?_)
  generalize (g.map fun b => (⟨b, 0, none⟩ : Addr)) = wa at *
  refine Calls.mono (check_any sa n c f w3 HL3.out (by omega)) ?_
  rintro e w4 ⟨rfl, ht4⟩
  have HT4 := toHid (HT3.out.trans ht4 (by simp))
  have HL4 := toHid (HL3.out.touch ht4 (by simp))
  have HW4 := toHid (HW3.out.touch ht4 (by simp))
  clear ht4 HL3 HW3 HT3 HR3
  simp only [checkV]
  go_wp2_with fail
  refine Calls.mono (rcheck_any wa n cap f w4 HW4.out (by omega)) ?_
  rintro e w5 ⟨rfl, ht5⟩
  have HT5 := toHid (HT4.out.trans ht5 (by simp))
  have HL5 := toHid (HL4.out.touch ht5 (by simp))
  have HW5 := toHid (HW4.out.touch ht5 (by simp))
  clear ht5 HL4 HW4 HT4 HS
  simp only [checkV]
  generalize checkP f n = cp at *
  go_wp2_with fail
  go_loopw [26] (fun t w' => ∃ (j : Nat), j ≤ n ∧ t = .int .i64 j ∧ Hid (Touch [] w5 w')) (fun t _ => n - (intOf t).toNat)
  case atStart => exact ⟨0, by omega, rfl, toHid (Touch.refl _ _)⟩
  case round =>
    obtain ⟨j, hj, rfl, HJ⟩ := hrel
    by_cases hlt : j < n
    · have z1 : (j : Int) < (n : Int) := by omega
      obtain ⟨b, off, rfl, hS⟩ := (HL5.out.touch HJ.out (by simp)).slots hlt
      obtain ⟨b2, off2, rfl, hS2⟩ := (HW5.out.touch HJ.out (by simp)).slots hlt
      obtain ⟨c0, c1, c2, c3, c4⟩ := hS.at_ j hlt
      obtain ⟨d0, d1, d2, d3, d4⟩ := hS2.at_ j hlt
      clear hS hS2
      generalize f j = i at *
      go_wp2_with fail
      go_quiet (fail)
      go_wp2
      go_roundw
      case rel => exact ⟨j + 1, by omega, by go_num, toHid (HJ.out.drewN nq)⟩
      case measure => simp [intOf]; omega
    · have HTT := toHid (HT5.out.trans HJ.out (by simp))
      go_wp2
      go_ret
      exact ⟨ret_bool (by simp), HTT.out⟩
end Go.Proofs.Ytpoliblfgioocaa
