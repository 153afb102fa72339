/-
  slices.Clone of a row of slots.
-/
import Derived.Test.YtlkppkgfnmlblaaLFns
namespace Go.Proofs.Ytlkppkgfnmlblaa
open Go.RowKit Go.Maps

def ClonePost (w : World) (l : List Nat) (e : Ending) (w' : World) : Prop := ∃ g cap, e = .returned (slV g l.length cap) ∧ OrdAt w' g cap l ∧ Touch [] w w' ∧ ∀ b, g = some b → w.heap.size ≤ b
theorem clone_run {w : World} {b cap : Nat} {l : List Nat} (h : OrdAt w (some b) cap l) (hl : l.length ≤ 1000) :
    ∃ g' cap' w', (Builtin.append_ #[58, 58] 58 #[.slice (some ⟨w.heap.size, 0, none⟩) 0 0, .slice (some ⟨b, 0, none⟩) l.length cap]).run Try.prog (w.alloc (.cells #[] 3)) = .ok (slV g' l.length cap') w' ∧ OrdAt w' g' cap' l ∧ Touch [] w w' ∧ ∀ b, g' = some b → w.heap.size ≤ b := by
  obtain ⟨i, hi0, hz, hs, hb⟩ := info_of info3
  have hE := Blk.newA w #[] [] 3 rfl
  have hta : Touch [] w (w.alloc (.cells #[] 3)) := (Touch.refl _ w).alloc _
  have hrow : RowAt (w.alloc (.cells #[] 3)) 3 1 (some w.heap.size) 0 0 [] := ⟨rfl, Nat.le_refl _, by unfold maxLen; omega, [], by simpa using hE, by simp⟩
  have h' := h.touch hta (by simp)
  obtain ⟨g', cap', w', hr, q2, q3, q4, _⟩ := run_append_row (P := Try.prog) (w.alloc (.cells #[] 3)) 58 58 3 i (.int .i64 0) 1 Try.underlying58 hi0 hz hs rfl (by omega) (some w.heap.size) 0 0 [] hrow ⟨b, 0, none⟩ l.length cap (l.map natV) (by simp)
    (fun j v hj => by
      rw [Addr.add_lit]
      have hjl : j < l.length := by have := (List.getElem?_eq_some_iff.1 hj).1; simpa using this
      have := h'.cell hjl
      rw [List.getElem?_map, List.getElem?_eq_getElem hjl] at hj
      rw [List.getD_eq_getElem?_getD, List.getElem?_eq_getElem hjl] at this
      simp only [Nat.zero_add]
      rw [this]
      exact hj)
    (fun u hu => by
      obtain ⟨x, _, rfl⟩ := List.mem_map.1 hu
      rfl) (by rw [hb]; omega) (by omega)
  simp only [Nat.zero_add, List.nil_append] at hr q2
  refine ⟨g', cap', w', hr, q2, hta.trans q3 (fun y hy => Or.inr (by simp at hy; omega)), fun c hc => ?_⟩
  rcases q4 with q4 | q4
  · rw [hc] at q4
    injection q4 with q4
    omega
  · rw [hc] at q4
    injection q4 with q4
    rw [q4, World.size_alloc]
    omega
set_option maxHeartbeats 1000000 in
set_option maxRecDepth 100000 in
theorem clone_any {w : World} {g : Option Nat} {cap : Nat} {l : List Nat} (h : OrdAt w g cap l) (hl : l.length ≤ 1000) :
    Calls Try.prog 33 #[slV g l.length cap] w (ClonePost w l) := by
  have heq : ∀ (a : Option Addr) (n c : Nat) (w : World), (binOp .eql 58 (.slice a n c) (.slice none 0 0)).run Try.prog w = .ok (.bool a.isNone) w := fun a n c w => Lib.run_eql_slice_nil w 58 3 a n c 0 0 Try.underlying58
  cases g with
  | none =>
    have hc : cap = 0 := h.2.2.2
    have hl0 : l.length = 0 := by have := h.2.1; omega
    have HF : Hid (ClonePost w l (.returned (.slice none 0 0)) w) := ⟨none, 0, by rw [hl0]; rfl, by rw [← hc]; exact h, Touch.refl _ _, fun b hb => by cases hb⟩
    unfold slV
    clear h hc hl0
    go_enter Try.func33, Try.ntmps33
    go_wp2
    go_ret
    exact HF.out
  | some b =>
    obtain ⟨g', cap', w', hr, h1, h2, h3⟩ := clone_run h hl
    have HF : Hid (ClonePost w l (.returned (slV g' l.length cap')) w') := ⟨g', cap', rfl, h1, h2, h3⟩
    have HR := toHid hr
    generalize slV g' l.length cap' = v at *
    unfold slV
    simp only [Option.map_some]
    clear h hr h1 h2 h3
    go_enter Try.func33, Try.ntmps33
    go_wp2_with (first | (at_builtin; refine Lib.wpList_append_run _ rfl _ _ _ _ rfl _ _ rfl rfl _ _ HR.out ?_))
    go_ret
    exact HF.out
end Go.Proofs.Ytlkppkgfnmlblaa
