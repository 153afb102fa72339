/-
  first; what Find, Put, Del leave of the keys that are held.
-/
import Derived.Test.YtalmgjahfhdlbaaHKeys
namespace Go.Proofs.Ytalmgjahfhdlbaa
open Go.RowKit Go.Maps

/-- Two bytes just laid. -/
theorem key_new2 (w : World) (a b : Int) (h : ∀ x ∈ [a, b], 0 ≤ x ∧ x ≤ 255) : KeyAt (w.alloc (.cells #[.int .u8 a, .int .u8 b] 5)) (some ⟨w.heap.size, 0, none⟩) 2 [a, b] := by
  have hB := Blk.newA w #[.int .u8 a, .int .u8 b] _ 5 rfl
  refine ⟨rfl, h, by simp, fun _ => ⟨_, 0, rfl, fun j hj => ?_⟩⟩
  simp at hj
  have : j = 0 ∨ j = 1 := by omega
  rcases this with rfl | rfl <;> exact hB.cell rfl

set_option maxHeartbeats 1000000 in
set_option maxRecDepth 100000 in
theorem first_any (w : World) : Calls Try.prog 6 #[] w fun e w' => e = .returned (.bool true) ∧ Touch [] w w' := by
  go_enter Try.func6, Try.ntmps6
  go_wp2_with fail
  refine Calls.mono (new_any w 2 2 (by omega) (by omega) (by omega) (by omega)) ?_
  rintro e w2 ⟨X, b, rfl, hA, hX, hb, ht⟩
  have hk := key_new2 w2 0 1 (by decide)
  have ht3 := (Touch.refl [] w2).alloc (.cells #[.int .u8 0, .int .u8 1] 5)
  have H1 := toHid (put_any (hA.touch ht3 (by simp) (by simp)) hk 2 0 (by omega))
  have HT := toHid (And.intro (ht.trans ht3 (by simp)) (And.intro hX hb))
  clear hA ht hk ht3 hX hb
  go_wp2_with fail
  refine Calls.mono H1.out ?_
  rintro e w3 ⟨rfl, hA3, ht3⟩
  have hA4 : HAt w3 (HX.with ⟨X, b, 2, List.replicate 2 none⟩ [some [0, 1], none]) := hA3
  have hk := key_new2 w3 0 1 (by decide)
  have ht4 := (Touch.refl [] w3).alloc (.cells #[.int .u8 0, .int .u8 1] 5)
  have H2 := toHid (find_any (hA4.touch ht4 (by simp) (by simp)) hk 2)
  rw [show (HX.with ⟨X, b, 2, List.replicate 2 none⟩ [some [0, 1], none]).find [0, 1] = some 0 from rfl] at H2
  have HT4 := toHid ((HT.out.1.trans ht3 (fun y hy => Or.inr (by simp at hy; rw [hy]; exact HT.out.2.2))).trans ht4 (by simp))
  rw [show (HX.put ⟨X, b, 2, List.replicate 2 none⟩ [0, 1] 0) = ((0, true, 0), [some [0, 1], none]) from rfl]
  unfold foundV idx0 Option.isSome at H2
  clear hA3 hA4 ht3 hk ht4 H1 HT
  go_wp2_with fail
  refine Calls.mono H2.out ?_
  rintro e w5 ⟨rfl, ht5⟩
  have HF := toHid (HT4.out.trans ht5 (by simp))
  clear ht5 H2
  go_wp2
  go_ret
  exact ⟨rfl, HF.out⟩

theorem find_get {x : HX} {bs : List Int} {i : Nat} (h : x.find bs = some i) : x.l[i]? = some (some bs) ∧ i < x.l.length := by
  unfold HX.find at h
  split at h
  · exact ⟨same_get h, sameP_lt h⟩
  · cases h
/-- What Put answers, by whether the key was held. -/
theorem put_some {x : HX} {bs : List Int} {i : Nat} (h : x.find bs = some i) (fl : Int) : ((x.put bs fl).1.2.2 ≠ 0 ∧ (x.put bs fl).2 = x.l) ∨ x.put bs fl = (((i : Int), false, 0), x.l) := by
  unfold HX.find at h
  split at h
  · rename_i hl
    unfold HX.put
    rw [if_pos hl]
    by_cases h2 : 2 < fl
    · rw [if_pos h2]
      exact Or.inl ⟨by show (72 : Int) ≠ 0; decide, rfl⟩
    · rw [if_neg h2, h]
      by_cases h1 : fl = 1
      · simp [h1]
      · simp [h1]
  · cases h
theorem put_none {x : HX} {bs : List Int} (h : x.find bs = none) (fl : Int) : ((x.put bs fl).1.2.2 ≠ 0 ∧ (x.put bs fl).2 = x.l) ∨ ∃ f : Nat, x.put bs fl = (((f : Int), true, 0), x.l.set f (some bs)) ∧ x.l[f]? = some none := by
  unfold HX.find at h
  unfold HX.put
  split at h
  · rename_i hl
    rw [if_pos hl]
    by_cases h2 : 2 < fl
    · rw [if_pos h2]
      exact Or.inl ⟨by show (72 : Int) ≠ 0; decide, rfl⟩
    · rw [if_neg h2, h]
      by_cases h1 : fl = 2
      · simp [h1]
      · simp only [if_neg h1]
        cases hf : freeP x.l with
        | none => exact Or.inl ⟨by show (71 : Int) ≠ 0; decide, rfl⟩
        | some f => exact Or.inr ⟨f, rfl, free_get hf⟩
  · rename_i hl
    rw [if_neg hl]
    exact Or.inl ⟨by show (2 : Int) ≠ 0; decide, rfl⟩
theorem del_some {x : HX} {bs : List Int} {i : Nat} (h : x.find bs = some i) : x.del bs = (((i : Int), 0), x.l.set i none) := by
  unfold HX.find at h
  split at h
  · rename_i hl
    unfold HX.del
    rw [if_pos hl, h]
  · cases h
theorem del_none {x : HX} {bs : List Int} (h : x.find bs = none) : (x.del bs).1.2 ≠ 0 ∧ (x.del bs).2 = x.l := by
  unfold HX.find at h
  unfold HX.del
  split at h
  · rename_i hl
    rw [if_pos hl, h]
    exact ⟨by show (14 : Int) ≠ 0; decide, rfl⟩
  · rename_i hl
    rw [if_neg hl]
    exact ⟨by show (2 : Int) ≠ 0; decide, rfl⟩
/-- No key is held twice. -/
theorem keysP_nodup {w : World} {b size : Nat} {l : List (Option (List Int))} (h : HM w b size l) : (keysP l).Nodup := by
  obtain ⟨⟨D, n, _, hS⟩, _⟩ := h
  unfold keysP List.Nodup
  rw [List.pairwise_filterMap, List.pairwise_iff_getElem]
  intro i j hi hj hij a ha b hb e
  subst e
  have h1 : l[i]? = some (some a) := by rw [List.getElem?_eq_getElem hi]; exact congrArg some ha
  have h2 : l[j]? = some (some a) := by rw [List.getElem?_eq_getElem hj]; exact congrArg some hb
  have := hS.once h1 h2
  omega
theorem keysP_mem {l : List (Option (List Int))} {bs : List Int} : bs ∈ keysP l ↔ some bs ∈ l := by
  unfold keysP
  simp
/-- A key that is held is found. -/
theorem find_held {w : World} {x : HX} (h : HAt w x) {bs : List Int} (hb : bs ∈ keysP x.l) : ∃ i, x.find bs = some i ∧ i < x.l.length := by
  rw [keysP_mem] at hb
  have hl := (h.map.keys bs hb).2
  have hf : x.find bs = sameP x.l bs := if_pos hl
  rw [hf]
  cases hs : sameP x.l bs with
  | none =>
    obtain ⟨i, hi, he⟩ := List.getElem_of_mem hb
    exact absurd (by rw [List.getElem?_eq_getElem hi, he]) (same_not hs i)
  | some i => exact ⟨i, rfl, sameP_lt hs⟩
end Go.Proofs.Ytalmgjahfhdlbaa
