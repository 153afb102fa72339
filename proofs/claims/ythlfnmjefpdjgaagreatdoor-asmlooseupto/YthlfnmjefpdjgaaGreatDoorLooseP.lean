/-
  A text with more blanks, empty lines and remarks is read as the text is.
-/
import Derived.Test.YthlfnmjefpdjgaaGreatDoorTexts
namespace Go.Proofs.YthlfnmjefpdjgaaGreatDoor
open Go.RowKit

def nlN : List Bs := [[10], [32, 10, 10], [10, 35, 32, 109, 111, 118, 32, 114, 48, 32, 49, 10], [10, 32, 32, 32, 35, 10, 32, 32]]
/-- What stands in a letter's place. -/
def piece (c : UInt8) (n : Nat) : Bs := if c = 32 then List.replicate (n + 1) 32 else if c = 10 then (nlN[n]?).getD [] else [c]
/-- A text, each letter by its gap. -/
def looseF (g : Nat → Nat) : Nat → Bs → Bs
  | _, [] => []
  | i, c :: s => piece c (g i) ++ looseF g (i + 1) s
theorem loose_app (g : Nat → Nat) : ∀ (a b : Bs) (i : Nat), looseF g i (a ++ b) = looseF g i a ++ looseF g (i + a.length) b
  | [], b, i => by simp [looseF]
  | c :: a, b, i => by
    simp only [List.cons_append, looseF, List.length_cons, loose_app g a b (i + 1), List.append_assoc]
    rw [show i + 1 + a.length = i + (a.length + 1) by omega]
theorem loose_take (g : Nat → Nat) (s : Bs) (i : Nat) (c : UInt8) (h : s[i]? = some c) : looseF g 0 (s.take (i + 1)) = looseF g 0 (s.take i) ++ piece c (g i) := by
  have hi := (List.getElem?_eq_some_iff.1 h).1
  rw [List.take_add_one, h, Option.toList_some, loose_app]
  simp [looseF, Nat.min_eq_left (Nat.le_of_lt hi)]
theorem piece_len (c : UInt8) (n : Nat) (hn : n < 4) : (piece c n).length ≤ 12 := by
  unfold piece
  split
  · simp; omega
  · split
    · have : ∀ k : Fin 4, ((nlN[k.val]?).getD []).length ≤ 12 := by decide
      exact this ⟨n, hn⟩
    · simp
theorem loose_len (g : Nat → Nat) (hg : ∀ i, g i < 4) : ∀ (s : Bs) (i : Nat), (looseF g i s).length ≤ 12 * s.length
  | [], i => by simp [looseF]
  | c :: s, i => by
    have h1 := piece_len c (g i) (hg i)
    have h2 := loose_len g hg s (i + 1)
    simp only [looseF, List.length_append, List.length_cons]
    omega
theorem loose_len4 (g : Nat → Nat) (hg : ∀ i, g i < 4) : ∀ (s : Bs) (i : Nat), 10 ∉ s → (looseF g i s).length ≤ 4 * s.length
  | [], i, _ => by simp [looseF]
  | c :: s, i, h => by
    have hc : ¬ c = 10 := fun e => h (by simp [e])
    have h2 := loose_len4 g hg s (i + 1) (fun m => h (by simp [m]))
    have h3 := hg i
    simp only [looseF, List.length_append, List.length_cons]
    unfold piece
    split
    · simp; omega
    · simp; omega
theorem loose_no10 (g : Nat → Nat) : ∀ (s : Bs) (i : Nat), 10 ∉ s → 10 ∉ looseF g i s
  | [], i, _ => by simp [looseF]
  | c :: s, i, h => by
    have hc : ¬ c = 10 := fun e => h (by simp [e])
    have h2 := loose_no10 g s (i + 1) (fun m => h (by simp [m]))
    simp only [looseF, List.mem_append, not_or]
    refine ⟨?_, h2⟩
    unfold piece
    split
    · simp
    · simpa using fun e => hc e.symm
theorem wordsF_blanks (k : Nat) (l : Bs) : wordsF [] (List.replicate k 32 ++ l) = wordsF [] l := by
  induction k with
  | zero => simp
  | succ k ih => rw [List.replicate_succ, List.cons_append, wordsF]; simp [ih]
theorem wordsF_end (cur : Bs) (k : Nat) : wordsF cur (List.replicate k 32) = wordsF cur [] := by
  cases k with
  | zero => rfl
  | succ k =>
    have e := wordsF_blanks k []
    rw [List.append_nil] at e
    have e1 : wordsF cur (32 :: List.replicate k 32) = if cur = [] then wordsF [] (List.replicate k 32) else cur :: wordsF [] (List.replicate k 32) := by
      rw [wordsF, if_pos rfl]
    rw [List.replicate_succ, e1, e]
    simp [wordsF]
theorem wordsF_loose (g : Nat → Nat) (k : Nat) : ∀ (s : Bs) (i : Nat) (cur : Bs), 10 ∉ s → wordsF cur (looseF g i s ++ List.replicate k 32) = wordsF cur s
  | [], i, cur, _ => by simp only [looseF, List.nil_append]; exact wordsF_end cur k
  | c :: s, i, cur, h => by
    have hc : ¬ c = 10 := fun e => h (by simp [e])
    have ih := fun cur => wordsF_loose g k s (i + 1) cur (fun m => h (by simp [m]))
    simp only [looseF, List.append_assoc]
    unfold piece
    by_cases hb : c = 32
    · subst hb
      simp only [if_true]
      rw [List.replicate_succ, List.cons_append, wordsF, wordsF, if_pos rfl, if_pos rfl, wordsF_blanks, ih]
    · rw [if_neg hb, if_neg hc, List.singleton_append, wordsF, if_neg hb, ih, wordsF, if_neg hb]
theorem words_loose (g : Nat → Nat) (j k i : Nat) (s : Bs) (h : 10 ∉ s) : words (List.replicate j 32 ++ (looseF g i s ++ List.replicate k 32)) = words s := by
  unfold words
  rw [wordsF_blanks, wordsF_loose g k s i [] h]
theorem no10_blanks (j : Nat) : (10 : UInt8) ∉ List.replicate j (32 : UInt8) := by simp
theorem loose_parse (g : Nat → Nat) (hg : ∀ i, g i < 4) : ∀ (gs : List (List In)) (i j n : Nat), (∀ x ∈ gs, Grp x) → parseL n (lines (List.replicate j 32 ++ looseF g i (textG gs))) = .ok gs.flatten
  | [], i, j, n, _ => by
    have hl : lines (List.replicate j (32 : UInt8)) = [List.replicate j 32] := by
      have := lines_cut (List.replicate j (32 : UInt8))
      rw [this, if_neg (no10_blanks j)]
      simp only [cutC]
      rw [(upTo_all 10 _ (no10_blanks j)).1]
    simp only [textG, List.flatMap_nil, looseF, List.append_nil]
    rw [hl, parseL_cons]
    have hw : words (List.replicate j 32) = [] := by
      have := wordsF_end [] j
      unfold words
      rw [this]; rfl
    rw [hw]
    rfl
  | x :: gs, i, j, n, h => by
    have hs := slots_line x (h x (by simp))
    have ih := fun i' j' n' => loose_parse g hg gs i' j' n' (fun y hy => h y (by simp [hy]))
    have e : textG (x :: gs) = lineG x ++ (10 :: textG gs) := by simp [textG]
    rw [e, loose_app, looseF]
    generalize hi : i + (lineG x).length = i'
    have h4 := hg i'
    have hpc : piece 10 (g i') = (nlN[g i']?).getD [] := by simp [piece]
    rw [hpc]
    have hA : ∀ k, (10 : UInt8) ∉ List.replicate j (32 : UInt8) ++ (looseF g i (lineG x) ++ List.replicate k 32) := fun k => by
      simp only [List.mem_append, not_or]
      exact ⟨no10_blanks j, loose_no10 g _ _ hs.2.1, no10_blanks k⟩
    have step : ∀ (k n : Nat) (R : Bs), parseL n (lines ((List.replicate j 32 ++ (looseF g i (lineG x) ++ List.replicate k 32)) ++ 10 :: R)) = withL x (parseL (n + 1) (lines R)) := fun k n R => by
      rw [lines_line _ _ (hA k), parseL_cons, words_loose g j k i _ hs.2.1, hs.1]
    have s0 := fun n R => step 0 n R
    simp only [List.replicate_zero, List.append_nil] at s0
    have s1 := fun n R => step 1 n R
    simp only [List.replicate_one] at s1
    have skip : ∀ (l : Bs) (n : Nat) (R : Bs), (10 : UInt8) ∉ l → slotsW (words l) = some [] → parseL n (lines (l ++ 10 :: R)) = parseL (n + 1) (lines R) := fun l n R hl hw => by
      rw [lines_line _ _ hl, parseL_cons, hw]
      simp only
      rw [withL_nil]
    have hfin : ∀ r, withL x (Except.ok r : Except Nat (List In)) = .ok (x ++ r) := fun r => rfl
    rcases (by omega : g i' = 0 ∨ g i' = 1 ∨ g i' = 2 ∨ g i' = 3) with hq | hq | hq | hq
    · rw [hq, show (nlN[0]?).getD [] = [10] from rfl, ← List.append_assoc, List.singleton_append, s0]
      have := ih (i' + 1) 0 (n + 1)
      rw [List.replicate_zero, List.nil_append] at this
      rw [this, hfin]; simp
    · rw [hq, show (nlN[1]?).getD [] = [32] ++ 10 :: [10] from rfl]
      have e2 : List.replicate j 32 ++ (looseF g i (lineG x) ++ (([32] ++ 10 :: [10]) ++ looseF g (i' + 1) (textG gs))) = (List.replicate j 32 ++ (looseF g i (lineG x) ++ [32])) ++ 10 :: ([] ++ 10 :: looseF g (i' + 1) (textG gs)) := by simp
      rw [e2, s1, skip [] _ _ (by simp) rfl]
      have := ih (i' + 1) 0 (n + 1 + 1)
      rw [List.replicate_zero, List.nil_append] at this
      rw [this, hfin]; simp
    · rw [hq, show (nlN[2]?).getD [] = 10 :: ([35, 32, 109, 111, 118, 32, 114, 48, 32, 49] ++ 10 :: []) from rfl]
      have e2 : List.replicate j 32 ++ (looseF g i (lineG x) ++ (10 :: ([35, 32, 109, 111, 118, 32, 114, 48, 32, 49] ++ 10 :: []) ++ looseF g (i' + 1) (textG gs))) = (List.replicate j 32 ++ looseF g i (lineG x)) ++ 10 :: ([35, 32, 109, 111, 118, 32, 114, 48, 32, 49] ++ 10 :: looseF g (i' + 1) (textG gs)) := by simp
      rw [e2, s0, skip _ _ _ (by decide) rfl]
      have := ih (i' + 1) 0 (n + 1 + 1)
      rw [List.replicate_zero, List.nil_append] at this
      rw [this, hfin]; simp
    · rw [hq, show (nlN[3]?).getD [] = 10 :: ([32, 32, 32, 35] ++ 10 :: [32, 32]) from rfl]
      have e2 : List.replicate j 32 ++ (looseF g i (lineG x) ++ (10 :: ([32, 32, 32, 35] ++ 10 :: [32, 32]) ++ looseF g (i' + 1) (textG gs))) = (List.replicate j 32 ++ looseF g i (lineG x)) ++ 10 :: ([32, 32, 32, 35] ++ 10 :: (List.replicate 2 32 ++ looseF g (i' + 1) (textG gs))) := by simp [List.replicate]
      rw [e2, s0, skip _ _ _ (by decide) rfl, ih (i' + 1) 2, hfin]
      simp
theorem loose_text_len (g : Nat → Nat) (hg : ∀ i, g i < 4) : ∀ (gs : List (List In)) (i : Nat), (∀ x ∈ gs, Grp x) → (looseF g i (textG gs)).length ≤ 412 * gs.length
  | [], i, _ => by simp [textG, looseF]
  | x :: gs, i, h => by
    have hs := slots_line x (h x (by simp))
    have ih := fun i' => loose_text_len g hg gs i' (fun y hy => h y (by simp [hy]))
    have e : textG (x :: gs) = lineG x ++ (10 :: textG gs) := by simp [textG]
    have h4 := loose_len4 g hg (lineG x) i hs.2.1
    have h5 := piece_len 10 (g (i + (lineG x).length)) (hg _)
    have h6 := ih (i + (lineG x).length + 1)
    rw [e, loose_app, looseF]
    simp only [List.length_append, List.length_cons]
    omega
/-- What is written, loosened and read again. -/
theorem loose_back (g : Nat → Nat) (hg : ∀ i, g i < 4) (L : List In) (s : Bs) (hok : ∀ i ∈ L, i.Ok) (h : printP L = some s) : parseP (looseF g 0 s) = .ok L ∧ s.length ≤ 101 * L.length ∧ (looseF g 0 s).length ≤ 412 * L.length := by
  obtain ⟨gs, h1, rfl, rfl⟩ := print_groups L.length L s (Nat.le_refl _) hok h
  have ht := text_len gs h1
  have hf := flat_len gs h1
  have hl := loose_text_len g hg gs 0 h1
  refine ⟨?_, by omega, by omega⟩
  exact loose_parse g hg gs 0 0 1 h1
end Go.Proofs.YthlfnmjefpdjgaaGreatDoor
