/-
  Texts of plain instructions: written, and read again.
-/
import Derived.Test.YthlfnmjefpdjgaaGreatDoorRound2
namespace Go.Proofs.YthlfnmjefpdjgaaGreatDoor
open Go.RowKit

theorem lines_line : ∀ (a X : Bs), 10 ∉ a → lines (a ++ 10 :: X) = a :: lines X
  | [], X, _ => by simp [lines]
  | c :: a, X, h => by
    have hc : ¬ c = 10 := fun e => h (by simp [e])
    have ih := lines_line a X (fun m => h (by simp [m]))
    simp only [List.cons_append, lines, hc, if_false, ih]
theorem lines_length : ∀ t : Bs, (lines t).length ≤ t.length + 1
  | [] => by simp [lines]
  | c :: t => by
    have ih := lines_length t
    unfold lines
    split
    · simp only [List.length_cons]; omega
    · split
      · simp
      · rename_i x xs hx
        rw [hx] at ih
        simp only [List.length_cons] at ih ⊢
        omega
/-- The line of one plain instruction's slots. -/
def lineG : List In → Bs
  | [i] => lineP i In.zero
  | [i, nx] => lineP i nx
  | _ => []
theorem printP_grp (L R : List In) (g : Grp L) : printP (L ++ R) = (printP R).map (fun s => lineG L ++ 10 :: s) := by
  rcases g with ⟨i, rfl, hg, hw⟩ | ⟨i, nx, rfl, hg, hw, ht, _⟩
  · cases R with
    | nil => simp [printP, hg.okB, hw, lineG]
    | cons nx r => simp [printP, hg.okB, hw, lineG]
  · simp [printP, hg.okB, hw, ht, lineG]
theorem slots_line (L : List In) (g : Grp L) : slotsW (words (lineG L)) = some L ∧ 10 ∉ lineG L ∧ (lineG L).length ≤ 100 := by
  rcases g with ⟨i, rfl, hg, hw⟩ | ⟨i, nx, rfl, hg, hw, ht, hok⟩
  · refine ⟨?_, line_no10 i _ hg, lineP_len _ _ hg.pl⟩
    have := line_back i In.zero hg (fun h => by rw [hw] at h; cases h)
    rw [hw] at this
    simpa [lineG] using this
  · refine ⟨?_, line_no10 i _ hg, lineP_len _ _ hg.pl⟩
    have := line_back i nx hg (fun _ => ⟨ht, hok⟩)
    rw [hw] at this
    simpa [lineG] using this
def textG (gs : List (List In)) : Bs := gs.flatMap fun g => lineG g ++ [10]
theorem print_flat : ∀ gs : List (List In), (∀ g ∈ gs, Grp g) → printP gs.flatten = some (textG gs)
  | [], _ => rfl
  | g :: gs, h => by
    have ih := print_flat gs (fun x hx => h x (by simp [hx]))
    rw [List.flatten_cons, printP_grp g _ (h g (by simp)), ih]
    simp [textG]
theorem parse_flat : ∀ (gs : List (List In)) (X : Bs) (n : Nat), (∀ g ∈ gs, Grp g) → parseL n (lines (textG gs ++ X)) = withL gs.flatten (parseL (n + gs.length) (lines X))
  | [], X, n, _ => by simp [textG, withL_nil]
  | g :: gs, X, n, h => by
    have ih := parse_flat gs X (n + 1) (fun x hx => h x (by simp [hx]))
    have hs := slots_line g (h g (by simp))
    have e : textG (g :: gs) ++ X = lineG g ++ 10 :: (textG gs ++ X) := by simp [textG]
    rw [e, lines_line _ _ hs.2.1, parseL_cons, hs.1]
    simp only
    rw [ih, withL_withL]
    simp only [List.flatten_cons, List.length_cons]
    rw [show n + 1 + gs.length = n + (gs.length + 1) by omega]
theorem parse_groups : ∀ (ls : List Bs) (n : Nat) (L : List In), parseL n ls = .ok L → ∃ gs : List (List In), (∀ g ∈ gs, Grp g) ∧ L = gs.flatten ∧ gs.length ≤ ls.length
  | [], n, L, h => by
    cases h
    exact ⟨[], by simp, rfl, by simp⟩
  | l :: ls, n, L, h => by
    rw [parseL_cons] at h
    cases hs : slotsW (words l) with
    | none => rw [hs] at h; cases h
    | some s =>
      rw [hs] at h
      simp only at h
      cases hr : parseL (n + 1) ls with
      | error k => rw [hr] at h; cases h
      | ok r =>
        rw [hr] at h
        simp only [withL, Except.ok.injEq] at h
        subst h
        obtain ⟨gs, h1, h2, h3⟩ := parse_groups ls (n + 1) r hr
        rcases slots_grp hs with rfl | hg
        · exact ⟨gs, h1, by simp [h2], by simp only [List.length_cons]; omega⟩
        · refine ⟨s :: gs, ?_, by simp [h2], by simp only [List.length_cons]; omega⟩
          intro g hm
          simp only [List.mem_cons] at hm
          rcases hm with rfl | hm
          · exact hg
          · exact h1 g hm
theorem print_groups : ∀ (m : Nat) (L : List In) (s : Bs), L.length ≤ m → (∀ i ∈ L, i.Ok) → printP L = some s → ∃ gs : List (List In), (∀ g ∈ gs, Grp g) ∧ L = gs.flatten ∧ s = textG gs
  | _, [], s, _, _, h => by
    simp only [printP, Option.some.injEq] at h
    subst h
    exact ⟨[], by simp, rfl, rfl⟩
  | 0, i :: L, s, hm, _, h => by simp at hm
  | m + 1, i :: L, s, hm, hok, h => by
    simp only [List.length_cons] at hm
    have hi := hok i (by simp)
    have step : ∀ (G R : List In), Grp G → i :: L = G ++ R → R.length ≤ m → ∃ gs : List (List In), (∀ g ∈ gs, Grp g) ∧ i :: L = gs.flatten ∧ s = textG gs := fun G R hG he hR => by
      rw [he, printP_grp G R hG] at h
      cases hp : printP R with
      | none => rw [hp] at h; cases h
      | some s' =>
        rw [hp] at h
        simp only [Option.map_some, Option.some.injEq] at h
        obtain ⟨gs, h1, h2, h3⟩ := print_groups m R s' hR (fun x hx => hok x (by rw [he]; simp [hx])) hp
        refine ⟨G :: gs, ?_, by rw [he, h2]; simp, by rw [← h, h3]; simp [textG]⟩
        intro g hm
        simp only [List.mem_cons] at hm
        rcases hm with rfl | hm
        · exact hG
        · exact h1 g hm
    have hkb : okB i = true := by
      cases ho : okB i with
      | true => rfl
      | false =>
        cases L with
        | nil => simp [printP, ho] at h
        | cons nx r => simp [printP, ho] at h
    have hg := good_of i hi hkb
    cases hw : wideB i.op with
    | false => exact step [i] L (Or.inl ⟨i, rfl, hg, hw⟩) rfl (by omega)
    | true =>
      cases L with
      | nil => simp [printP, hw] at h
      | cons nx r =>
        have ht : tailB nx = true := by
          cases ht : tailB nx with
          | true => rfl
          | false => simp [printP, hkb, hw, ht] at h
        exact step [i, nx] r (Or.inr ⟨i, nx, rfl, hg, hw, ht, hok nx (by simp)⟩) rfl (by simp only [List.length_cons] at hm; omega)
theorem text_len : ∀ gs : List (List In), (∀ g ∈ gs, Grp g) → (textG gs).length ≤ 101 * gs.length
  | [], _ => by simp [textG]
  | g :: gs, h => by
    have ih := text_len gs (fun x hx => h x (by simp [hx]))
    have := (slots_line g (h g (by simp))).2.2
    unfold textG at *
    simp only [List.flatMap_cons, List.length_append, List.length_cons, List.length_nil]
    omega
theorem grp_len (L : List In) (g : Grp L) : L.length ≤ 2 ∧ 1 ≤ L.length ∧ ∀ i ∈ L, i.Ok := by
  rcases g with ⟨i, rfl, hg, hw⟩ | ⟨i, nx, rfl, hg, hw, ht, hok⟩
  · exact ⟨by simp, by simp, by simp [hg.pl.ok]⟩
  · exact ⟨by simp, by simp, by simp [hg.pl.ok, hok]⟩
theorem flat_len : ∀ gs : List (List In), (∀ g ∈ gs, Grp g) → gs.flatten.length ≤ 2 * gs.length ∧ gs.length ≤ gs.flatten.length ∧ ∀ i ∈ gs.flatten, i.Ok
  | [], _ => by simp
  | g :: gs, h => by
    have ih := flat_len gs (fun x hx => h x (by simp [hx]))
    have hg := grp_len g (h g (by simp))
    simp only [List.flatten_cons, List.length_append, List.length_cons]
    refine ⟨by omega, by omega, fun i hi => ?_⟩
    simp only [List.mem_append] at hi
    rcases hi with hi | hi
    · exact hg.2.2 i hi
    · exact ih.2.2 i hi
/-- A text is read, written, and read twice over. -/
theorem again_pure (t : Bs) (L : List In) (h : parseP t = .ok L) : ∃ s, printP L = some s ∧ s.length ≤ 101 * (t.length + 1) ∧ L.length ≤ 2 * (t.length + 1) ∧ (∀ i ∈ L, i.Ok) ∧ parseP ((s ++ [32, 35, 32, 10]) ++ s) = .ok (L ++ L) := by
  obtain ⟨gs, h1, rfl, h3⟩ := parse_groups _ _ _ h
  have hl := lines_length t
  have hf := flat_len gs h1
  have ht := text_len gs h1
  refine ⟨textG gs, print_flat gs h1, by omega, by omega, hf.2.2, ?_⟩
  have e0 : ∀ m, parseL m (lines []) = .ok [] := fun m => rfl
  have e1 : ∀ m, parseL m (lines (textG gs)) = .ok gs.flatten := fun m => by
    have := parse_flat gs [] m h1
    rw [List.append_nil, e0] at this
    rw [this]
    simp [withL]
  have e2 : ∀ m, parseL m (lines ([32, 35, 32, 10] ++ textG gs)) = .ok gs.flatten := fun m => by
    have : lines ([32, 35, 32] ++ 10 :: textG gs) = [32, 35, 32] :: lines (textG gs) := lines_line _ _ (by decide)
    rw [show ([32, 35, 32, 10] : Bs) ++ textG gs = [32, 35, 32] ++ 10 :: textG gs by simp, this, parseL_cons]
    rw [show slotsW (words [32, 35, 32]) = some [] by rfl]
    simp only
    rw [e1, withL_nil]
  unfold parseP
  rw [List.append_assoc, parse_flat gs _ 1 h1, e2]
  rfl
end Go.Proofs.YthlfnmjefpdjgaaGreatDoor
