/-
  Words of a line and lines of a text, as lists of bytes.
-/
import Derived.Test.YthlfnmjefpdjgaaGreatDoorShelf
import Derived.Test.YthlfnmjefpdjgaaGreatDoorKit
namespace Go.Proofs.YthlfnmjefpdjgaaGreatDoor
open Go.RowKit

abbrev Bs := List UInt8
/-- A text's bytes as the machine's string. -/
def str (l : Bs) : Value := .string ⟨l.toArray⟩

/-- What lies ahead of the first c, and what lies behind it. -/
def upTo (c : UInt8) : Bs → Bs
  | [] => []
  | b :: t => if b = c then [] else b :: upTo c t
def past (c : UInt8) : Bs → Bs
  | [] => []
  | b :: t => if b = c then t else past c t
/-- Cut at the first c. -/
def cutC (c : UInt8) (t : Bs) : Bs × Bs × Bool := (upTo c t, past c t, decide (c ∈ t))

theorem upTo_no (c : UInt8) : ∀ t : Bs, c ∉ upTo c t
  | [] => by simp [upTo]
  | b :: t => by
    by_cases hb : b = c
    · simp [upTo, hb]
    · have hb' : ¬ c = b := fun e => hb e.symm
      simp [upTo, hb, hb', upTo_no c t]
theorem upTo_split (c : UInt8) : ∀ t : Bs, c ∈ t → t = upTo c t ++ c :: past c t
  | [], h => by simp at h
  | b :: t, h => by
    by_cases hb : b = c
    · simp [upTo, past, hb]
    · have hb' : ¬ c = b := fun e => hb e.symm
      have := upTo_split c t (by simpa [hb'] using h)
      simp only [upTo, past, hb, if_false, List.cons_append, ← this]
theorem upTo_all (c : UInt8) : ∀ t : Bs, c ∉ t → upTo c t = t ∧ past c t = []
  | [], _ => ⟨rfl, rfl⟩
  | b :: t, h => by
    have hb : ¬ b = c := fun e => h (by simp [e])
    have := upTo_all c t (fun m => h (by simp [m]))
    simp [upTo, past, hb, this]
theorem upTo_length (c : UInt8) : ∀ t : Bs, (upTo c t).length ≤ t.length ∧ (past c t).length ≤ t.length
  | [] => ⟨Nat.le_refl _, Nat.le_refl _⟩
  | b :: t => by
    have := upTo_length c t
    by_cases hb : b = c
    · simp [upTo, past, hb]
    · simp only [upTo, past, hb, if_false, List.length_cons]
      omega
theorem index_one_none (c : UInt8) : ∀ t : Bs, c ∉ t → Lib.index t [c] = -1
  | [], _ => rfl
  | b :: t, h => by
    have hb : ¬ c = b := fun e => h (by simp [e])
    have ht := index_one_none c t (fun m => h (by simp [m]))
    simp [Lib.index, hb, ht]
theorem index_one_some (c : UInt8) : ∀ t : Bs, c ∈ t → Lib.index t [c] = (upTo c t).length
  | [], h => by simp at h
  | b :: t, h => by
    by_cases hb : c = b
    · subst hb; simp [Lib.index, upTo]
    · have hm : c ∈ t := by simpa [hb] using h
      have ih := index_one_some c t hm
      have hb' : ¬ b = c := fun e => hb e.symm
      have hlt : ((upTo c t).length : Int) ≠ -1 := by omega
      simp [Lib.index, hb, upTo, hb', ih, hlt]
theorem cut_one (c : UInt8) (t : Bs) : Lib.cut t [c] = cutC c t := by
  unfold Lib.cut cutC
  by_cases h : c ∈ t
  · rw [index_one_some c t h]
    have hs := upTo_split c t h
    simp only [Int.natCast_nonneg, if_true, Int.toNat_natCast, h, decide_true, Prod.mk.injEq, and_true]
    constructor
    · have : t.take (upTo c t).length = (upTo c t ++ c :: past c t).take (upTo c t).length := by rw [← hs]
      rw [this]; simp
    · have : t.drop ((upTo c t).length + [c].length) = (upTo c t ++ c :: past c t).drop ((upTo c t).length + 1) := by rw [← hs]; rfl
      rw [this, ← List.drop_drop]; simp
  · rw [index_one_none c t h]
    have h1 := upTo_all c t h
    simp [h, h1]

/-- The words of a line, one of them begun. -/
def wordsF (cur : Bs) : Bs → List Bs
  | [] => if cur = [] then [] else [cur]
  | c :: l => if c = 32 then (if cur = [] then wordsF [] l else cur :: wordsF [] l) else wordsF (cur ++ [c]) l
def words (l : Bs) : List Bs := wordsF [] l

theorem words_nil : words [] = [] := rfl
theorem words_blank (l : Bs) : words (32 :: l) = words l := by simp [words, wordsF]
theorem wordsF_app : ∀ (a cur l : Bs), (32 : UInt8) ∉ a → wordsF cur (a ++ l) = wordsF (cur ++ a) l
  | [], cur, l, _ => by simp
  | c :: a, cur, l, h => by
    have hc : ¬ c = 32 := fun e => h (by simp [e])
    have ih := wordsF_app a (cur ++ [c]) l (fun m => h (by simp [m]))
    simp only [List.cons_append, wordsF, hc, if_false, ih, List.append_assoc, List.nil_append]
theorem words_word (a l : Bs) (h : (32 : UInt8) ∉ a) (h0 : a ≠ []) : words (a ++ 32 :: l) = a :: words l := by
  rw [words, wordsF_app a [] _ h]
  simp [wordsF, h0, words]
theorem words_last (a : Bs) (h : (32 : UInt8) ∉ a) (h0 : a ≠ []) : words a = [a] := by
  have := wordsF_app a [] [] h
  rw [List.append_nil] at this
  rw [words, this]
  simp [wordsF, h0]
theorem words_trim : ∀ l : Bs, words (Lib.trimLeftB l 32) = words l
  | [] => rfl
  | c :: l => by
    by_cases hc : c = 32
    · subst hc
      rw [words_blank]
      have := words_trim l
      unfold Lib.trimLeftB at this ⊢
      simpa using this
    · unfold Lib.trimLeftB
      simp [hc]
theorem trim_head : ∀ l : Bs, (Lib.trimLeftB l 32).head? ≠ some 32
  | [] => by simp [Lib.trimLeftB]
  | c :: l => by
    have ih := trim_head l
    unfold Lib.trimLeftB at ih ⊢
    by_cases hc : c = 32
    · subst hc; simpa using ih
    · simp [hc]
/-- The first word and what is behind it. -/
def nextW (l : Bs) : Bs × Bs := ((Lib.cut (Lib.trimLeftB l 32) [32]).1, (Lib.cut (Lib.trimLeftB l 32) [32]).2.1)
theorem next_words (l : Bs) : (nextW l).1 = (words l).headD [] ∧ words (nextW l).2 = (words l).tail := by
  unfold nextW
  rw [cut_one, ← words_trim l]
  have hh := trim_head l
  generalize Lib.trimLeftB l 32 = t at *
  unfold cutC
  by_cases h : (32 : UInt8) ∈ t
  · have hs := upTo_split 32 t h
    have h0 : upTo 32 t ≠ [] := by
      intro e
      rw [e] at hs
      exact hh (by rw [hs]; rfl)
    have hw := words_word (upTo 32 t) (past 32 t) (upTo_no 32 t) h0
    rw [← hs] at hw
    rw [hw]
    exact ⟨rfl, rfl⟩
  · obtain ⟨h1, h2⟩ := upTo_all 32 t h
    simp only [h1, h2]
    by_cases h0 : t = []
    · subst h0; exact ⟨rfl, rfl⟩
    · rw [words_last t h h0]
      exact ⟨rfl, rfl⟩
theorem trim_length (l : Bs) (c : UInt8) : (Lib.trimLeftB l c).length ≤ l.length := (List.dropWhile_sublist _).length_le
theorem cutC_length (c : UInt8) (t : Bs) : (cutC c t).1.length ≤ t.length ∧ (cutC c t).2.1.length ≤ t.length := upTo_length c t
theorem next_length (l : Bs) : (nextW l).1.length ≤ l.length ∧ (nextW l).2.length ≤ l.length := by
  unfold nextW
  rw [cut_one]
  have h1 := cutC_length 32 (Lib.trimLeftB l 32)
  have h2 := trim_length l 32
  exact ⟨Nat.le_trans h1.1 h2, Nat.le_trans h1.2 h2⟩
theorem wordsF_ne : ∀ (l cur : Bs) (x : Bs), x ∈ wordsF cur l → x ≠ [] ∧ (32 ∉ cur → 32 ∉ x)
  | [], cur, x, h => by
    by_cases hc : cur = []
    · simp [wordsF, hc] at h
    · simp only [wordsF, hc, if_false, List.mem_singleton] at h
      subst h
      exact ⟨hc, id⟩
  | c :: l, cur, x, h => by
    by_cases h32 : c = 32
    · by_cases hc : cur = []
      · simp only [wordsF, h32, if_true, hc] at h
        have := wordsF_ne l [] x h
        exact ⟨this.1, fun _ => this.2 (by simp)⟩
      · simp only [wordsF, h32, if_true, hc, if_false, List.mem_cons] at h
        rcases h with rfl | h
        · exact ⟨hc, id⟩
        · have := wordsF_ne l [] x h
          exact ⟨this.1, fun _ => this.2 (by simp)⟩
    · simp only [wordsF, h32, if_false] at h
      have := wordsF_ne l (cur ++ [c]) x h
      exact ⟨this.1, fun hc => this.2 (by simp [hc]; exact fun e => h32 e.symm)⟩
theorem words_ne {l x : Bs} (h : x ∈ words l) : x ≠ [] := (wordsF_ne l [] x h).1
theorem head_nil (l : Bs) : (words l).headD [] = [] ↔ words l = [] := by
  cases h : words l with
  | nil => simp
  | cons x r =>
    have := words_ne (l := l) (x := x) (by rw [h]; simp)
    simp [this]

/-- Does the next word begin with that letter (no blank)? -/
theorem prefix_next (l : Bs) (c : UInt8) : Lib.hasPrefix (Lib.trimLeftB l 32) [c] = Lib.hasPrefix ((words l).headD []) [c] := by
  have h := (next_words l).1
  unfold nextW at h
  rw [cut_one] at h
  rw [← h]
  have hh := trim_head l
  generalize Lib.trimLeftB l 32 = t at *
  cases t with
  | nil => rfl
  | cons b t =>
    have hb : b ≠ 32 := fun e => hh (by rw [e]; rfl)
    simp [cutC, upTo, Lib.hasPrefix, hb, List.isPrefixOf]

/-- The lines of a text. -/
def lines : Bs → List Bs
  | [] => [[]]
  | c :: l => if c = 10 then [] :: lines l else match lines l with
    | [] => [[c]]
    | x :: xs => (c :: x) :: xs
theorem lines_cut : ∀ t : Bs, lines t = (cutC 10 t).1 :: (if (10 : UInt8) ∈ t then lines (cutC 10 t).2.1 else [])
  | [] => rfl
  | c :: l => by
    by_cases hc : c = 10
    · subst hc; simp [lines, cutC, upTo, past]
    · have ih := lines_cut l
      have hc' : ¬ (10 : UInt8) = c := fun e => hc e.symm
      rw [lines, if_neg hc, ih]
      simp [cutC, upTo, past, hc, hc']
end Go.Proofs.YthlfnmjefpdjgaaGreatDoor
