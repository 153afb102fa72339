/-
  A name is the name of what it says.
-/
import Derived.Test.YthlfnmjefpdjgaaGreatDoorRound2
namespace Go.Proofs.YthlfnmjefpdjgaaGreatDoor
open Go.RowKit

theorem prefix_split (s p : Bs) (h : Lib.hasPrefix s p = true) : s = p ++ Lib.trimPrefix s p := by
  have h' := h
  unfold Lib.hasPrefix at h'
  obtain ⟨t, rfl⟩ := List.isPrefixOf_iff_prefix.1 h'
  unfold Lib.trimPrefix
  rw [if_pos h]
  simp
theorem suffix_split (s p : Bs) (h : Lib.hasSuffix s p = true) : s = Lib.trimSuffix s p ++ p := by
  have h' := h
  unfold Lib.hasSuffix at h'
  obtain ⟨t, rfl⟩ := List.isSuffixOf_iff_suffix.1 h'
  unfold Lib.trimSuffix
  rw [if_pos h]
  simp
theorem suffix_none (s p : Bs) (h : ¬ Lib.hasSuffix s p = true) : Lib.trimSuffix s p = s := by
  unfold Lib.trimSuffix
  rw [if_neg h]
theorem sizFrom_at (e : Bs) : ∀ (l : List Bs) (j r : Nat), sizFrom e j l = some r → ∃ k, r = j + k ∧ l[k]? = some e
  | [], j, r, h => by simp [sizFrom] at h
  | s :: l, j, r, h => by
    unfold sizFrom at h
    split at h
    · rename_i hs
      cases h
      exact ⟨0, rfl, by simp [hs]⟩
    · obtain ⟨k, h1, h2⟩ := sizFrom_at e l (j + 1) r h
      exact ⟨k + 1, by omega, by simpa using h2⟩
theorem aluFrom_at (e : Bs) : ∀ (l : List Bs) (j r : Nat), aluFrom e j l = some r → ∃ k, r = j + k ∧ l[k]? = some e
  | [], j, r, h => by simp [aluFrom] at h
  | s :: l, j, r, h => by
    unfold aluFrom at h
    split at h
    · rename_i hs
      cases h
      exact ⟨0, rfl, by simp [hs]⟩
    · obtain ⟨k, h1, h2⟩ := aluFrom_at e l (j + 1) r h
      exact ⟨k + 1, by omega, by simpa using h2⟩
theorem jmpFrom_at (e : Bs) (c : Int) : ∀ (l : List Bs) (j r : Nat), jmpFrom e c j l = some r → ∃ k, r = j + k ∧ l[k]? = some e
  | [], j, r, h => by simp [jmpFrom] at h
  | s :: l, j, r, h => by
    unfold jmpFrom at h
    split at h
    · rename_i hs
      cases h
      exact ⟨0, rfl, by simp [hs.1]⟩
    · obtain ⟨k, h1, h2⟩ := jmpFrom_at e c l (j + 1) r h
      exact ⟨k + 1, by omega, by simpa using h2⟩
theorem at0_nat {l : List Bs} {k : Nat} {e : Bs} (h : l[k]? = some e) : at0 l (k : Int) = e := by simp [at0, h]
theorem accFrom_at (name : Bs) : ∀ (l : List Bs) (i : Nat) (op : Int), accFrom name i l = some op → ∃ (j k : Nat) (a s : Bs), op = 97 + 8 * (j : Int) + ((i + k : Nat) : Int) ∧ l[k]? = some a ∧ sizN[j]? = some s ∧ name = a ++ s
  | [], i, op, h => by simp [accFrom] at h
  | a :: l, i, op, h => by
    have ih := accFrom_at name l (i + 1) op
    have next : accFrom name (i + 1) l = some op → ∃ (j k : Nat) (a' s : Bs), op = 97 + 8 * (j : Int) + ((i + k : Nat) : Int) ∧ (a :: l)[k]? = some a' ∧ sizN[j]? = some s ∧ name = a' ++ s := fun h => by
      obtain ⟨j, k, a', s, h1, h2, h3, h4⟩ := ih h
      exact ⟨j, k + 1, a', s, by omega, by simpa using h2, h3, h4⟩
    unfold accFrom at h
    split at h
    · rename_i hp
      split at h
      · rename_i j hj
        cases h
        obtain ⟨k, h1, h2⟩ := sizFrom_at _ sizN 0 j hj
        obtain rfl : k = j := by omega
        exact ⟨k, 0, a, _, by omega, rfl, h2, prefix_split name a hp⟩
      · exact next h
    · exact next h
/-- The name of an operation without a word of its own. -/
theorem nameP_back {name : Bs} {j : In} (h : nameP name = some j) (i : In) (hc : i.op % 8 = j.op % 8) (hq : i.op / 16 = j.op / 16) (ha : j.op % 8 ≤ 3 → i.op = j.op) (h133 : i.op = 133 ↔ j.op = 133) (hs : j.op = 24 ∨ j.op = 133 → i.src = j.src) : nameOfP i = name := by
  unfold nameP at h
  split at h
  · rename_i hn
    cases h
    have e : i.op = 24 := ha (by decide)
    have es : i.src = 0 := hs (Or.inl rfl)
    rw [hn]; simp [nameOfP, e, es]
  split at h
  · rename_i hn
    cases h
    have e : i.op = 24 := ha (by decide)
    have es : i.src = 1 := hs (Or.inl rfl)
    rw [hn]; simp [nameOfP, e, es]
  split at h
  · rename_i hn
    cases h
    have e : i.op = 133 := h133.2 rfl
    have es : i.src = 1 := hs (Or.inr rfl)
    rw [hn]; simp [nameOfP, e, es]
  split at h
  · rename_i op hop
    cases h
    simp only at hc hq ha h133 hs
    obtain ⟨jj, k, a, s, h1, h2, h3, h4⟩ := accFrom_at name accN 0 op hop
    have hk : k < 3 := (List.getElem?_eq_some_iff.1 h2).1
    have hj : jj < 4 := (List.getElem?_eq_some_iff.1 h3).1
    have e : i.op = op := ha (by omega)
    have c : i.op % 8 - 1 = (k : Int) := by omega
    have d : i.op / 8 % 4 = (jj : Int) := by omega
    unfold nameOfP
    rw [if_neg (by omega), if_pos (by omega), c, d, at0_nat h2, at0_nat h3, h4]
  split at h
  · rename_i op hop
    cases h
    simp only at hc hq ha h133 hs
    unfold kindP at hop
    have fin : ∀ (al jm : Int) (e : Bs), kindE al jm e = some op → (∃ k : Nat, op = 16 * (k : Int) + al ∧ aluN[k]? = some e) ∨ ∃ k : Nat, op = 16 * (k : Int) + jm ∧ jmpN[k]? = some e := fun al jm e he => by
      unfold kindE at he
      split at he
      · rename_i k hk
        cases he
        obtain ⟨m, h1, h2⟩ := aluFrom_at e aluN 0 k hk
        obtain rfl : m = k := by omega
        exact Or.inl ⟨m, rfl, h2⟩
      · split at he
        · rename_i k hk
          cases he
          obtain ⟨m, h1, h2⟩ := jmpFrom_at e jm jmpN 0 k hk
          obtain rfl : m = k := by omega
          exact Or.inr ⟨m, rfl, h2⟩
        · cases he
    have hn133 : op = 133 → i.src = 0 := fun h => hs (Or.inr h)
    split at hop
    · rename_i hsf
      have hsp := suffix_split name _ hsf
      rcases fin 4 6 _ hop with ⟨k, h1, h2⟩ | ⟨k, h1, h2⟩
      · have c : i.op / 16 = (k : Int) := by omega
        unfold nameOfP
        rw [if_neg (by omega), if_neg (by omega), if_pos (by omega), c, at0_nat h2, ← hsp]
      · have c : i.op / 16 = (k : Int) := by omega
        unfold nameOfP
        rw [if_neg (by omega), if_neg (by omega), if_neg (by omega), if_neg (by omega), if_pos (by omega), c, at0_nat h2, ← hsp]
    · rename_i hsf
      rw [suffix_none name _ hsf] at hop
      rcases fin 7 5 _ hop with ⟨k, h1, h2⟩ | ⟨k, h1, h2⟩
      · have c : i.op / 16 = (k : Int) := by omega
        unfold nameOfP
        rw [if_neg (by omega), if_neg (by omega), if_neg (by omega), if_pos (by omega), c, at0_nat h2]
      · have c : i.op / 16 = (k : Int) := by omega
        have h0 : ¬ (i.op = 133 ∧ i.src = 1) := fun ⟨h, h'⟩ => by
          have := hn133 (h133.1 h)
          omega
        unfold nameOfP
        rw [if_neg (by omega), if_neg (by omega), if_neg (by omega), if_neg (by omega), if_neg (by omega), if_neg h0, c, at0_nat h2]
  · cases h
end Go.Proofs.YthlfnmjefpdjgaaGreatDoor
