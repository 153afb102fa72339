/-
  Digits and their number.
-/
import Derived.Test.YthlfnmjefpdjgaaGreatDoorLine
namespace Go.Proofs.YthlfnmjefpdjgaaGreatDoor
open Go.RowKit

/-- The number of digits behind a beginning; none: one is no digit, or it passes the bound. -/
def digF (M : Nat) : Nat → Bs → Option Nat
  | n, [] => some n
  | n, c :: l => if c.toNat < 48 ∨ 57 < c.toNat then none else if M < 10 * n + (c.toNat - 48) then none else digF M (10 * n + (c.toNat - 48)) l
/-- The number that a word is, from 0 to M. -/
def valU (M : Nat) (l : Bs) : Option Nat := if l = [] ∨ (1 < l.length ∧ l.head? = some 48) then none else digF M 0 l
theorem digF_le (M : Nat) : ∀ (l : Bs) (n v : Nat), n ≤ M → digF M n l = some v → v ≤ M
  | [], n, v, hn, h => by cases h; exact hn
  | c :: l, n, v, hn, h => by
    rw [digF] at h
    split at h
    · cases h
    · split at h
      · cases h
      · exact digF_le M l _ v (by omega) h
theorem dec_snoc (n d : Nat) (hn : 1 ≤ n) (hd : d < 10) : Lib.decDigits (10 * n + d) = Lib.decDigits n ++ [UInt8.ofNat (48 + d)] := by
  rw [Lib.decDigits, dif_neg (by omega)]
  rw [show (10 * n + d) / 10 = n by omega, show (10 * n + d) % 10 = d by omega]
theorem ofNat_digit (c : UInt8) (h0 : 48 ≤ c.toNat) : UInt8.ofNat (48 + (c.toNat - 48)) = c := by
  rw [show 48 + (c.toNat - 48) = c.toNat by omega]
  simp
theorem digF_dec (M : Nat) : ∀ (l : Bs) (n v : Nat), 1 ≤ n → digF M n l = some v → Lib.decDigits v = Lib.decDigits n ++ l
  | [], n, v, _, h => by cases h; simp
  | c :: l, n, v, hn, h => by
    rw [digF] at h
    split at h
    · cases h
    · split at h
      · cases h
      · rename_i h1 h2
        have := digF_dec M l _ v (by omega) h
        rw [this, dec_snoc n _ hn (by omega), ofNat_digit c (by omega)]
        simp
theorem digF_back (M : Nat) : ∀ (k v : Nat), v ≤ k → v ≤ M → ∀ r : Bs, digF M 0 (Lib.decDigits v ++ r) = digF M v r := by
  intro k
  induction k with
  | zero =>
    intro v hv hM r
    obtain rfl : v = 0 := by omega
    rw [Lib.decDigits_one (by omega), List.singleton_append, digF]
    have e : (UInt8.ofNat (48 + 0)).toNat = 48 + 0 := digit_toNat 0 (by omega)
    rw [e, if_neg (by omega), if_neg (by omega)]
  | succ k ih =>
    intro v hv hM r
    by_cases h10 : v < 10
    · rw [Lib.decDigits_one h10, List.singleton_append, digF]
      have e : (UInt8.ofNat (48 + v)).toNat = 48 + v := digit_toNat v h10
      rw [e, if_neg (by omega), if_neg (by omega), show 10 * 0 + (48 + v - 48) = v by omega]
    · obtain ⟨n, d, rfl, hd⟩ : ∃ n d, v = 10 * n + d ∧ d < 10 := ⟨v / 10, v % 10, by omega, by omega⟩
      rw [dec_snoc n d (by omega) hd, List.append_assoc, ih n (by omega) (by omega), List.singleton_append, digF]
      have e : (UInt8.ofNat (48 + d)).toNat = 48 + d := digit_toNat d hd
      rw [e, if_neg (by omega), if_neg (by omega), show 10 * n + (48 + d - 48) = 10 * n + d by omega]
theorem dec_head (v : Nat) : (Lib.decDigits v).head? = some 48 → v = 0 := by
  intro h
  induction v using Nat.strongRecOn with
  | _ v ih =>
    by_cases h10 : v < 10
    · rw [Lib.decDigits_one h10] at h
      simp only [List.head?_cons, Option.some.injEq] at h
      have := congrArg UInt8.toNat h
      rw [digit_toNat v h10] at this
      simp at this
      omega
    · obtain ⟨n, d, rfl, hd⟩ : ∃ n d, v = 10 * n + d ∧ d < 10 := ⟨v / 10, v % 10, by omega, by omega⟩
      rw [dec_snoc n d (by omega) hd, List.head?_append] at h
      cases hh : (Lib.decDigits n).head? with
      | none => exact absurd (List.head?_eq_none_iff.1 hh) (decDigits_ne n)
      | some c =>
        rw [hh] at h
        have := ih n (by omega) (by rw [hh]; exact h)
        omega
theorem valU_iff (M : Nat) (l : Bs) (v : Nat) : valU M l = some v ↔ l = Lib.decDigits v ∧ v ≤ M := by
  constructor
  · intro h
    unfold valU at h
    split at h
    · cases h
    · rename_i hne
      refine ⟨?_, digF_le M l 0 v (by omega) h⟩
      cases l with
      | nil => exact absurd (Or.inl rfl) hne
      | cons c l =>
        rw [digF] at h
        split at h
        · cases h
        · split at h
          · cases h
          · rename_i h1 h2
            by_cases hz : c.toNat - 48 = 0
            · have hc : c = 48 := UInt8.toNat_inj.1 (by simp; omega)
              have hl : l = [] := by
                cases l with
                | nil => rfl
                | cons d l => exact absurd (Or.inr ⟨by simp, by simp [hc]⟩) hne
              subst hl hc
              cases h
              rw [show 10 * 0 + (UInt8.toNat 48 - 48) = 0 by rfl, Lib.decDigits_one (by omega)]
              rfl
            · have := digF_dec M l _ v (by omega) h
              rw [this, Lib.decDigits_one (by omega), Nat.mul_zero, Nat.zero_add, ofNat_digit c (by omega)]
              rfl
  · rintro ⟨rfl, hM⟩
    unfold valU
    rw [if_neg]
    · have := digF_back M v v (Nat.le_refl _) hM []
      rw [List.append_nil] at this
      rw [this]; rfl
    · rintro (h | ⟨h1, h2⟩)
      · exact decDigits_ne v h
      · have := dec_head v h2
        subst this
        simp [Lib.decDigits_one] at h1
/-- The number that a word is, a sign ahead if it may be. -/
def valS (M : Nat) (l : Bs) : Option Int := if 1 < l.length ∧ l.head? = some 45 then (if l.tail = [48] then none else Option.map (fun n : Nat => -(n : Int)) (valU (M + 1) l.tail)) else Option.map (fun n : Nat => (n : Int)) (valU M l)
theorem valS_iff (M : Nat) (l : Bs) (v : Int) : valS M l = some v ↔ l = Lib.itoa v ∧ -((M + 1 : Nat) : Int) ≤ v ∧ v ≤ (M : Int) := by
  have hno45 : ∀ n, (Lib.decDigits n).head? ≠ some 45 := fun n h => by
    cases hd : Lib.decDigits n with
    | nil => exact decDigits_ne n hd
    | cons c r =>
      rw [hd] at h
      simp only [List.head?_cons, Option.some.injEq] at h
      have := decDigits_digit n n (Nat.le_refl _) c (by rw [hd]; simp)
      rw [h] at this
      simp at this
  unfold valS
  split
  · rename_i hm
    obtain ⟨h1, h2⟩ := hm
    obtain ⟨r, rfl⟩ : ∃ r, l = 45 :: r := by
      cases l with
      | nil => cases h2
      | cons c r => simp only [List.head?_cons, Option.some.injEq] at h2; exact ⟨r, by rw [h2]⟩
    constructor
    · intro h
      by_cases hz : r = [48]
      · rw [if_pos (show (45 :: r : Bs).tail = [48] from hz)] at h
        cases h
      · rw [if_neg (show ¬ (45 :: r : Bs).tail = [48] from hz), List.tail_cons] at h
        simp only [Option.map_eq_some_iff] at h
        obtain ⟨n, hn, rfl⟩ := h
        obtain ⟨rfl, hM⟩ := (valU_iff _ _ _).1 hn
        have hn0 : 1 ≤ n := by
          rcases Nat.eq_zero_or_pos n with rfl | h
          · exact absurd (Lib.decDigits_one (by omega)) hz
          · exact h
        exact ⟨(Lib.itoa_neg n hn0).symm, by omega, by omega⟩
    · rintro ⟨hl, hv0, hv1⟩
      by_cases hneg : v < 0
      · obtain ⟨n, rfl⟩ : ∃ n : Nat, v = -(n : Int) := ⟨v.natAbs, by omega⟩
        rw [Lib.itoa_neg n (by omega)] at hl
        simp only [List.cons.injEq, true_and] at hl
        subst hl
        have hz : ¬ Lib.decDigits n = [48] := by
          intro e
          have := dec_head n (by rw [e]; rfl)
          omega
        rw [if_neg (show ¬ (45 :: Lib.decDigits n : Bs).tail = [48] from hz), List.tail_cons, (valU_iff (M + 1) _ n).2 ⟨rfl, by omega⟩]; rfl
      · obtain ⟨n, rfl⟩ : ∃ n : Nat, v = (n : Int) := ⟨v.toNat, by omega⟩
        rw [Lib.itoa_nonneg] at hl
        exact absurd (by rw [← hl]; rfl) (hno45 n)
  · rename_i hm
    constructor
    · intro h
      simp only [Option.map_eq_some_iff] at h
      obtain ⟨n, hn, rfl⟩ := h
      obtain ⟨rfl, hM⟩ := (valU_iff _ _ _).1 hn
      exact ⟨(Lib.itoa_nonneg n).symm, by omega, by omega⟩
    · rintro ⟨hl, hv0, hv1⟩
      by_cases hneg : v < 0
      · obtain ⟨n, rfl⟩ : ∃ n : Nat, v = -(n : Int) := ⟨v.natAbs, by omega⟩
        rw [Lib.itoa_neg n (by omega)] at hl
        have hne := decDigits_ne n
        exact absurd ⟨by rw [hl]; simp only [List.length_cons]; have := List.length_pos_iff.2 hne; omega, by rw [hl]; rfl⟩ hm
      · obtain ⟨n, rfl⟩ : ∃ n : Nat, v = (n : Int) := ⟨v.toNat, by omega⟩
        rw [Lib.itoa_nonneg] at hl
        subst hl
        rw [(valU_iff M _ n).2 ⟨rfl, by omega⟩]; rfl
end Go.Proofs.YthlfnmjefpdjgaaGreatDoor
