/-
  Numbers as their only decimal text.
-/
import Derived.Test.YthlfnmjefpdjgaaGreatDoorWords
namespace Go.Proofs.YthlfnmjefpdjgaaGreatDoor
open Go.RowKit

/-- A number from 0 to 2^64 - 1, as it is written. -/
def natP (l : Bs) : Option Nat := match Lib.parseUintB 64 l with
  | .ok u => if Lib.decDigits u = l then some u else none
  | _ => none
/-- A number of B bits in two's complement, as it is written. -/
def sgnP (B : Nat) (l : Bs) : Option Int := match Lib.parseIntB B l with
  | .ok v => if Lib.itoa v = l then some v else none
  | _ => none
/-- A register. -/
def regP (l : Bs) : Option Nat := if Lib.hasPrefix l [114] = true then (match natP (Lib.trimPrefix l [114]) with
  | some v => if v ≤ 10 then some v else none
  | none => none) else none

theorem parseM_app (M : Nat) : ∀ (a : Bs) (acc : Nat) (b : Bs), Lib.parseUintM M acc (a ++ b) = match Lib.parseUintM M acc a with
    | .ok v => Lib.parseUintM M v b
    | e => e
  | [], acc, b => rfl
  | c :: a, acc, b => by
    simp only [List.cons_append, Lib.parseUintM]
    by_cases h1 : 48 ≤ c.toNat ∧ c.toNat ≤ 57
    · by_cases h2 : 1844674407370955162 ≤ acc
      · simp [h1, h2]
      · by_cases h3 : M < acc * 10 + (c.toNat - 48)
        · simp [h1, h2, h3]
        · simp only [h1, h2, h3, and_self, if_true, if_false]
          exact parseM_app M a _ b
    · simp [h1]
theorem digit_toNat (d : Nat) (h : d < 10) : (UInt8.ofNat (48 + d)).toNat = 48 + d := by
  rw [UInt8.toNat_ofNat']
  omega
theorem parseM_dec (M : Nat) (hM : M < 18446744073709551616) : ∀ (n u : Nat), u ≤ n → u ≤ M → Lib.parseUintM M 0 (Lib.decDigits u) = .ok u
  | n, u, hn, hu => by
    by_cases h : u < 10
    · rw [Lib.decDigits_one h]
      simp only [Lib.parseUintM, digit_toNat u h]
      rw [if_pos (by omega), if_neg (by omega), if_neg (by omega)]
      congr 1
      omega
    · cases n with
      | zero => omega
      | succ n =>
        rw [Lib.decDigits, dif_neg h, parseM_app, parseM_dec M hM n (u / 10) (by omega) (by omega)]
        have hd : u % 10 < 10 := by omega
        simp only [Lib.parseUintM, digit_toNat (u % 10) hd]
        rw [if_pos (by omega), if_neg (by omega), if_neg (by omega)]
        congr 1
        omega
theorem decDigits_ne (u : Nat) : Lib.decDigits u ≠ [] := by
  rw [Lib.decDigits]
  split <;> simp
theorem decDigits_digit : ∀ (n u : Nat), u ≤ n → ∀ c ∈ Lib.decDigits u, 48 ≤ c.toNat ∧ c.toNat ≤ 57
  | n, u, hn, c, hc => by
    by_cases h : u < 10
    · rw [Lib.decDigits_one h] at hc
      simp only [List.mem_singleton] at hc
      subst hc
      rw [digit_toNat u h]
      omega
    · cases n with
      | zero => omega
      | succ n =>
        rw [Lib.decDigits, dif_neg h] at hc
        simp only [List.mem_append, List.mem_singleton] at hc
        rcases hc with hc | hc
        · exact decDigits_digit n (u / 10) (by omega) c hc
        · subst hc
          rw [digit_toNat (u % 10) (by omega)]
          omega
theorem parseB_dec (B u : Nat) (hB : B ≤ 64) (hu : u ≤ 2 ^ B - 1) : Lib.parseUintB B (Lib.decDigits u) = .ok u := by
  unfold Lib.parseUintB
  rw [if_neg (decDigits_ne u)]
  refine parseM_dec _ ?_ u u (Nat.le_refl _) hu
  have : 2 ^ B ≤ 2 ^ 64 := Nat.pow_le_pow_right (by omega) hB
  have : (2 : Nat) ^ 64 = 18446744073709551616 := by decide
  omega
theorem natP_iff (l : Bs) (u : Nat) : natP l = some u ↔ l = Lib.decDigits u ∧ u < 18446744073709551616 := by
  constructor
  · intro h
    unfold natP at h
    cases hp : Lib.parseUintB 64 l with
    | ok v =>
      simp only [hp] at h
      split at h
      · rename_i he
        cases h
        have := Lib.parseUintB_le hp
        have e : (2 : Nat) ^ 64 = 18446744073709551616 := by decide
        exact ⟨he.symm, by omega⟩
      · cases h
    | «syntax» => simp [hp] at h
    | range => simp [hp] at h
  · rintro ⟨rfl, hu⟩
    have e : (2 : Nat) ^ 64 = 18446744073709551616 := by decide
    unfold natP
    rw [parseB_dec 64 u (Nat.le_refl _) (by omega)]
    simp
theorem sgnP_iff (B : Nat) (hB : B ≤ 64) (hB1 : 1 ≤ B) (l : Bs) (v : Int) : sgnP B l = some v ↔ l = Lib.itoa v ∧ -((2 ^ (B - 1) : Nat) : Int) ≤ v ∧ v < ((2 ^ (B - 1) : Nat) : Int) := by
  constructor
  · intro h
    unfold sgnP at h
    cases hp : Lib.parseIntB B l with
    | ok v' =>
      simp only [hp] at h
      split at h
      · rename_i he
        cases h
        exact ⟨he.symm, Lib.parseIntB_bounds hp⟩
      · cases h
    | «syntax» => simp [hp] at h
    | range => simp [hp] at h
  · rintro ⟨rfl, h0, h1⟩
    have h2 : 2 ^ B = 2 * 2 ^ (B - 1) := by
      obtain ⟨k, rfl⟩ : ∃ k, B = k + 1 := ⟨B - 1, by omega⟩
      rw [Nat.add_sub_cancel, Nat.pow_succ]
      omega
    have hpos : 0 < 2 ^ (B - 1) := Nat.two_pow_pos _
    have hp : Lib.parseIntB B (Lib.itoa v) = .ok v := by
      by_cases hv : v < 0
      · unfold Lib.itoa
        rw [if_pos hv, Lib.parseIntB_minus, parseB_dec B v.natAbs hB (by omega)]
        simp only [Lib.signedC]
        rw [if_neg (by omega)]
        congr 1
        omega
      · unfold Lib.itoa
        rw [if_neg hv]
        have hd := decDigits_digit v.toNat v.toNat (Nat.le_refl _)
        cases hl : Lib.decDigits v.toNat with
        | nil => exact absurd hl (decDigits_ne _)
        | cons c r =>
          have hc := hd c (by rw [hl]; simp)
          rw [Lib.parseIntB_plain B c r (by omega) (by omega), ← hl, parseB_dec B v.toNat hB (by omega)]
          simp only [Lib.signlessC]
          rw [if_neg (by omega)]
          congr 1
          omega
    unfold sgnP
    rw [hp]
    simp
theorem regP_iff (l : Bs) (r : Nat) : regP l = some r ↔ l = 114 :: Lib.decDigits r ∧ r ≤ 10 := by
  cases l with
  | nil => simp [regP, Lib.hasPrefix, List.isPrefixOf]
  | cons c l =>
    by_cases hc : 114 = c
    · subst hc
      have ht : Lib.trimPrefix (114 :: l) [114] = l := by simp [Lib.trimPrefix, Lib.hasPrefix, List.isPrefixOf]
      have hp : Lib.hasPrefix (114 :: l) [114] = true := by simp [Lib.hasPrefix, List.isPrefixOf]
      unfold regP
      rw [if_pos hp, ht]
      constructor
      · intro h
        cases hn : natP l with
        | none => simp [hn] at h
        | some v =>
          simp only [hn] at h
          split at h
          · cases h
            exact ⟨by rw [((natP_iff l r).1 hn).1], by assumption⟩
          · cases h
      · rintro ⟨h, hr⟩
        have hl : l = Lib.decDigits r := by injection h
        have hn := (natP_iff l r).2 ⟨hl, by omega⟩
        rw [hn]
        simp [hr]
    · have hp : Lib.hasPrefix (c :: l) [114] = false := by simp [Lib.hasPrefix, List.isPrefixOf, hc]
      unfold regP
      rw [hp]
      constructor
      · intro h; simp at h
      · rintro ⟨h, _⟩
        injection h with h _
        exact absurd h.symm hc
end Go.Proofs.YthlfnmjefpdjgaaGreatDoor
