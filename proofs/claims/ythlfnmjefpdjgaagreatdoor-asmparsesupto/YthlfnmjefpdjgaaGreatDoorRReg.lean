/-
  What the reference's reg answers.
-/
import Derived.Test.YthlfnmjefpdjgaaGreatDoorRVal
namespace Go.Proofs.YthlfnmjefpdjgaaGreatDoor
open Go.RowKit

theorem natP_val (l : Bs) : natP l = valU 18446744073709551615 l := by
  cases h : valU 18446744073709551615 l with
  | some v =>
    obtain ⟨h1, h2⟩ := (valU_iff _ _ _).1 h
    exact (natP_iff l v).2 ⟨h1, by omega⟩
  | none =>
    cases h' : natP l with
    | none => rfl
    | some v =>
      obtain ⟨h1, h2⟩ := (natP_iff l v).1 h'
      rw [(valU_iff 18446744073709551615 l v).2 ⟨h1, by omega⟩] at h
      cases h
theorem sgnP_val (B M : Nat) (hB : B ≤ 64) (hB1 : 1 ≤ B) (hM : M + 1 = 2 ^ (B - 1)) (l : Bs) : sgnP B l = valS M l := by
  cases h : valS M l with
  | some v =>
    obtain ⟨h1, h2, h3⟩ := (valS_iff _ _ _).1 h
    exact (sgnP_iff B hB hB1 l v).2 ⟨h1, by rw [← hM]; omega, by rw [← hM]; omega⟩
  | none =>
    cases h' : sgnP B l with
    | none => rfl
    | some v =>
      obtain ⟨h1, h2, h3⟩ := (sgnP_iff B hB hB1 l v).1 h'
      rw [← hM] at h2 h3
      rw [(valS_iff M l v).2 ⟨h1, by omega, by omega⟩] at h
      cases h
theorem regP_val (c : UInt8) (l : Bs) : regP (c :: l) = if c = 114 then valU 10 l else none := by
  cases h : valU 10 l with
  | some v =>
    obtain ⟨h1, h2⟩ := (valU_iff _ _ _).1 h
    split
    · rename_i hc
      exact (regP_iff _ v).2 ⟨by rw [hc, h1], h2⟩
    · rename_i hc
      cases h' : regP (c :: l) with
      | none => rfl
      | some u =>
        obtain ⟨h3, _⟩ := (regP_iff _ u).1 h'
        simp only [List.cons.injEq] at h3
        exact absurd h3.1 hc
  | none =>
    cases h' : regP (c :: l) with
    | none => split <;> rfl
    | some u =>
      obtain ⟨h3, h4⟩ := (regP_iff _ u).1 h'
      simp only [List.cons.injEq] at h3
      rw [(valU_iff 10 l u).2 ⟨h3.2, h4⟩] at h
      cases h
def RegPost (w : World) (r : Option Nat) (e : Ending) (w' : World) : Prop := w' = w ∧ e = .returned (.tuple #[.int .u8 ((r.getD 0 : Nat) : Int), .bool r.isSome])

set_option maxRecDepth 100000 in
set_option maxHeartbeats 4000000 in
theorem rreg_any (s : Bs) (w : World) (hs : s.length ≤ 1073741824) :
    Calls Tryz.prog 43 #[.string ⟨s.toArray⟩] w (RegPost w (regP s)) := by
  by_cases h2 : s.length < 2
  · have HR : Hid (regP s = none) := toHid (by
      cases h : regP s with
      | none => rfl
      | some v =>
        obtain ⟨h1, _⟩ := (regP_iff s v).1 h
        rw [h1] at h2
        have := List.length_pos_iff.2 (decDigits_ne v)
        simp only [List.length_cons] at h2
        omega)
    have k : (s.length : Int) < 2 := by omega
    go_enter Tryz.func43, Tryz.ntmps43
    go_wp2
    exact bodyPost_ret (v := .tuple #[.int .u8 0, .bool false]) (by simp [results, Tryz.results43, go_sem]) rfl ⟨rfl, by rw [show regP s = _ from HR]; rfl⟩
  · obtain ⟨c, l, rfl⟩ : ∃ c l, s = c :: l := by
      cases s with
      | nil => simp at h2
      | cons c l => exact ⟨c, l, rfl⟩
    obtain ⟨s, hse⟩ : ∃ s, s = c :: l := ⟨_, rfl⟩
    have hrl : s.length = l.length + 1 := by rw [hse]; rfl
    have hget : ∀ h, (⟨s.toArray⟩ : ByteArray)[0]'h = c := fun h => by subst hse; rfl
    have hx : (⟨s.toArray⟩ : ByteArray).extract 1 (l.length + 1) = ⟨l.toArray⟩ := by rw [extract_ba, hse]; simp
    have hrv := regP_val c l
    rw [← hse] at hrv hs h2 ⊢
    have k : ¬ (s.length : Int) < 2 := by omega
    have k' : (1 : Int) ≤ (l.length : Int) := by omega
    clear hse
    by_cases hc : c = 114
    · have b1 : ((c.toNat : Int) == 114) = true := by rw [hc]; rfl
      have b2 : ((c.toNat : Int) != 114) = false := by rw [hc]; rfl
      rw [if_pos hc] at hrv
      have HV := toHid (rvalue_u l 10 w (by omega) (by omega) (by omega))
      have HRV := toHid hrv
      clear hrv hc
      go_enter Tryz.func43, Tryz.ntmps43
      go_wp2_with fail
      refine Calls.mono HV ?_
      rintro e w1 ⟨rfl, hcase⟩
      cases hv : valU 10 l with
      | none =>
        rw [hv] at hcase
        simp only at hcase
        subst hcase
        go_wp2
        exact bodyPost_ret (v := .tuple #[.int .u8 0, .bool false]) (by simp [results, Tryz.results43, go_sem]) rfl ⟨rfl, by rw [show regP s = _ from HRV, hv]; rfl⟩
      | some n =>
        have hn := ((valU_iff _ _ _).1 hv).2
        have HN := toHid hv
        rw [hv] at hcase
        simp only at hcase
        subst hcase
        clear hv
        go_wp2
        exact bodyPost_ret (v := .tuple #[.int .u8 (n : Int), .bool true]) (by simp [results, Tryz.results43, go_sem]) rfl ⟨rfl, by rw [show regP s = _ from HRV, show valU 10 l = _ from HN]; rfl⟩
    · have hcn : c.toNat ≠ 114 := fun e => hc (UInt8.toNat_inj.1 e)
      have b1 : ((c.toNat : Int) == 114) = false := beq_eq_false_iff_ne.2 (by omega)
      have b2 : ((c.toNat : Int) != 114) = true := by rw [bne, b1]; rfl
      rw [if_neg hc] at hrv
      have HRV := toHid hrv
      clear hrv hc
      go_enter Tryz.func43, Tryz.ntmps43
      go_wp2
      exact bodyPost_ret (v := .tuple #[.int .u8 0, .bool false]) (by simp [results, Tryz.results43, go_sem]) rfl ⟨rfl, by rw [show regP s = _ from HRV]; rfl⟩
end Go.Proofs.YthlfnmjefpdjgaaGreatDoor
