/-
  Size of package insn, and the document's own Known and Size.
-/
import Derived.Test.YtjioemkapmchpaaFns
namespace Go.Proofs.Ytjioemkapmchpaa
open Go.RowKit

/-- How many bytes an access takes. -/
def sizeI (op : Int) : Int := if accB op = true ∧ knownB op = true then (if op / 8 = 12 then 4 else if op / 8 = 13 then 2 else if op / 8 = 14 then 1 else 8) else 0

theorem acc_iff (op : Int) : accB op = true ↔ 1 ≤ op % 8 ∧ op % 8 ≤ 3 := by unfold accB; simp
theorem known_acc {op : Int} (h : accB op = true) : knownB op = true ↔ 12 ≤ op / 8 ∧ op / 8 ≤ 15 := by
  rw [acc_iff] at h
  unfold knownB
  rw [decide_eq_true_iff, if_neg (by omega), if_pos (by omega)]

set_option maxHeartbeats 1000000 in
theorem size_any (op : Int) (w : World) (h0 : 0 ≤ op) (h1 : op ≤ 255) :
    Calls Try.prog 18 #[.int .u8 op] w fun e w' => e = .returned (.int .i64 (sizeI op)) ∧ w' = w := by
  have hm := (masks op h0 h1).2.2.2.2.1
  cases ha : accB op with
  | false =>
    have HA := toHid ha
    go_enter Try.func18, Try.ntmps18
    go_wp2_with (go_at_call 33; refine (isAccess_any _ _ h0 h1).mono ?_; rintro e w ⟨rfl, rfl⟩)
    go_ret
    refine ⟨ret_int ?_, rfl⟩
    unfold sizeI
    rw [if_neg (by rw [HA.out]; simp)]
  | true =>
    have HA := toHid ha
    cases hk : knownB op with
    | false =>
      have HK := toHid hk
      go_enter Try.func18, Try.ntmps18
      go_wp2_with (first | (go_at_call 33; refine (isAccess_any _ _ h0 h1).mono ?_; rintro e w ⟨rfl, rfl⟩) | (go_at_call 13; refine (known_any _ _ h0 h1).mono ?_; rintro e w ⟨rfl, rfl⟩))
      go_ret
      refine ⟨ret_int ?_, rfl⟩
      unfold sizeI
      rw [if_neg (by rw [HK.out]; simp)]
    | true =>
      have HK := toHid hk
      have q := (known_acc HA.out).1 hk
      have hq : op / 8 = 12 ∨ op / 8 = 13 ∨ op / 8 = 14 ∨ op / 8 = 15 := by omega
      clear q
      rcases hq with hq | hq | hq | hq
      all_goals
        rw [hq] at hm
        go_enter Try.func18, Try.ntmps18
        go_wp2_with (first | (go_at_call 33; refine (isAccess_any _ _ h0 h1).mono ?_; rintro e w ⟨rfl, rfl⟩) | (go_at_call 13; refine (known_any _ _ h0 h1).mono ?_; rintro e w ⟨rfl, rfl⟩))
        go_ret
        refine ⟨ret_int ?_, rfl⟩
        unfold sizeI
        rw [if_pos ⟨HA.out, HK.out⟩, hq]
        rfl

set_option maxHeartbeats 1000000 in
theorem rknown_any (op : Int) (w : World) (h0 : 0 ≤ op) (h1 : op ≤ 255) :
    Calls Try.prog 14 #[.int .i64 op] w fun e w' => e = .returned (.bool (knownB op)) ∧ w' = w := by
  have hc : op % 8 = 0 ∨ op % 8 = 1 ∨ op % 8 = 2 ∨ op % 8 = 3 ∨ op % 8 = 4 ∨ op % 8 = 5 ∨ op % 8 = 6 ∨ op % 8 = 7 := by omega
  rcases hc with hc | hc | hc | hc | hc | hc | hc | hc
  all_goals
    go_enter Try.func14, Try.ntmps14
    go_wp2
    all_goals
      go_ret
      refine ⟨ret_bool (known_mk ?_), rfl⟩
      first
        | (rw [if_pos hc]; simp; done)
        | (rw [if_neg (by omega), if_pos (by omega)]; simp; first | done | omega)
        | (rw [if_neg (by omega), if_neg (by omega), if_pos (by omega)]; simp; first | done | omega)
        | (rw [if_neg (by omega), if_neg (by omega), if_neg (by omega)]; simp; first | done | omega)

set_option maxHeartbeats 1000000 in
theorem rsize_any (op : Int) (w : World) (h0 : 0 ≤ op) (h1 : op ≤ 255) :
    Calls Try.prog 19 #[.int .i64 op] w fun e w' => e = .returned (.int .i64 (sizeI op)) ∧ Touch [] w w' := by
  by_cases ha : 1 ≤ op % 8
  · by_cases ha3 : op % 8 ≤ 3
    · have hA := (acc_iff op).2 ⟨ha, ha3⟩
      have HA := toHid hA
      clear hA
      cases hk : knownB op
      · have HK := toHid hk
        go_enter Try.func19, Try.ntmps19
        go_wp2_with (go_at_call 14; refine (rknown_any _ _ h0 h1).mono ?_; rintro e w ⟨rfl, rfl⟩)
        go_ret
        refine ⟨ret_int ?_, Touch.refl _ _⟩
        unfold sizeI
        rw [if_neg (by rw [HA.out, HK.out]; simp)]
      · have HK := toHid hk
        have q := (known_acc HA.out).1 hk
        have hq : op / 8 = 12 ∨ op / 8 = 13 ∨ op / 8 = 14 ∨ op / 8 = 15 := by omega
        clear q
        rcases hq with hq | hq | hq | hq
        all_goals
          go_enter Try.func19, Try.ntmps19
          go_wp2_with (go_at_call 14; refine (rknown_any _ _ h0 h1).mono ?_; rintro e w ⟨rfl, rfl⟩)
          go_ret
          refine ⟨ret_int ?_, (Touch.refl _ _).alloc _⟩
          unfold sizeI
          rw [if_pos ⟨HA.out, HK.out⟩, hq]
          rfl
    · have hA : accB op = false := by unfold accB; exact decide_eq_false (by omega)
      have HA := toHid hA
      clear hA
      go_enter Try.func19, Try.ntmps19
      go_wp2_with (go_at_call 14; refine (rknown_any _ _ h0 h1).mono ?_; rintro e w ⟨rfl, rfl⟩)
      go_ret
      refine ⟨ret_int ?_, Touch.refl _ _⟩
      unfold sizeI
      rw [if_neg (by rw [HA.out]; simp)]
  · have hA : accB op = false := by unfold accB; exact decide_eq_false (by omega)
    have HA := toHid hA
    clear hA
    go_enter Try.func19, Try.ntmps19
    go_wp2_with (go_at_call 14; refine (rknown_any _ _ h0 h1).mono ?_; rintro e w ⟨rfl, rfl⟩)
    go_ret
    refine ⟨ret_int ?_, Touch.refl _ _⟩
    unfold sizeI
    rw [if_neg (by rw [HA.out]; simp)]
end Go.Proofs.Ytjioemkapmchpaa
