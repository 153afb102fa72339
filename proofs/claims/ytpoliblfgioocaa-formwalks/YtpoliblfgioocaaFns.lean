/-
  The small functions of package insn: what each call returns.
-/
import Derived.Test.YtpoliblfgioocaaRows
import Derived.Test.YtpoliblfgioocaaKit
namespace Go.Proofs.Ytpoliblfgioocaa
open Go.RowKit

theorem mask_all : ∀ x : Fin 256, bits .and .u8 (x.val : Int) 7 = (x.val : Int) % 8 ∧ bits .and .u8 (x.val : Int) 240 = (x.val : Int) / 16 * 16 ∧ bits .and .u8 (x.val : Int) 8 = (x.val : Int) / 8 % 2 * 8 ∧
    bits .and .u8 (x.val : Int) 224 = (x.val : Int) / 32 * 32 ∧ bits .and .u8 (x.val : Int) 24 = (x.val : Int) / 8 % 4 * 8 ∧ bits .and .u8 (x.val : Int) 15 = (x.val : Int) % 16 := by decide +kernel
theorem masks (x : Int) (h0 : 0 ≤ x) (h1 : x ≤ 255) : bits .and .u8 x 7 = x % 8 ∧ bits .and .u8 x 240 = x / 16 * 16 ∧ bits .and .u8 x 8 = x / 8 % 2 * 8 ∧ bits .and .u8 x 224 = x / 32 * 32 ∧
    bits .and .u8 x 24 = x / 8 % 4 * 8 ∧ bits .and .u8 x 15 = x % 16 := by
  obtain ⟨n, rfl⟩ := Int.eq_ofNat_of_zero_le h0
  exact mask_all ⟨n, by omega⟩

set_option maxHeartbeats 400000 in
theorem class_any (op : Int) (w : World) (h0 : 0 ≤ op) (h1 : op ≤ 255) :
    Calls Try.prog 47 #[.int .u8 op] w fun e w' => e = .returned (.int .i64 (op % 8)) ∧ w' = w := by
  have hm := (masks op h0 h1).1
  go_enter Try.func47, Try.ntmps47
  go_wp2
  go_ret
  exact ⟨rfl, rfl⟩

set_option maxHeartbeats 400000 in
theorem kind_any (op : Int) (w : World) (h0 : 0 ≤ op) (h1 : op ≤ 255) :
    Calls Try.prog 48 #[.int .u8 op] w fun e w' => e = .returned (.int .i64 (op / 16 * 16)) ∧ w' = w := by
  have hm := (masks op h0 h1).2.1
  go_enter Try.func48, Try.ntmps48
  go_wp2
  go_ret
  exact ⟨rfl, rfl⟩

/-- Has it the bit 0x08? -/
def regB (op : Int) : Bool := decide (op / 8 % 2 = 1)
set_option maxHeartbeats 400000 in
theorem byReg_any (op : Int) (w : World) (h0 : 0 ≤ op) (h1 : op ≤ 255) :
    Calls Try.prog 43 #[.int .u8 op] w fun e w' => e = .returned (.bool (regB op)) ∧ w' = w := by
  have hm := (masks op h0 h1).2.2.1
  go_enter Try.func43, Try.ntmps43
  go_wp2
  go_ret
  refine ⟨ret_bool ?_, rfl⟩
  unfold regB
  rw [Bool.eq_iff_iff]
  simp
  omega

def wideB (op : Int) : Bool := decide (op = 24)
set_option maxHeartbeats 400000 in
theorem wide_any (op : Int) (w : World) :
    Calls Try.prog 40 #[.int .u8 op] w fun e w' => e = .returned (.bool (wideB op)) ∧ w' = w := by
  go_enter Try.func40, Try.ntmps40
  go_wp2
  go_ret
  exact ⟨rfl, rfl⟩

def negB (op : Int) : Bool := decide (op / 16 = 8)
set_option maxHeartbeats 400000 in
theorem isNeg_any (op : Int) (w : World) (h0 : 0 ≤ op) (h1 : op ≤ 255) :
    Calls Try.prog 49 #[.int .u8 op] w fun e w' => e = .returned (.bool (negB op)) ∧ w' = w := by
  go_enter Try.func49, Try.ntmps49
  go_wp2_with (go_at_call 48; refine (kind_any _ _ h0 h1).mono ?_; rintro e w ⟨rfl, rfl⟩)
  go_ret
  refine ⟨ret_bool ?_, rfl⟩
  unfold negB
  rw [Bool.eq_iff_iff]
  simp
  omega

def bareB (op : Int) : Bool := decide (op / 16 = 0 ∨ op / 16 = 8 ∨ op / 16 = 9)
set_option maxHeartbeats 400000 in
theorem isBare_any (op : Int) (w : World) (h0 : 0 ≤ op) (h1 : op ≤ 255) :
    Calls Try.prog 51 #[.int .u8 op] w fun e w' => e = .returned (.bool (bareB op)) ∧ w' = w := by
  go_enter Try.func51, Try.ntmps51
  go_wp2_with (go_at_call 48; refine (kind_any _ _ h0 h1).mono ?_; rintro e w ⟨rfl, rfl⟩)
  all_goals
    go_ret
    refine ⟨ret_bool ?_, rfl⟩
    unfold bareB
    first
      | (refine (decide_eq_true ?_).symm; omega)
      | (refine (decide_eq_false ?_).symm; omega)
      | (rw [Bool.eq_iff_iff]; simp; omega)

def condB (op : Int) : Bool := decide (¬ (op / 16 = 0 ∨ op / 16 = 8 ∨ op / 16 = 9) ∧ op / 16 ≤ 13)
set_option maxHeartbeats 400000 in
theorem isCond_any (op : Int) (w : World) (h0 : 0 ≤ op) (h1 : op ≤ 255) :
    Calls Try.prog 50 #[.int .u8 op] w fun e w' => e = .returned (.bool (condB op)) ∧ w' = w := by
  cases hb : bareB op with
  | false =>
    have HB := toHid (of_decide_eq_false hb)
    go_enter Try.func50, Try.ntmps50
    go_wp2_with (first | (go_at_call 48; refine (kind_any _ _ h0 h1).mono ?_; rintro e w ⟨rfl, rfl⟩) | (go_at_call 51; refine (isBare_any _ _ h0 h1).mono ?_; rintro e w ⟨rfl, rfl⟩))
    go_ret
    refine ⟨ret_bool ?_, rfl⟩
    unfold condB
    have := HB.out
    rw [Bool.eq_iff_iff]
    simp
    omega
  | true =>
    have HB := toHid (of_decide_eq_true hb)
    go_enter Try.func50, Try.ntmps50
    go_wp2_with (first | (go_at_call 48; refine (kind_any _ _ h0 h1).mono ?_; rintro e w ⟨rfl, rfl⟩) | (go_at_call 51; refine (isBare_any _ _ h0 h1).mono ?_; rintro e w ⟨rfl, rfl⟩))
    go_ret
    refine ⟨ret_bool ?_, rfl⟩
    unfold condB
    have := HB.out
    refine (decide_eq_false ?_).symm
    omega

def accB (op : Int) : Bool := decide (1 ≤ op % 8 ∧ op % 8 ≤ 3)
set_option maxHeartbeats 400000 in
theorem isAccess_any (op : Int) (w : World) (h0 : 0 ≤ op) (h1 : op ≤ 255) :
    Calls Try.prog 52 #[.int .u8 op] w fun e w' => e = .returned (.bool (accB op)) ∧ w' = w := by
  go_enter Try.func52, Try.ntmps52
  go_wp2_with (go_at_call 47; refine (class_any _ _ h0 h1).mono ?_; rintro e w ⟨rfl, rfl⟩)
  all_goals
    go_ret
    refine ⟨ret_bool ?_, rfl⟩
    unfold accB
    first
      | (refine (decide_eq_true ?_).symm; omega)
      | (refine (decide_eq_false ?_).symm; omega)
      | (rw [Bool.eq_iff_iff]; simp; omega)

/-- Is there such an operation? -/
def knownB (op : Int) : Bool := decide (if op % 8 = 0 then op = 24 else if op % 8 ≤ 3 then 12 ≤ op / 8 ∧ op / 8 ≤ 15 else if op % 8 = 4 ∨ op % 8 = 7 then op / 16 ≤ 12 ∧ ¬ (op / 16 = 8 ∧ op / 8 % 2 = 1) else
  1 ≤ op / 16 ∧ op / 16 ≤ 7 ∨ 10 ≤ op / 16 ∧ op / 16 ≤ 13 ∨ op = 5 ∨ op = 133 ∨ op = 149)

theorem known_mk {op : Int} {b : Bool} (h : b = true ↔ (if op % 8 = 0 then op = 24 else if op % 8 ≤ 3 then 12 ≤ op / 8 ∧ op / 8 ≤ 15 else if op % 8 = 4 ∨ op % 8 = 7 then op / 16 ≤ 12 ∧ ¬ (op / 16 = 8 ∧ op / 8 % 2 = 1) else
  1 ≤ op / 16 ∧ op / 16 ≤ 7 ∨ 10 ≤ op / 16 ∧ op / 16 ≤ 13 ∨ op = 5 ∨ op = 133 ∨ op = 149)) : b = knownB op := by
  unfold knownB
  rw [Bool.eq_iff_iff, h, decide_eq_true_iff]

set_option maxHeartbeats 1000000 in
theorem known_any (op : Int) (w : World) (h0 : 0 ≤ op) (h1 : op ≤ 255) :
    Calls Try.prog 37 #[.int .u8 op] w fun e w' => e = .returned (.bool (knownB op)) ∧ w' = w := by
  have hm := (masks op h0 h1).2.2.2.1
  have hc : op % 8 = 0 ∨ op % 8 = 1 ∨ op % 8 = 2 ∨ op % 8 = 3 ∨ op % 8 = 4 ∨ op % 8 = 5 ∨ op % 8 = 6 ∨ op % 8 = 7 := by omega
  rcases hc with hc | hc | hc | hc | hc | hc | hc | hc
  · go_enter Try.func37, Try.ntmps37
    go_wp2_with (first | (go_at_call 47; refine (class_any _ _ h0 h1).mono ?_; rintro e w ⟨rfl, rfl⟩) | (go_at_call 40; refine (wide_any _ _).mono ?_; rintro e w ⟨rfl, rfl⟩))
    go_ret
    refine ⟨ret_bool (known_mk ?_), rfl⟩
    rw [if_pos hc]
    unfold wideB
    simp
  iterate 3
    · go_enter Try.func37, Try.ntmps37
      go_wp2_with (go_at_call 47; refine (class_any _ _ h0 h1).mono ?_; rintro e w ⟨rfl, rfl⟩)
      go_ret
      refine ⟨ret_bool (known_mk ?_), rfl⟩
      rw [if_neg (by omega), if_pos (by omega)]
      simp
      omega
  · have hn : negB op = true ↔ op / 16 = 8 := by unfold negB; simp
    have hr : regB op = true ↔ op / 8 % 2 = 1 := by unfold regB; simp
    have HN := toHid hn
    have HR := toHid hr
    clear hn hr
    cases hn : negB op <;> cases hr : regB op
    all_goals
      have HN' := toHid hn
      have HR' := toHid hr
      go_enter Try.func37, Try.ntmps37
      go_wp2_with (first | (go_at_call 47; refine (class_any _ _ h0 h1).mono ?_; rintro e w ⟨rfl, rfl⟩) | (go_at_call 48; refine (kind_any _ _ h0 h1).mono ?_; rintro e w ⟨rfl, rfl⟩) | (go_at_call 43; refine (byReg_any _ _ h0 h1).mono ?_; rintro e w ⟨rfl, rfl⟩) | (go_at_call 49; refine (isNeg_any _ _ h0 h1).mono ?_; rintro e w ⟨rfl, rfl⟩) | (go_at_call 50; refine (isCond_any _ _ h0 h1).mono ?_; rintro e w ⟨rfl, rfl⟩) | (go_at_call 51; refine (isBare_any _ _ h0 h1).mono ?_; rintro e w ⟨rfl, rfl⟩))
      all_goals
        go_ret
        refine ⟨ret_bool (known_mk ?_), rfl⟩
        have q1 := HN.out
        have q2 := HR.out
        rw [HN'.out] at q1
        rw [HR'.out] at q2
        rw [if_neg (by omega), if_neg (by omega), if_pos (by omega)]
        simp at q1 q2 ⊢
        omega
  · have hn : condB op = true ↔ ¬ (op / 16 = 0 ∨ op / 16 = 8 ∨ op / 16 = 9) ∧ op / 16 ≤ 13 := by unfold condB; simp
    have hr : regB op = true ↔ op / 8 % 2 = 1 := by unfold regB; simp
    have hb : bareB op = true ↔ op / 16 = 0 ∨ op / 16 = 8 ∨ op / 16 = 9 := by unfold bareB; simp
    have HN := toHid hn
    have HR := toHid hr
    have HB := toHid hb
    clear hn hr hb
    cases hn : condB op <;> cases hr : regB op <;> cases hb : bareB op
    all_goals
      have HN' := toHid hn
      have HR' := toHid hr
      have HB' := toHid hb
      go_enter Try.func37, Try.ntmps37
      go_wp2_with (first | (go_at_call 47; refine (class_any _ _ h0 h1).mono ?_; rintro e w ⟨rfl, rfl⟩) | (go_at_call 48; refine (kind_any _ _ h0 h1).mono ?_; rintro e w ⟨rfl, rfl⟩) | (go_at_call 43; refine (byReg_any _ _ h0 h1).mono ?_; rintro e w ⟨rfl, rfl⟩) | (go_at_call 49; refine (isNeg_any _ _ h0 h1).mono ?_; rintro e w ⟨rfl, rfl⟩) | (go_at_call 50; refine (isCond_any _ _ h0 h1).mono ?_; rintro e w ⟨rfl, rfl⟩) | (go_at_call 51; refine (isBare_any _ _ h0 h1).mono ?_; rintro e w ⟨rfl, rfl⟩))
      all_goals
        go_ret
        refine ⟨ret_bool (known_mk ?_), rfl⟩
        have q1 := HN.out
        have q2 := HR.out
        have q3 := HB.out
        rw [HN'.out] at q1
        rw [HR'.out] at q2
        rw [HB'.out] at q3
        rw [if_neg (by omega), if_neg (by omega), if_neg (by omega)]
        simp at q1 q2 q3 ⊢
        omega
  · have hn : condB op = true ↔ ¬ (op / 16 = 0 ∨ op / 16 = 8 ∨ op / 16 = 9) ∧ op / 16 ≤ 13 := by unfold condB; simp
    have hr : regB op = true ↔ op / 8 % 2 = 1 := by unfold regB; simp
    have hb : bareB op = true ↔ op / 16 = 0 ∨ op / 16 = 8 ∨ op / 16 = 9 := by unfold bareB; simp
    have HN := toHid hn
    have HR := toHid hr
    have HB := toHid hb
    clear hn hr hb
    cases hn : condB op <;> cases hr : regB op <;> cases hb : bareB op
    all_goals
      have HN' := toHid hn
      have HR' := toHid hr
      have HB' := toHid hb
      go_enter Try.func37, Try.ntmps37
      go_wp2_with (first | (go_at_call 47; refine (class_any _ _ h0 h1).mono ?_; rintro e w ⟨rfl, rfl⟩) | (go_at_call 48; refine (kind_any _ _ h0 h1).mono ?_; rintro e w ⟨rfl, rfl⟩) | (go_at_call 43; refine (byReg_any _ _ h0 h1).mono ?_; rintro e w ⟨rfl, rfl⟩) | (go_at_call 49; refine (isNeg_any _ _ h0 h1).mono ?_; rintro e w ⟨rfl, rfl⟩) | (go_at_call 50; refine (isCond_any _ _ h0 h1).mono ?_; rintro e w ⟨rfl, rfl⟩) | (go_at_call 51; refine (isBare_any _ _ h0 h1).mono ?_; rintro e w ⟨rfl, rfl⟩))
      all_goals
        go_ret
        refine ⟨ret_bool (known_mk ?_), rfl⟩
        have q1 := HN.out
        have q2 := HR.out
        have q3 := HB.out
        rw [HN'.out] at q1
        rw [HR'.out] at q2
        rw [HB'.out] at q3
        rw [if_neg (by omega), if_neg (by omega), if_neg (by omega)]
        simp at q1 q2 q3 ⊢
        omega
  · have hn : negB op = true ↔ op / 16 = 8 := by unfold negB; simp
    have hr : regB op = true ↔ op / 8 % 2 = 1 := by unfold regB; simp
    have HN := toHid hn
    have HR := toHid hr
    clear hn hr
    cases hn : negB op <;> cases hr : regB op
    all_goals
      have HN' := toHid hn
      have HR' := toHid hr
      go_enter Try.func37, Try.ntmps37
      go_wp2_with (first | (go_at_call 47; refine (class_any _ _ h0 h1).mono ?_; rintro e w ⟨rfl, rfl⟩) | (go_at_call 48; refine (kind_any _ _ h0 h1).mono ?_; rintro e w ⟨rfl, rfl⟩) | (go_at_call 43; refine (byReg_any _ _ h0 h1).mono ?_; rintro e w ⟨rfl, rfl⟩) | (go_at_call 49; refine (isNeg_any _ _ h0 h1).mono ?_; rintro e w ⟨rfl, rfl⟩) | (go_at_call 50; refine (isCond_any _ _ h0 h1).mono ?_; rintro e w ⟨rfl, rfl⟩) | (go_at_call 51; refine (isBare_any _ _ h0 h1).mono ?_; rintro e w ⟨rfl, rfl⟩))
      all_goals
        go_ret
        refine ⟨ret_bool (known_mk ?_), rfl⟩
        have q1 := HN.out
        have q2 := HR.out
        rw [HN'.out] at q1
        rw [HR'.out] at q2
        rw [if_neg (by omega), if_neg (by omega), if_pos (by omega)]
        simp at q1 q2 ⊢
        omega
end Go.Proofs.Ytpoliblfgioocaa
