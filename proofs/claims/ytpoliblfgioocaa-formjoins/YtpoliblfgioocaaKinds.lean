/-
  Which instructions jump, call a part, close a part, write r10: the small functions of package shape.
-/
import Derived.Test.YtpoliblfgioocaaRPlain
namespace Go.Proofs.Ytpoliblfgioocaa
open Go.RowKit

def jumpB (i : In) : Bool := decide ((i.op % 8 = 5 ∨ i.op % 8 = 6) ∧ i.op ≠ 133 ∧ i.op ≠ 149)
def partB (i : In) : Bool := decide (i.op = 133 ∧ i.src = 1)
def closeB (i : In) : Bool := decide (i.op = 149 ∨ i.op = 5)
def saluB (op : Int) : Bool := decide (op % 8 = 4 ∨ op % 8 = 7)
def writeB (op : Int) : Bool := decide (op % 8 = 4 ∨ op % 8 = 7 ∨ op % 8 = 0 ∨ op % 8 = 1)
def bitsI (op : Int) : Int := if op % 8 = 4 then 32 else 64
def badImmB (i : In) : Bool := decide (if i.op / 16 = 3 ∨ i.op / 16 = 9 then i.imm = 0 else if i.op / 16 = 6 ∨ i.op / 16 = 7 ∨ i.op / 16 = 12 then i.imm < 0 ∨ bitsI i.op ≤ i.imm else False)
def forbidB (i : In) : Bool := decide (i.dst = 10 ∧ writeB i.op = true ∨ saluB i.op = true ∧ regB i.op = false ∧ badImmB i = true)

set_option maxHeartbeats 400000 in
theorem bitsOf_any (op : Int) (w : World) (h0 : 0 ≤ op) (h1 : op ≤ 255) :
    Calls Try.prog 59 #[.int .u8 op] w fun e w' => e = .returned (.int .i32 (bitsI op)) ∧ w' = w := by
  by_cases hc : op % 8 = 4
  · go_enter Try.func59, Try.ntmps59
    go_wp2_with (go_at_call 47; refine (class_any _ _ h0 h1).mono ?_; rintro e w ⟨rfl, rfl⟩)
    go_ret
    exact ⟨by rw [bitsI, if_pos hc]; rfl, rfl⟩
  · go_enter Try.func59, Try.ntmps59
    go_wp2_with (go_at_call 47; refine (class_any _ _ h0 h1).mono ?_; rintro e w ⟨rfl, rfl⟩)
    go_ret
    exact ⟨by rw [bitsI, if_neg hc]; rfl, rfl⟩
set_option maxHeartbeats 400000 in
theorem isAluS_any (op : Int) (w : World) (h0 : 0 ≤ op) (h1 : op ≤ 255) :
    Calls Try.prog 42 #[.int .u8 op] w fun e w' => e = .returned (.bool (saluB op)) ∧ w' = w := by
  have hc : op % 8 = 0 ∨ op % 8 = 1 ∨ op % 8 = 2 ∨ op % 8 = 3 ∨ op % 8 = 4 ∨ op % 8 = 5 ∨ op % 8 = 6 ∨ op % 8 = 7 := by omega
  rcases hc with hc | hc | hc | hc | hc | hc | hc | hc
  all_goals
    go_enter Try.func42, Try.ntmps42
    go_wp2_with (go_at_call 47; refine (class_any _ _ h0 h1).mono ?_; rintro e w ⟨rfl, rfl⟩)
    go_ret
    refine ⟨ret_bool ?_, rfl⟩
    unfold saluB
    simp [hc]
set_option maxHeartbeats 800000 in
theorem writesDst_any (op : Int) (w : World) (h0 : 0 ≤ op) (h1 : op ≤ 255) :
    Calls Try.prog 41 #[.int .u8 op] w fun e w' => e = .returned (.bool (writeB op)) ∧ w' = w := by
  have hc : op % 8 = 0 ∨ op % 8 = 1 ∨ op % 8 = 2 ∨ op % 8 = 3 ∨ op % 8 = 4 ∨ op % 8 = 5 ∨ op % 8 = 6 ∨ op % 8 = 7 := by omega
  rcases hc with hc | hc | hc | hc | hc | hc | hc | hc
  all_goals
    have hs : saluB op = decide (op % 8 = 4 ∨ op % 8 = 7) := rfl
    simp [hc] at hs
    go_enter Try.func41, Try.ntmps41
    go_wp2_with (first | (go_at_call 47; refine (class_any _ _ h0 h1).mono ?_; rintro e w ⟨rfl, rfl⟩) | (go_at_call 42; refine (isAluS_any _ _ h0 h1).mono ?_; rintro e w ⟨rfl, rfl⟩))
    go_ret
    refine ⟨ret_bool ?_, rfl⟩
    unfold writeB
    simp [hc]
set_option maxHeartbeats 800000 in
theorem isPartCall_any (i : In) (w : World) (_ok : i.Ok) :
    Calls Try.prog 32 #[i.v] w fun e w' => e = .returned (.bool (partB i)) ∧ Touch [] w w' := by
  unfold In.v
  by_cases h1 : i.op = 133
  · have b1 : (i.op == 133) = true := by simpa using h1
    go_enter Try.func32, Try.ntmps32
    go_wp2
    go_ret
    refine ⟨ret_bool ?_, (Touch.refl _ w).alloc _⟩
    unfold partB
    rw [Bool.eq_iff_iff]
    simp [h1]
  · have b1 : (i.op == 133) = false := by simpa using h1
    go_enter Try.func32, Try.ntmps32
    go_wp2
    go_ret
    refine ⟨ret_bool ?_, (Touch.refl _ w).alloc _⟩
    unfold partB
    rw [Bool.eq_iff_iff]
    simp [h1]
set_option maxHeartbeats 800000 in
theorem closes_any (i : In) (w : World) (_ok : i.Ok) :
    Calls Try.prog 34 #[i.v] w fun e w' => e = .returned (.bool (closeB i)) ∧ Touch [] w w' := by
  unfold In.v
  by_cases h1 : i.op = 149
  · have b1 : (i.op == 149) = true := by simpa using h1
    go_enter Try.func34, Try.ntmps34
    go_wp2
    go_ret
    refine ⟨ret_bool ?_, (Touch.refl _ w).alloc _⟩
    unfold closeB
    rw [Bool.eq_iff_iff]
    simp [h1]
  · have b1 : (i.op == 149) = false := by simpa using h1
    go_enter Try.func34, Try.ntmps34
    go_wp2
    go_ret
    refine ⟨ret_bool ?_, (Touch.refl _ w).alloc _⟩
    unfold closeB
    rw [Bool.eq_iff_iff]
    simp [h1]
set_option maxHeartbeats 1600000 in
theorem isJump_any (i : In) (w : World) (ok : i.Ok) :
    Calls Try.prog 33 #[i.v] w fun e w' => e = .returned (.bool (jumpB i)) ∧ Touch [] w w' := by
  have q0 := ok.op0
  have q1 := ok.op1
  have hc : i.op % 8 = 5 ∨ i.op % 8 = 6 ∨ (¬ i.op % 8 = 5 ∧ ¬ i.op % 8 = 6) := by omega
  simp only [In.v]
  rcases hc with hc | hc | ⟨hc, hd⟩
  · by_cases h1 : i.op = 133
    · obtain ⟨op, dst, src, off, imm⟩ := i
      obtain rfl : op = 133 := h1
      clear q0 q1 hc
      go_enter Try.func33, Try.ntmps33
      go_wp2_with (go_at_call 47; refine (class_any _ _ (by decide) (by decide)).mono ?_; rintro e w' ⟨rfl, rfl⟩)
      go_ret
      exact ⟨ret_bool rfl, (Touch.refl _ w).alloc _⟩
    · have b1 : (i.op != 133) = true := by simpa using h1
      go_enter Try.func33, Try.ntmps33
      go_wp2_with (go_at_call 47; refine (class_any _ _ q0 q1).mono ?_; rintro e w' ⟨rfl, rfl⟩)
      go_ret
      refine ⟨ret_bool ?_, (Touch.refl _ w).alloc _⟩
      unfold jumpB
      rw [Bool.eq_iff_iff]
      simp [h1, hc]
  · by_cases h1 : i.op = 133
    · omega
    · have b1 : (i.op != 133) = true := by simpa using h1
      go_enter Try.func33, Try.ntmps33
      go_wp2_with (go_at_call 47; refine (class_any _ _ q0 q1).mono ?_; rintro e w' ⟨rfl, rfl⟩)
      go_ret
      refine ⟨ret_bool ?_, (Touch.refl _ w).alloc _⟩
      unfold jumpB
      rw [Bool.eq_iff_iff]
      simp [h1, hc]
  · go_enter Try.func33, Try.ntmps33
    go_wp2_with (go_at_call 47; refine (class_any _ _ q0 q1).mono ?_; rintro e w' ⟨rfl, rfl⟩)
    go_ret
    refine ⟨ret_bool ?_, (Touch.refl _ w).alloc _⟩
    unfold jumpB
    rw [Bool.eq_iff_iff]
    simp [hc, hd]
def leadB (i : In) : Bool := jumpB i || partB i
set_option maxHeartbeats 1600000 in
theorem leads_any (i : In) (w : World) (ok : i.Ok) :
    Calls Try.prog 29 #[i.v] w fun e w' => e = .returned (.bool (leadB i)) ∧ Touch [] w w' := by
  have HJ := toHid (fun w => isJump_any i w ok)
  have HP := toHid (fun w => isPartCall_any i w ok)
  simp only [In.v] at HJ HP ⊢
  unfold leadB
  have hB := Blk.newA w #[.int .u8 i.op, .int .u8 i.dst, .int .u8 i.src, .int .i16 i.off, .int .i32 i.imm] _ 31 rfl
  have hT := (Touch.refl [] w).alloc (.cells #[.int .u8 i.op, .int .u8 i.dst, .int .u8 i.src, .int .i16 i.off, .int .i32 i.imm] 31)
  go_enter Try.func29, Try.ntmps29
  go_wp2_with fail
  refine Calls.mono (HJ.out _) ?_
  rintro e w1 ⟨rfl, ht1⟩
  have hB1 := ht1.blk hB (by simp)
  have c0 := hB1.cellN (i := 0) (by simp)
  have c1 := hB1.cellN (i := 1) (by simp)
  have c2 := hB1.cellN (i := 2) (by simp)
  have c3 := hB1.cellN (i := 3) (by simp)
  have c4 := hB1.cellN (i := 4) (by simp)
  simp at c0 c1 c2 c3 c4
  have HT1 := toHid (hT.trans ht1 (by simp))
  clear hB1 ht1 hB hT
  cases hj : jumpB i with
  | true =>
    go_wp2
    go_ret
    exact ⟨by simp [hj], HT1⟩
  | false =>
    go_wp2_with fail
    refine Calls.mono (HP.out _) ?_
    rintro e w2 ⟨rfl, ht2⟩
    have HT2 := toHid ((show Touch [] w w1 from HT1).trans ht2 (by simp))
    clear ht2
    go_wp2
    go_ret
    exact ⟨by simp [hj], HT2⟩
end Go.Proofs.Ytpoliblfgioocaa
