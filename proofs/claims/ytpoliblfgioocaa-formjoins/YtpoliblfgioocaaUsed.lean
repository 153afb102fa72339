/-
  onlyUsed and its parts: an instruction without the fields that it doesn't use.
-/
import Derived.Test.YtpoliblfgioocaaDecode
import Derived.Test.YtpoliblfgioocaaFns2
namespace Go.Proofs.Ytpoliblfgioocaa
open Go.RowKit

def usedAccess (i : In) : In := if i.op % 8 = 2 then ⟨i.op, i.dst, 0, i.off, i.imm⟩ else ⟨i.op, i.dst, i.src, i.off, 0⟩
def usedAlu (i : In) : In := if negB i.op = true then ⟨i.op, i.dst, 0, 0, 0⟩ else if regB i.op = true then ⟨i.op, i.dst, i.src, 0, 0⟩ else ⟨i.op, i.dst, 0, 0, i.imm⟩
def usedCond (i : In) : In := if regB i.op = true then ⟨i.op, i.dst, i.src, i.off, 0⟩ else ⟨i.op, i.dst, 0, i.off, i.imm⟩
def usedBare (i : In) : In := if i.op / 16 = 0 then ⟨i.op, 0, 0, i.off, 0⟩ else if i.op / 16 = 8 then ⟨i.op, 0, i.src, 0, i.imm⟩ else ⟨i.op, 0, 0, 0, 0⟩


set_option maxHeartbeats 400000 in
theorem usedByAccess_any (i : In) (w : World) (ok : i.Ok) :
    Calls Try.prog 53 #[i.v] w fun e w' => e = .returned (usedAccess i).v ∧ Touch [] w w' := by
  have q0 := ok.op0
  have q1 := ok.op1
  unfold usedAccess
  by_cases h : i.op % 8 = 2
  · rw [if_pos h]
    simp only [In.v]
    go_enter Try.func53, Try.ntmps53
    go_wp2_with (go_at_call 47; refine (class_any _ _ q0 q1).mono ?_; rintro e w' ⟨rfl, rfl⟩)
    exact bodyPost_ret (v := .agg #[.int .u8 i.op, .int .u8 i.dst, .int .u8 0, .int .i16 i.off, .int .i32 i.imm]) (by simp [results, Try.results53, go_sem]) rfl ⟨rfl, ((Touch.refl _ w).alloc _).alloc _⟩
  · rw [if_neg h]
    simp only [In.v]
    go_enter Try.func53, Try.ntmps53
    go_wp2_with (go_at_call 47; refine (class_any _ _ q0 q1).mono ?_; rintro e w' ⟨rfl, rfl⟩)
    exact bodyPost_ret (v := .agg #[.int .u8 i.op, .int .u8 i.dst, .int .u8 i.src, .int .i16 i.off, .int .i32 0]) (by simp [results, Try.results53, go_sem]) rfl ⟨rfl, ((Touch.refl _ w).alloc _).alloc _⟩

set_option maxHeartbeats 400000 in
theorem usedByAlu_any (i : In) (w : World) (ok : i.Ok) :
    Calls Try.prog 55 #[i.v] w fun e w' => e = .returned (usedAlu i).v ∧ Touch [] w w' := by
  have q0 := ok.op0
  have q1 := ok.op1
  unfold usedAlu
  cases h : negB i.op with
  | true =>
    rw [if_pos rfl]
    simp only [In.v]
    go_enter Try.func55, Try.ntmps55
    go_wp2_with (first | (go_at_call 49; refine (isNeg_any _ _ q0 q1).mono ?_; rintro e w' ⟨rfl, rfl⟩) | (go_at_call 43; refine (byReg_any _ _ q0 q1).mono ?_; rintro e w' ⟨rfl, rfl⟩))
    exact bodyPost_ret (v := .agg #[.int .u8 i.op, .int .u8 i.dst, .int .u8 0, .int .i16 0, .int .i32 0]) (by simp [results, Try.results55, go_sem]) rfl ⟨rfl, ((Touch.refl _ w).alloc _).alloc _⟩
  | false =>
    rw [if_neg (by simp)]
    cases h2 : regB i.op with
    | true =>
      rw [if_pos rfl]
      simp only [In.v]
      go_enter Try.func55, Try.ntmps55
      go_wp2_with (first | (go_at_call 49; refine (isNeg_any _ _ q0 q1).mono ?_; rintro e w' ⟨rfl, rfl⟩) | (go_at_call 43; refine (byReg_any _ _ q0 q1).mono ?_; rintro e w' ⟨rfl, rfl⟩))
      exact bodyPost_ret (v := .agg #[.int .u8 i.op, .int .u8 i.dst, .int .u8 i.src, .int .i16 0, .int .i32 0]) (by simp [results, Try.results55, go_sem]) rfl ⟨rfl, ((Touch.refl _ w).alloc _).alloc _⟩
    | false =>
      rw [if_neg (by simp)]
      simp only [In.v]
      go_enter Try.func55, Try.ntmps55
      go_wp2_with (first | (go_at_call 49; refine (isNeg_any _ _ q0 q1).mono ?_; rintro e w' ⟨rfl, rfl⟩) | (go_at_call 43; refine (byReg_any _ _ q0 q1).mono ?_; rintro e w' ⟨rfl, rfl⟩))
      exact bodyPost_ret (v := .agg #[.int .u8 i.op, .int .u8 i.dst, .int .u8 0, .int .i16 0, .int .i32 i.imm]) (by simp [results, Try.results55, go_sem]) rfl ⟨rfl, ((Touch.refl _ w).alloc _).alloc _⟩

set_option maxHeartbeats 400000 in
theorem usedByCond_any (i : In) (w : World) (ok : i.Ok) :
    Calls Try.prog 56 #[i.v] w fun e w' => e = .returned (usedCond i).v ∧ Touch [] w w' := by
  have q0 := ok.op0
  have q1 := ok.op1
  unfold usedCond
  cases h2 : regB i.op with
  | true =>
    rw [if_pos rfl]
    simp only [In.v]
    go_enter Try.func56, Try.ntmps56
    go_wp2_with (go_at_call 43; refine (byReg_any _ _ q0 q1).mono ?_; rintro e w' ⟨rfl, rfl⟩)
    exact bodyPost_ret (v := .agg #[.int .u8 i.op, .int .u8 i.dst, .int .u8 i.src, .int .i16 i.off, .int .i32 0]) (by simp [results, Try.results56, go_sem]) rfl ⟨rfl, ((Touch.refl _ w).alloc _).alloc _⟩
  | false =>
    rw [if_neg (by simp)]
    simp only [In.v]
    go_enter Try.func56, Try.ntmps56
    go_wp2_with (go_at_call 43; refine (byReg_any _ _ q0 q1).mono ?_; rintro e w' ⟨rfl, rfl⟩)
    exact bodyPost_ret (v := .agg #[.int .u8 i.op, .int .u8 i.dst, .int .u8 0, .int .i16 i.off, .int .i32 i.imm]) (by simp [results, Try.results56, go_sem]) rfl ⟨rfl, ((Touch.refl _ w).alloc _).alloc _⟩

set_option maxHeartbeats 400000 in
theorem usedByBare_any (i : In) (w : World) (ok : i.Ok) :
    Calls Try.prog 57 #[i.v] w fun e w' => e = .returned (usedBare i).v ∧ Touch [] w w' := by
  have q0 := ok.op0
  have q1 := ok.op1
  unfold usedBare
  by_cases h : i.op / 16 = 0
  · rw [if_pos h]
    have h' : i.op / 16 * 16 = 0 := by omega
    simp only [In.v]
    go_enter Try.func57, Try.ntmps57
    go_wp2_with (go_at_call 48; refine (kind_any _ _ q0 q1).mono ?_; rintro e w' ⟨rfl, rfl⟩)
    exact bodyPost_ret (v := .agg #[.int .u8 i.op, .int .u8 0, .int .u8 0, .int .i16 i.off, .int .i32 0]) (by simp [results, Try.results57, go_sem]) rfl ⟨rfl, ((Touch.refl _ w).alloc _).alloc _⟩
  · rw [if_neg h]
    by_cases h2 : i.op / 16 = 8
    · rw [if_pos h2]
      have h' : i.op / 16 * 16 = 128 := by omega
      simp only [In.v]
      go_enter Try.func57, Try.ntmps57
      go_wp2_with (go_at_call 48; refine (kind_any _ _ q0 q1).mono ?_; rintro e w' ⟨rfl, rfl⟩)
      exact bodyPost_ret (v := .agg #[.int .u8 i.op, .int .u8 0, .int .u8 i.src, .int .i16 0, .int .i32 i.imm]) (by simp [results, Try.results57, go_sem]) rfl ⟨rfl, ((Touch.refl _ w).alloc _).alloc _⟩
    · rw [if_neg h2]
      have h' : ¬ i.op / 16 * 16 = 0 := by omega
      have h'' : ¬ i.op / 16 * 16 = 128 := by omega
      simp only [In.v]
      go_enter Try.func57, Try.ntmps57
      go_wp2_with (go_at_call 48; refine (kind_any _ _ q0 q1).mono ?_; rintro e w' ⟨rfl, rfl⟩)
      exact bodyPost_ret (v := .agg #[.int .u8 i.op, .int .u8 0, .int .u8 0, .int .i16 0, .int .i32 0]) (by simp [results, Try.results57, go_sem]) rfl ⟨rfl, ((Touch.refl _ w).alloc _).alloc _⟩
end Go.Proofs.Ytpoliblfgioocaa
