/-
  The reference's wrong: fields that must not be.
-/
import Derived.Test.YtpoliblfgioocaaKinds
namespace Go.Proofs.Ytpoliblfgioocaa
open Go.RowKit

set_option maxHeartbeats 3200000 in
set_option maxRecDepth 100000 in
theorem rwrong_any (i : In) (w : World) (ok : i.Ok) :
    Calls Try.prog 24 #[i.v] w fun e w' => e = .returned (.bool (forbidB i)) ∧ Touch [] w w' := by
  have q0 := ok.op0
  have q1 := ok.op1
  have hB := Blk.newA w #[.int .u8 i.op, .int .u8 i.dst, .int .u8 i.src, .int .i16 i.off, .int .i32 i.imm] i.cells 31 rfl
  have HT := toHid ((Touch.refl [] w).alloc (.cells #[.int .u8 i.op, .int .u8 i.dst, .int .u8 i.src, .int .i16 i.off, .int .i32 i.imm] 31))
  have c0 : World.cell? _ ⟨w.heap.size, 0, none⟩ = some _ := hB.cell rfl
  have c1 : World.cell? _ ⟨w.heap.size, 1, none⟩ = some _ := hB.cell rfl
  have c4 : World.cell? _ ⟨w.heap.size, 4, none⟩ = some _ := hB.cell rfl
  clear hB
  have HF : Hid (forbidB i = decide (i.dst = 10 ∧ (i.op % 8 = 4 ∨ i.op % 8 = 7 ∨ i.op % 8 = 0 ∨ i.op % 8 = 1) ∨ (i.op % 8 = 4 ∨ i.op % 8 = 7) ∧ ¬ i.op / 8 % 2 = 1 ∧ (if i.op / 16 = 3 ∨ i.op / 16 = 9 then i.imm = 0 else if i.op / 16 = 6 ∨ i.op / 16 = 7 ∨ i.op / 16 = 12 then i.imm < 0 ∨ (if i.op % 8 = 4 then 32 else 64) ≤ i.imm else False))) := toHid (by
    unfold forbidB badImmB bitsI writeB saluB regB
    rw [Bool.eq_iff_iff]
    simp only [decide_eq_true_eq, decide_eq_false_iff_not])
  generalize forbidB i = r at *
  simp only [In.v]
  go_enter Try.func24, Try.ntmps24
  go_wp2
  all_goals go_ret
  all_goals refine ⟨ret_bool ?_, (Touch.refl _ _).alloc _⟩
  all_goals rw [HF.out, Bool.eq_iff_iff]
  all_goals simp only [Bool.or_eq_true, decide_eq_true_eq, beq_iff_eq, Bool.false_eq_true, false_iff, true_iff, beq_eq_false_iff_ne, ne_eq] at *
  all_goals (repeat' split) <;> first | omega | (simp only [and_false, or_false]; omega)
end Go.Proofs.Ytpoliblfgioocaa
