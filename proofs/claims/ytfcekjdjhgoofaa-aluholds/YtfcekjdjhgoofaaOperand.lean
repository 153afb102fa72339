/-
  For every input AluOperand returns true, and each argument reads afterwards as it read before. No conditions. (The walk.)
-/
import Derived.Test.YtfcekjdjhgoofaaFns
namespace Go.Proofs.Ytfcekjdjhgoofaa
open Go.RowKit

/-- An instruction. -/
structure In where
  op : Int
  dst : Int
  src : Int
  off : Int
  imm : Int
def In.cells (i : In) : List Value := [.int .u8 i.op, .int .u8 i.dst, .int .u8 i.src, .int .i16 i.off, .int .i32 i.imm]
def In.v (i : In) : Value := .agg #[.int .u8 i.op, .int .u8 i.dst, .int .u8 i.src, .int .i16 i.off, .int .i32 i.imm]
def In.Ok (i : In) : Prop := 0 ≤ i.op ∧ i.op ≤ 255 ∧ 0 ≤ i.dst ∧ i.dst ≤ 255 ∧ 0 ≤ i.src ∧ i.src ≤ 255 ∧ -32768 ≤ i.off ∧ i.off ≤ 32767 ∧ -2147483648 ≤ i.imm ∧ i.imm ≤ 2147483647

def operI (i : In) (src : Int) : Int := if regB i.op then src else i.imm % 18446744073709551616
set_option maxHeartbeats 1000000 in
set_option maxRecDepth 100000 in
theorem operand_any (i : In) (src : Int) (w : World) (hi : i.Ok) :
    Calls Try.prog 14 #[.agg #[.int .u8 i.op, .int .u8 i.dst, .int .u8 i.src, .int .i16 i.off, .int .i32 i.imm], .int .u64 src] w fun e w' => e = .returned (.int .u64 (operI i src)) ∧ Touch [] w w' := by
  have hA := Blk.newA w #[.int .u8 i.op, .int .u8 i.dst, .int .u8 i.src, .int .i16 i.off, .int .i32 i.imm] i.cells 41 rfl
  have HT := toHid ((Touch.refl [] w).alloc (.cells #[.int .u8 i.op, .int .u8 i.dst, .int .u8 i.src, .int .i16 i.off, .int .i32 i.imm] 41))
  have a0 : World.cell? _ ⟨w.heap.size, 0, none⟩ = some _ := hA.cell rfl
  have a4 : World.cell? _ ⟨w.heap.size, 4, none⟩ = some _ := hA.cell rfl
  clear hA
  obtain ⟨h0, h1, _, _, _, _, _, _, h2, h3⟩ := hi
  cases hr : regB i.op
  all_goals go_enter Try.func14, Try.ntmps14
  all_goals go_wp2_with (go_at_call 26; refine (byReg_any _ _ h0 h1).mono ?_; rintro e w2 ⟨rfl, rfl⟩)
  all_goals go_ret
  all_goals refine ⟨ret_int ?_, HT.out⟩
  · simp only [operI, hr, IntKind.wrap_u64]
    rfl
  · simp only [operI, hr]
    rfl
set_option maxHeartbeats 1000000 in
set_option maxRecDepth 100000 in
theorem aluOperand_walk (i : In) (src : Int) (w : World) (hi : i.Ok) :
    Calls Try.prog 6 #[i.v, .int .u64 src] w fun e w' => e = .returned (.bool true) ∧ Touch [] w w' := by
  have hA := Blk.newA w #[.int .u8 i.op, .int .u8 i.dst, .int .u8 i.src, .int .i16 i.off, .int .i32 i.imm] i.cells 41 rfl
  have HT := toHid ((Touch.refl [] w).alloc (.cells #[.int .u8 i.op, .int .u8 i.dst, .int .u8 i.src, .int .i16 i.off, .int .i32 i.imm] 41))
  have a0 : World.cell? _ ⟨w.heap.size, 0, none⟩ = some _ := hA.cell rfl
  have a1 : World.cell? _ ⟨w.heap.size, 1, none⟩ = some _ := hA.cell rfl
  have a2 : World.cell? _ ⟨w.heap.size, 2, none⟩ = some _ := hA.cell rfl
  have a3 : World.cell? _ ⟨w.heap.size, 3, none⟩ = some _ := hA.cell rfl
  have a4 : World.cell? _ ⟨w.heap.size, 4, none⟩ = some _ := hA.cell rfl
  clear hA
  have HO := toHid (fun w => operand_any i src w hi)
  obtain ⟨h0, h1, _, _, _, _, _, _, h2, h3⟩ := hi
  simp only [In.v]
  have hb : regB i.op = decide (i.op / 8 % 2 = 1) := rfl
  cases hr : regB i.op
  · rw [hr] at hb
    have hb' : i.op / 8 % 2 = 0 := by simp at hb; omega
    clear hb
    by_cases hn : i.imm < 0
    all_goals go_enter Try.func6, Try.ntmps6
    all_goals go_wp2_with (first | (go_at_call 8; refine (first_any _).mono ?_; rintro e w2 ⟨rfl, rfl⟩) | fail)
    all_goals refine (HO.out _).mono ?_
    all_goals rintro e w2 ⟨rfl, ht⟩
    all_goals go_wp2
    all_goals go_ret
    all_goals refine ⟨ret_bool ?_, HT.out.trans ht (by simp)⟩
    all_goals simp only [operI, hr, beq_iff_eq, Bool.false_eq_true, ↓reduceIte]
    all_goals omega
  · rw [hr] at hb
    have hb' : i.op / 8 % 2 = 1 := by simp at hb; omega
    clear hb
    go_enter Try.func6, Try.ntmps6
    go_wp2_with (first | (go_at_call 8; refine (first_any _).mono ?_; rintro e w2 ⟨rfl, rfl⟩) | fail)
    refine (HO.out _).mono ?_
    rintro e w2 ⟨rfl, ht⟩
    go_wp2
    go_ret
    refine ⟨ret_bool ?_, HT.out.trans ht (by simp)⟩
    simp only [operI, hr, beq_iff_eq, ↓reduceIte]
end Go.Proofs.Ytfcekjdjhgoofaa
