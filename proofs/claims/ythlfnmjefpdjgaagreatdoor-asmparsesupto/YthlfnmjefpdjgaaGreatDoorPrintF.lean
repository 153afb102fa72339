/-
  What field.print answers: one word of a line.
-/
import Derived.Test.YthlfnmjefpdjgaaGreatDoorNameOf
namespace Go.Proofs.YthlfnmjefpdjgaaGreatDoor
open Go.RowKit

/-- One slot in memory. -/
structure InC (w : World) (b o : Nat) (i : In) : Prop where
  c0 : w.cell? ⟨b, o, none⟩ = some (.int .u8 i.op)
  c1 : w.cell? ⟨b, o + 1, none⟩ = some (.int .u8 i.dst)
  c2 : w.cell? ⟨b, o + 2, none⟩ = some (.int .u8 i.src)
  c3 : w.cell? ⟨b, o + 3, none⟩ = some (.int .i16 i.off)
  c4 : w.cell? ⟨b, o + 4, none⟩ = some (.int .i32 i.imm)
theorem InC.touch {S : List Nat} {w w' : World} {b o : Nat} {i : In} (h : InC w b o i) (ht : Touch S w w') (hb : b ∉ S) : InC w' b o i :=
  ⟨ht.cell h.c0 hb, ht.cell h.c1 hb, ht.cell h.c2 hb, ht.cell h.c3 hb, ht.cell h.c4 hb⟩

def regT (r : Int) : Bs := 114 :: Lib.decDigits r.toNat
/-- One word of a plain instruction's line. -/
def printF (f : Nat) (i nx : In) : Bs := if f = 0 then regT i.dst else if f = 1 then regT i.src else if f = 2 then (if regB i.op = true then regT i.src else Lib.itoa i.imm) else if f = 3 then Lib.itoa i.off else
  if f = 4 then Lib.itoa i.imm else Lib.decDigits (longI i nx).toNat

set_option maxHeartbeats 400000 in
theorem reg_print (r : Int) (h0 : 0 ≤ r) (h1 : r ≤ 10) (w : World) :
    Calls Tryz.prog 60 #[.int .u8 r] w fun e w' => e = .returned (.string ⟨(regT r).toArray⟩) ∧ w' = w := by
  obtain ⟨n, rfl⟩ := Int.eq_ofNat_of_zero_le h0
  have hl : (Lib.decDigits n).length ≤ 2 := by
    rw [Lib.decDigits_length]
    rcases (by omega : n < 10 ∨ n = 10) with h | rfl
    · rw [Lib.nDigits_small h]; omega
    · rw [Lib.nDigits_big (by omega), Lib.nDigits_small (by omega)]; omega
  have hsl : ¬ 9223372036854775807 < 1 + (Lib.decDigits n).length := by omega
  go_enter Tryz.func60, Tryz.ntmps60
  go_wp2_with (go_at_call 73; refine (Tryz.strconv_Itoa_small n (by omega) _).mono ?_; rintro e w1 ⟨rfl, rfl⟩)
  go_ret
  exact ⟨congrArg (fun b => Ending.returned (.string b)) (ba_append [114] (Lib.decDigits n)), rfl⟩
set_option maxHeartbeats 400000 in
theorem number_print (v : Int) (h0 : -9223372036854775808 ≤ v) (h1 : v ≤ 9223372036854775807) (w : World) (hE : Env w) :
    Calls Tryz.prog 61 #[.int .i64 v] w fun e w' => e = .returned (.string ⟨(Lib.itoa v).toArray⟩) ∧ Touch [] w w' := by
  go_enter Tryz.func61, Tryz.ntmps61
  go_wp2_with fail
  refine (formatInt_any v h0 h1 w hE).mono ?_
  rintro e w1 ⟨rfl, ht⟩
  go_wp2
  go_ret
  exact ⟨rfl, ht⟩

set_option maxHeartbeats 4000000 in
theorem print_0 (b off n c : Nat) (i : In) (w : World) (_hE : Env w) (hn : 1 ≤ n) (hi : InC w b off i) (ok : i.Ok) (hr : i.dst ≤ 10) :
    Calls Tryz.prog 32 #[.int .i64 0, .slice (some ⟨b, off, none⟩) n c] w fun e w' => e = .returned (.string ⟨(regT i.dst).toArray⟩) ∧ Touch [] w w' := by
  obtain ⟨c0, c1, c2, c3, c4⟩ := hi
  have hn0 : (0 : Int) < (n : Int) := by omega
  have q0 := ok.op0
  have q1 := ok.op1
  go_enter Tryz.func32, Tryz.ntmps32
  go_wp2_with (go_at_call 60; refine (reg_print i.dst ok.dst0 hr _).mono ?_; rintro e w1 ⟨rfl, rfl⟩)
  go_ret
  exact ⟨rfl, (Touch.refl _ w).alloc _⟩

set_option maxHeartbeats 4000000 in
theorem print_1 (b off n c : Nat) (i : In) (w : World) (_hE : Env w) (hn : 1 ≤ n) (hi : InC w b off i) (ok : i.Ok) (hr : i.src ≤ 10) :
    Calls Tryz.prog 32 #[.int .i64 1, .slice (some ⟨b, off, none⟩) n c] w fun e w' => e = .returned (.string ⟨(regT i.src).toArray⟩) ∧ Touch [] w w' := by
  obtain ⟨c0, c1, c2, c3, c4⟩ := hi
  have hn0 : (0 : Int) < (n : Int) := by omega
  have q0 := ok.op0
  have q1 := ok.op1
  go_enter Tryz.func32, Tryz.ntmps32
  go_wp2_with (go_at_call 60; refine (reg_print i.src ok.src0 hr _).mono ?_; rintro e w1 ⟨rfl, rfl⟩)
  go_ret
  exact ⟨rfl, (Touch.refl _ w).alloc _⟩

set_option maxHeartbeats 4000000 in
theorem print_3 (b off n c : Nat) (i : In) (w : World) (hE : Env w) (hn : 1 ≤ n) (hi : InC w b off i) (ok : i.Ok) :
    Calls Tryz.prog 32 #[.int .i64 3, .slice (some ⟨b, off, none⟩) n c] w fun e w' => e = .returned (.string ⟨(Lib.itoa i.off).toArray⟩) ∧ Touch [] w w' := by
  obtain ⟨c0, c1, c2, c3, c4⟩ := hi
  have hn0 : (0 : Int) < (n : Int) := by omega
  have q0 := ok.op0
  have q1 := ok.op1
  have i0 := ok.off0
  have i1 := ok.off1
  have hwr : IntKind.i64.wrap i.off = i.off := by rw [IntKind.wrap_i64]; omega
  go_enter Tryz.func32, Tryz.ntmps32
  go_wp2_with fail
  refine (number_print i.off (by omega) (by omega) _ (hE.touch0 ((Touch.refl [] w).alloc (.cells #[.int .u8 i.op, .int .u8 i.dst, .int .u8 i.src, .int .i16 i.off, .int .i32 i.imm] 41)))).mono ?_
  rintro e w1 ⟨rfl, ht⟩
  go_wp2
  go_ret
  exact ⟨rfl, ((Touch.refl _ w).alloc _).trans ht (by simp)⟩

set_option maxHeartbeats 4000000 in
theorem print_4 (b off n c : Nat) (i : In) (w : World) (hE : Env w) (hn : 1 ≤ n) (hi : InC w b off i) (ok : i.Ok) :
    Calls Tryz.prog 32 #[.int .i64 4, .slice (some ⟨b, off, none⟩) n c] w fun e w' => e = .returned (.string ⟨(Lib.itoa i.imm).toArray⟩) ∧ Touch [] w w' := by
  obtain ⟨c0, c1, c2, c3, c4⟩ := hi
  have hn0 : (0 : Int) < (n : Int) := by omega
  have q0 := ok.op0
  have q1 := ok.op1
  have i0 := ok.imm0
  have i1 := ok.imm1
  have hwr : IntKind.i64.wrap i.imm = i.imm := by rw [IntKind.wrap_i64]; omega
  go_enter Tryz.func32, Tryz.ntmps32
  go_wp2_with fail
  refine (number_print i.imm (by omega) (by omega) _ (hE.touch0 ((Touch.refl [] w).alloc (.cells #[.int .u8 i.op, .int .u8 i.dst, .int .u8 i.src, .int .i16 i.off, .int .i32 i.imm] 41)))).mono ?_
  rintro e w1 ⟨rfl, ht⟩
  go_wp2
  go_ret
  exact ⟨rfl, ((Touch.refl _ w).alloc _).trans ht (by simp)⟩

set_option maxHeartbeats 4000000 in
theorem print_2r (b off n c : Nat) (i : In) (w : World) (_hE : Env w) (hn : 1 ≤ n) (hi : InC w b off i) (ok : i.Ok) (hr : i.src ≤ 10) (hb : regB i.op = true) :
    Calls Tryz.prog 32 #[.int .i64 2, .slice (some ⟨b, off, none⟩) n c] w fun e w' => e = .returned (.string ⟨(regT i.src).toArray⟩) ∧ Touch [] w w' := by
  obtain ⟨c0, c1, c2, c3, c4⟩ := hi
  have hn0 : (0 : Int) < (n : Int) := by omega
  have q0 := ok.op0
  have q1 := ok.op1
  go_enter Tryz.func32, Tryz.ntmps32
  go_wp2_with (first | (go_at_call 48; refine (byReg_any i.op _ q0 q1).mono ?_; rintro e w1 ⟨rfl, rfl⟩) | (go_at_call 60; refine (reg_print i.src ok.src0 hr _).mono ?_; rintro e w1 ⟨rfl, rfl⟩))
  go_ret
  exact ⟨rfl, (Touch.refl _ w).alloc _⟩

set_option maxHeartbeats 4000000 in
theorem print_2i (b off n c : Nat) (i : In) (w : World) (hE : Env w) (hn : 1 ≤ n) (hi : InC w b off i) (ok : i.Ok) (hb : regB i.op = false) :
    Calls Tryz.prog 32 #[.int .i64 2, .slice (some ⟨b, off, none⟩) n c] w fun e w' => e = .returned (.string ⟨(Lib.itoa i.imm).toArray⟩) ∧ Touch [] w w' := by
  obtain ⟨c0, c1, c2, c3, c4⟩ := hi
  have hn0 : (0 : Int) < (n : Int) := by omega
  have q0 := ok.op0
  have q1 := ok.op1
  have i0 := ok.imm0
  have i1 := ok.imm1
  have hwr : IntKind.i64.wrap i.imm = i.imm := by rw [IntKind.wrap_i64]; omega
  go_enter Tryz.func32, Tryz.ntmps32
  go_wp2_with (first | (go_at_call 48; refine (byReg_any i.op _ q0 q1).mono ?_; rintro e w1 ⟨rfl, rfl⟩) | fail)
  refine (number_print i.imm (by omega) (by omega) _ (hE.touch0 ((Touch.refl [] w).alloc (.cells #[.int .u8 i.op, .int .u8 i.dst, .int .u8 i.src, .int .i16 i.off, .int .i32 i.imm] 41)))).mono ?_
  rintro e w1 ⟨rfl, ht⟩
  go_wp2
  go_ret
  exact ⟨rfl, ((Touch.refl _ w).alloc _).trans ht (by simp)⟩

set_option maxHeartbeats 4000000 in
theorem print_5 (b off n c : Nat) (i nx : In) (w : World) (hE : Env w) (hn : 2 ≤ n) (hi : InC w b off i) (hx : InC w b (off + 5) nx) (_hbw : b < w.heap.size) :
    Calls Tryz.prog 32 #[.int .i64 5, .slice (some ⟨b, off, none⟩) n c] w fun e w' => e = .returned (.string ⟨(Lib.decDigits (longI i nx).toNat).toArray⟩) ∧ Touch [] w w' := by
  obtain ⟨c0, c1, c2, c3, c4⟩ := hi
  have hA := Blk.newA w #[.int .u8 i.op, .int .u8 i.dst, .int .u8 i.src, .int .i16 i.off, .int .i32 i.imm] i.cells 41 rfl
  have htA := (Touch.refl [] w).alloc (.cells #[.int .u8 i.op, .int .u8 i.dst, .int .u8 i.src, .int .i16 i.off, .int .i32 i.imm] 41)
  have hx2 := hx.touch htA (by simp)
  have a0 := hA.cell (i := 0) (v := .int .u8 i.op) rfl
  have a1 := hA.cell (i := 1) (v := .int .u8 i.dst) rfl
  have a2 := hA.cell (i := 2) (v := .int .u8 i.src) rfl
  have a3 := hA.cell (i := 3) (v := .int .i16 i.off) rfl
  have a4 := hA.cell (i := 4) (v := .int .i32 i.imm) rfl
  obtain ⟨d0, d1, d2, d3, d4⟩ := hx2
  have hn0 : (0 : Int) < (n : Int) := by omega
  have hn1 : (1 : Int) < (n : Int) := by omega
  have hl0 : 0 ≤ longI i nx := by unfold longI; omega
  have hl1 : longI i nx < 18446744073709551616 := by unfold longI; omega
  go_enter Tryz.func32, Tryz.ntmps32
  have hEA := hE.touch0 htA
  have HTA := toHid htA
  clear hA htA hx
  go_wp2_with fail
  clear c0 c1 c2 c3 c4 hE
  generalize w.alloc (.cells #[.int .u8 i.op, .int .u8 i.dst, .int .u8 i.src, .int .i16 i.off, .int .i32 i.imm] 41) = W at *
  refine wp_region_held_drew (S := (fun w' => (w'.cell? ⟨w.heap.size, 0, none⟩ = some (.int .u8 i.op) ∧ w'.cell? ⟨w.heap.size, 1, none⟩ = some (.int .u8 i.dst) ∧ w'.cell? ⟨w.heap.size, 2, none⟩ = some (.int .u8 i.src) ∧ w'.cell? ⟨w.heap.size, 3, none⟩ = some (.int .i16 i.off) ∧ w'.cell? ⟨w.heap.size, 4, none⟩ = some (.int .i32 i.imm)) ∧ (w'.cell? ⟨b, off + 5, none⟩ = some (.int .u8 nx.op) ∧ w'.cell? ⟨b, off + 5 + 1, none⟩ = some (.int .u8 nx.dst) ∧ w'.cell? ⟨b, off + 5 + 2, none⟩ = some (.int .u8 nx.src) ∧ w'.cell? ⟨b, off + 5 + 3, none⟩ = some (.int .i16 nx.off) ∧ w'.cell? ⟨b, off + 5 + 4, none⟩ = some (.int .i32 nx.imm)))) (by kernel_rfl) ?_ (fun hHeld => ?_)
  · exact ⟨⟨a0, a1, a2, a3, a4⟩, ⟨d0, d1, d2, d3, d4⟩⟩
  refine wpAnyH_take (i := 0) (v := ?_) rfl (by kernel_rfl) (by kernel_rfl) (by kernel_rfl) (fun _ _ _ h => h) (Or.inl ⟨by rfl, ?_⟩) (by assumption) ?_
  rotate_left
  · (intro w hSw; (try dsimp only at hSw); go_simp; try with_reducible rfl)
  simp only [Act.put, List.getElem_toArray, List.getElem_cons_zero, List.setIfInBounds_toArray, List.set_cons_zero, List.set_cons_succ]
  refine wpAnyH_take (i := 1) (v := ?_) rfl (by kernel_rfl) (by kernel_rfl) (by kernel_rfl) (fun _ _ _ h => h) (Or.inl ⟨by rfl, ?_⟩) (by assumption) ?_
  rotate_left
  · (intro w hSw; (try dsimp only at hSw); go_simp; try with_reducible rfl)
  simp only [Act.put, List.getElem_toArray, List.getElem_cons_zero, List.getElem_cons_succ, List.setIfInBounds_toArray, List.set_cons_zero, List.set_cons_succ]
  refine wpAnyH_take (i := 2) (v := ?_) rfl (by kernel_rfl) (by kernel_rfl) (by kernel_rfl) (fun _ _ _ h => h) (Or.inl ⟨by rfl, ?_⟩) (by assumption) ?_
  rotate_left
  · (intro w hSw; (try dsimp only at hSw); go_simp; try with_reducible rfl)
  simp only [Act.put, List.getElem_toArray, List.getElem_cons_zero, List.getElem_cons_succ, List.setIfInBounds_toArray, List.set_cons_zero, List.set_cons_succ]
  refine wpAnyH_take (i := 3) (v := ?_) rfl (by kernel_rfl) (by kernel_rfl) (by kernel_rfl) (fun _ _ _ h => h) (Or.inl ⟨by rfl, ?_⟩) (by assumption) ?_
  rotate_left
  · (intro w hSw; (try dsimp only at hSw); go_simp; try with_reducible rfl)
  simp only [Act.put, List.getElem_toArray, List.getElem_cons_zero, List.getElem_cons_succ, List.setIfInBounds_toArray, List.set_cons_zero, List.set_cons_succ]
  refine wpAnyH_ready (rs := [4]) (by kernel_rfl) (by simp) ?_
  refine AllReadyH.cons rfl (fun K hK => ?_) AllReadyH.nil
  simp only [List.getElem_toArray, List.getElem_cons_zero, List.getElem_cons_succ]
  go_simp
  refine (long_any i nx W.drew).mono ?_; rintro e w1 ⟨rfl, ht1⟩
  go_wp2_with fail
  refine hK.out _ _ ?_ (fun hHeld => ?_)
  · exact ⟨⟨ht1.cell (w := W.drew) a0 (by simp), ht1.cell (w := W.drew) a1 (by simp), ht1.cell (w := W.drew) a2 (by simp), ht1.cell (w := W.drew) a3 (by simp), ht1.cell (w := W.drew) a4 (by simp)⟩, ht1.cell (w := W.drew) d0 (by simp), ht1.cell (w := W.drew) d1 (by simp), ht1.cell (w := W.drew) d2 (by simp), ht1.cell (w := W.drew) d3 (by simp), ht1.cell (w := W.drew) d4 (by simp)⟩
  clear hK K
  try simp only [Act.put, List.getElem_toArray, List.getElem_cons_zero, List.getElem_cons_succ, List.setIfInBounds_toArray, List.set_cons_zero, List.set_cons_succ]
  refine wpAnyH_ready (rs := [5]) (by kernel_rfl) (by simp) ?_
  refine AllReadyH.cons rfl (fun K hK => ?_) AllReadyH.nil
  simp only [List.getElem_toArray, List.getElem_cons_zero, List.getElem_cons_succ]
  go_simp
  rw [show longI i nx = ((longI i nx).toNat : Int) from (Int.toNat_of_nonneg hl0).symm]; refine (formatUint_any (longI i nx).toNat (by omega) w1 (hEA.touch0 ((Touch.refl [] W).drew.trans ht1 (by simp)))).mono ?_; rintro e w2 ⟨rfl, ht2⟩
  go_wp2_with fail
  refine hK.out _ _ ?_ (fun hHeld => ?_)
  · exact ⟨⟨ht2.cell hHeld.1.1 (by simp), ht2.cell hHeld.1.2.1 (by simp), ht2.cell hHeld.1.2.2.1 (by simp), ht2.cell hHeld.1.2.2.2.1 (by simp), ht2.cell hHeld.1.2.2.2.2 (by simp)⟩, ht2.cell hHeld.2.1 (by simp), ht2.cell hHeld.2.2.1 (by simp), ht2.cell hHeld.2.2.2.1 (by simp), ht2.cell hHeld.2.2.2.2.1 (by simp), ht2.cell hHeld.2.2.2.2.2 (by simp)⟩
  clear hK K
  try simp only [Act.put, List.getElem_toArray, List.getElem_cons_zero, List.getElem_cons_succ, List.setIfInBounds_toArray, List.set_cons_zero, List.set_cons_succ]
  refine wpAnyH_ready (rs := [6]) (by kernel_rfl) (by simp) ?_
  refine AllReadyH.cons rfl (fun K hK => ?_) AllReadyH.nil
  simp only [List.getElem_toArray, List.getElem_cons_zero, List.getElem_cons_succ]
  go_simp
  refine hK.out _ _ ?_ (fun hHeld => ?_)
  · exact hHeld
  clear hK K
  try simp only [Act.put, List.getElem_toArray, List.getElem_cons_zero, List.getElem_cons_succ, List.setIfInBounds_toArray, List.set_cons_zero, List.set_cons_succ]
  refine wpAnyH_done (by kernel_rfl) ?_ _
  go_wp2
  go_ret
  exact ⟨rfl, ((show Touch [] w W from HTA).drew.trans ht1 (by simp)).trans ht2 (by simp)⟩
end Go.Proofs.YthlfnmjefpdjgaaGreatDoor
