/-
  What field.parse answers: one word put into an instruction.
-/
import Derived.Test.YthlfnmjefpdjgaaGreatDoorFlds
import Derived.Test.YthlfnmjefpdjgaaGreatDoorLong
namespace Go.Proofs.YthlfnmjefpdjgaaGreatDoor
open Go.RowKit

def orR (op : Int) : Int := if op / 8 % 2 = 1 then op else op + 8
theorem orR_all : ∀ x : Fin 256, bits .or .u8 (x.val : Int) 8 = orR x.val := by decide +kernel
theorem orR_bits (x : Int) (h0 : 0 ≤ x) (h1 : x ≤ 255) : bits .or .u8 x 8 = orR x := by
  obtain ⟨n, rfl⟩ := Int.eq_ofNat_of_zero_le h0
  exact orR_all ⟨n, by omega⟩
/-- The instruction with what that field's word says. -/
def stepI (f : Nat) (x : Bs) (i : In) : In := if f = 0 then { i with dst := ((regP x).getD 0 : Nat) } else if f = 1 then { i with src := ((regP x).getD 0 : Nat) } else
  if f = 2 then (if Lib.hasPrefix x [114] = true then { i with op := orR i.op, src := ((regP x).getD 0 : Nat) } else { i with imm := (sgnP 32 x).getD 0 }) else
  if f = 3 then { i with off := (sgnP 16 x).getD 0 } else { i with imm := (sgnP 32 x).getD 0 }
/-- Is the word none that may stand there? -/
def stepB (f : Nat) (x : Bs) : Bool := if f = 0 then (regP x).isNone else if f = 1 then (regP x).isNone else
  if f = 2 then (if Lib.hasPrefix x [114] = true then (regP x).isNone else (sgnP 32 x).isNone) else if f = 3 then (sgnP 16 x).isNone else if f = 4 then (sgnP 32 x).isNone else (natP x).isNone
theorem sgn32_wrap (x : Bs) : IntKind.i32.wrap ((sgnP 32 x).getD 0) = (sgnP 32 x).getD 0 := by
  cases h : sgnP 32 x with
  | none => rfl
  | some v =>
    have := (sgnP_iff 32 (by omega) (by omega) x v).1 h
    have e : (2 : Nat) ^ (32 - 1) = 2147483648 := by decide
    rw [e] at this
    simp only [Option.getD_some, IntKind.wrap_i32]
    omega
theorem sgn16_wrap (x : Bs) : IntKind.i16.wrap ((sgnP 16 x).getD 0) = (sgnP 16 x).getD 0 := by
  cases h : sgnP 16 x with
  | none => rfl
  | some v =>
    have := (sgnP_iff 16 (by omega) (by omega) x v).1 h
    have e : (2 : Nat) ^ (16 - 1) = 32768 := by decide
    rw [e] at this
    simp [IntKind.wrap, IntKind.bits, IntKind.signed]
    omega
/-- What one word behind the name leaves. -/
def StepPost (w : World) (sb wb : Nat) (i : In) (ws : List Bs) (bad : Bool) (e : Ending) (w' : World) : Prop :=
  e = .returned (.slice (some ⟨sb, 0, none⟩) 1 1) ∧ Blk w' sb i.cells 41 ∧ WS w' wb ws bad ∧ Touch [sb, wb] w w'

theorem store_in {w : World} {sb : Nat} {i : In} (h : Blk w sb i.cells 41) : ∀ r, w.frozen? ⟨sb, r, none⟩ = false := fun r => h.frozen r

set_option maxHeartbeats 4000000 in
theorem parse_dst (sb wb : Nat) (i : In) (ws : List Bs) (bad : Bool) (w : World) (hE : Env w) (hi : Blk w sb i.cells 41) (hW : WS w wb ws bad) (hne : sb ≠ wb) :
    Calls Tryz.prog 42 #[.int .i64 0, .slice (some ⟨sb, 0, none⟩) 1 1, .pointer (some ⟨wb, 0, none⟩)] w (StepPost w sb wb (stepI 0 (hd ws) i) (tl ws) (bad || stepB 0 (hd ws))) := by
  have HR := toHid (reg_any wb ws bad w hE hW)
  go_enter Tryz.func42, Tryz.ntmps42
  go_wp2_with fail
  refine Calls.mono HR ?_
  rintro e w1 ⟨rfl, hW1, ht1⟩
  have hi1 := ht1.blk hi (by simpa using hne)
  have c1 := hi1.cell (i := 1) (v := .int .u8 i.dst) rfl
  have f1 := hi1.frozen 1
  go_wp2
  go_ret
  exact ⟨rfl, hi1.setCell 1 _, hW1.touch ((Touch.refl [sb] w1).setCell _ _ (Or.inl (by simp))) (by simpa using hne.symm), (ht1.mono (by simp)).setCell _ _ (Or.inl (by simp))⟩

set_option maxHeartbeats 4000000 in
theorem parse_src (sb wb : Nat) (i : In) (ws : List Bs) (bad : Bool) (w : World) (hE : Env w) (hi : Blk w sb i.cells 41) (hW : WS w wb ws bad) (hne : sb ≠ wb) :
    Calls Tryz.prog 42 #[.int .i64 1, .slice (some ⟨sb, 0, none⟩) 1 1, .pointer (some ⟨wb, 0, none⟩)] w (StepPost w sb wb (stepI 1 (hd ws) i) (tl ws) (bad || stepB 1 (hd ws))) := by
  have HR := toHid (reg_any wb ws bad w hE hW)
  go_enter Tryz.func42, Tryz.ntmps42
  go_wp2_with fail
  refine Calls.mono HR ?_
  rintro e w1 ⟨rfl, hW1, ht1⟩
  have hi1 := ht1.blk hi (by simpa using hne)
  have c1 := hi1.cell (i := 2) (v := .int .u8 i.src) rfl
  have f1 := hi1.frozen 2
  go_wp2
  go_ret
  exact ⟨rfl, hi1.setCell 2 _, hW1.touch ((Touch.refl [sb] w1).setCell _ _ (Or.inl (by simp))) (by simpa using hne.symm), (ht1.mono (by simp)).setCell _ _ (Or.inl (by simp))⟩

set_option maxHeartbeats 4000000 in
theorem parse_off (sb wb : Nat) (i : In) (ws : List Bs) (bad : Bool) (w : World) (hE : Env w) (hi : Blk w sb i.cells 41) (hW : WS w wb ws bad) (hne : sb ≠ wb) :
    Calls Tryz.prog 42 #[.int .i64 3, .slice (some ⟨sb, 0, none⟩) 1 1, .pointer (some ⟨wb, 0, none⟩)] w (StepPost w sb wb (stepI 3 (hd ws) i) (tl ws) (bad || stepB 3 (hd ws))) := by
  have HR := toHid (signed16 wb ws bad w hE hW)
  have hwr := sgn16_wrap (hd ws)
  go_enter Tryz.func42, Tryz.ntmps42
  go_wp2_with fail
  refine Calls.mono HR ?_
  rintro e w1 ⟨rfl, hW1, ht1⟩
  have hi1 := ht1.blk hi (by simpa using hne)
  have c1 := hi1.cell (i := 3) (v := .int .i16 i.off) rfl
  have f1 := hi1.frozen 3
  go_wp2
  go_ret
  exact ⟨rfl, hi1.setCell 3 _, hW1.touch ((Touch.refl [sb] w1).setCell _ _ (Or.inl (by simp))) (by simpa using hne.symm), (ht1.mono (by simp)).setCell _ _ (Or.inl (by simp))⟩

set_option maxHeartbeats 4000000 in
theorem parse_imm (sb wb : Nat) (i : In) (ws : List Bs) (bad : Bool) (w : World) (hE : Env w) (hi : Blk w sb i.cells 41) (hW : WS w wb ws bad) (hne : sb ≠ wb) :
    Calls Tryz.prog 42 #[.int .i64 4, .slice (some ⟨sb, 0, none⟩) 1 1, .pointer (some ⟨wb, 0, none⟩)] w (StepPost w sb wb (stepI 4 (hd ws) i) (tl ws) (bad || stepB 4 (hd ws))) := by
  have HR := toHid (signed32 wb ws bad w hE hW)
  have hwr := sgn32_wrap (hd ws)
  go_enter Tryz.func42, Tryz.ntmps42
  go_wp2_with fail
  refine Calls.mono HR ?_
  rintro e w1 ⟨rfl, hW1, ht1⟩
  have hi1 := ht1.blk hi (by simpa using hne)
  have c1 := hi1.cell (i := 4) (v := .int .i32 i.imm) rfl
  have f1 := hi1.frozen 4
  go_wp2
  go_ret
  exact ⟨rfl, hi1.setCell 4 _, hW1.touch ((Touch.refl [sb] w1).setCell _ _ (Or.inl (by simp))) (by simpa using hne.symm), (ht1.mono (by simp)).setCell _ _ (Or.inl (by simp))⟩

set_option maxHeartbeats 4000000 in
theorem parse_operand (sb wb : Nat) (i : In) (ws : List Bs) (bad : Bool) (w : World) (hE : Env w) (hi : Blk w sb i.cells 41) (hW : WS w wb ws bad) (hne : sb ≠ wb) (h12 : 12 ≤ sb) (q0 : 0 ≤ i.op) (q1 : i.op ≤ 255) :
    Calls Tryz.prog 42 #[.int .i64 2, .slice (some ⟨sb, 0, none⟩) 1 1, .pointer (some ⟨wb, 0, none⟩)] w (StepPost w sb wb (stepI 2 (hd ws) i) (tl ws) (bad || stepB 2 (hd ws))) := by
  have hob := orR_bits i.op q0 q1
  have hwr := sgn32_wrap (hd ws)
  have HN := toHid (regNext_any wb ws bad w hW)
  have c0 := hi.cell (i := 0) (v := .int .u8 i.op) rfl
  have f0 := hi.frozen 0
  cases hp : Lib.hasPrefix (hd ws) [114] with
  | true =>
    have HP := toHid hp
    clear hp
    go_enter Tryz.func42, Tryz.ntmps42
    go_wp2_with fail
    refine Calls.mono HN ?_
    rintro e w1 ⟨rfl, rfl⟩
    have hp : Lib.hasPrefix (hd ws) [114] = true := HP
    go_wp2_with fail
    clear hp c0 f0
    have htA : Touch [sb] w1 (w1.setCell ⟨sb, 0, none⟩ (.int .u8 (orR i.op))) := (Touch.refl [sb] w1).setCell _ _ (Or.inl (by simp))
    have hiA := hi.setCell 0 (.int .u8 (orR i.op))
    refine (reg_any wb ws bad _ (hE.touch htA (by simpa using h12)) (hW.touch htA (by simpa using hne.symm))).mono ?_
    rintro e w2 ⟨rfl, hW2, ht2⟩
    have hi2 := ht2.blk hiA (by simpa using hne)
    have HT := toHid ((htA.mono (S' := [sb, wb]) (by simp)).trans (ht2.mono (S' := [sb, wb]) (by simp)) (by simp))
    clear htA hiA ht2
    have c1 := hi2.cell (i := 2) (v := .int .u8 i.src) rfl
    have f1 := hi2.frozen 2
    go_wp2
    go_ret
    have hp : Lib.hasPrefix (hd ws) [114] = true := HP
    refine ⟨rfl, ?_, ?_, (show Touch _ _ _ from HT).setCell _ _ (Or.inl (by simp))⟩
    · have := hi2.setCell 2 (.int .u8 ((regP (hd ws)).getD 0 : Nat))
      simpa [stepI, hp, In.cells] using this
    · have := hW2.touch ((Touch.refl [sb] w2).setCell ⟨sb, 2, none⟩ (.int .u8 ((regP (hd ws)).getD 0 : Nat)) (Or.inl (by simp))) (by simpa using hne.symm)
      simpa [stepB, hp] using this
  | false =>
    have HP := toHid hp
    clear hp
    go_enter Tryz.func42, Tryz.ntmps42
    go_wp2_with fail
    refine Calls.mono HN ?_
    rintro e w1 ⟨rfl, rfl⟩
    have hp : Lib.hasPrefix (hd ws) [114] = false := HP
    go_wp2_with fail
    clear hp c0 f0
    refine (signed32 wb ws bad _ hE hW).mono ?_
    rintro e w2 ⟨rfl, hW2, ht2⟩
    have hi2 := ht2.blk hi (by simpa using hne)
    have c1 := hi2.cell (i := 4) (v := .int .i32 i.imm) rfl
    have f1 := hi2.frozen 4
    go_wp2
    go_ret
    have hp : Lib.hasPrefix (hd ws) [114] = false := HP
    refine ⟨rfl, ?_, ?_, (ht2.mono (by simp)).setCell _ _ (Or.inl (by simp))⟩
    · have := hi2.setCell 4 (.int .i32 ((sgnP 32 (hd ws)).getD 0))
      simpa [stepI, hp, In.cells] using this
    · have := hW2.touch ((Touch.refl [sb] w2).setCell ⟨sb, 4, none⟩ (.int .i32 ((sgnP 32 (hd ws)).getD 0)) (Or.inl (by simp))) (by simpa using hne.symm)
      simpa [stepB, hp] using this

set_option maxHeartbeats 4000000 in
theorem parse_long (sb wb : Nat) (i : In) (ws : List Bs) (bad : Bool) (w : World) (hE : Env w) (hi : Blk w sb i.cells 41) (hW : WS w wb ws bad) (hne : sb ≠ wb) :
    Calls Tryz.prog 42 #[.int .i64 5, .slice (some ⟨sb, 0, none⟩) 1 1, .pointer (some ⟨wb, 0, none⟩)] w fun e w' =>
      (∃ N, e = .returned (.slice (some ⟨N, 0, none⟩) 2 2) ∧ w.heap.size ≤ N ∧ Blk w' N ((splitOf i.dst i.src ((natP (hd ws)).getD 0 : Nat)).flatMap In.cells) 41) ∧ WS w' wb (tl ws) (bad || stepB 5 (hd ws)) ∧ Touch [wb] w w' := by
  have HR := toHid (unsigned_any wb ws bad w.drew (hE.touch0 (Touch.refl [] w).drew) (hW.touch (Touch.refl [] w).drew (by simp)))
  have c1 := hi.cell (i := 1) (v := .int .u8 i.dst) rfl
  have c2 := hi.cell (i := 2) (v := .int .u8 i.src) rfl
  go_enter Tryz.func42, Tryz.ntmps42
  go_wp2_with fail
  refine wp_region_held_drew (S := (fun w' => w'.cell? ⟨sb, 1, none⟩ = some (.int .u8 i.dst) ∧ w'.cell? ⟨sb, 2, none⟩ = some (.int .u8 i.src))) (by kernel_rfl) ?_ (fun hHeld => ?_)
  · exact ⟨c1, c2⟩
  refine wpAnyH_take (i := 0) (v := ?_) rfl (by kernel_rfl) (by kernel_rfl) (by kernel_rfl) (fun _ _ _ h => h) (Or.inl ⟨by rfl, ?_⟩) (by assumption) ?_
  rotate_left
  · (intro w hSw; (try dsimp only at hSw); go_simp; try with_reducible rfl)
  simp only [Act.put, List.getElem_toArray, List.getElem_cons_zero, List.setIfInBounds_toArray, List.set_cons_zero, List.set_cons_succ]
  refine wpAnyH_take (i := 1) (v := ?_) rfl (by kernel_rfl) (by kernel_rfl) (by kernel_rfl) (fun _ _ _ h => h) (Or.inl ⟨by rfl, ?_⟩) (by assumption) ?_
  rotate_left
  · (intro w hSw; (try dsimp only at hSw); go_simp; try with_reducible rfl)
  simp only [Act.put, List.getElem_toArray, List.getElem_cons_zero, List.getElem_cons_succ, List.setIfInBounds_toArray, List.set_cons_zero, List.set_cons_succ]
  refine wpAnyH_take (i := 2) (v := ?_) rfl (by kernel_rfl) (by kernel_rfl) (by kernel_rfl) (fun _ _ _ h => h) (Or.inl ⟨by rfl, ?_⟩) (by assumption) ?_
  rotate_left
  · (intro w hSw; (try dsimp only at hSw); go_simp; try with_reducible rfl)
  simp only [Act.put, List.getElem_toArray, List.getElem_cons_zero, List.getElem_cons_succ, List.setIfInBounds_toArray, List.set_cons_zero, List.set_cons_succ]
  refine wpAnyH_take (i := 3) (v := ?_) rfl (by kernel_rfl) (by kernel_rfl) (by kernel_rfl) (fun _ _ _ h => h) (Or.inl ⟨by rfl, ?_⟩) (by assumption) ?_
  rotate_left
  · (intro w hSw; (try dsimp only at hSw); go_simp; try with_reducible rfl)
  simp only [Act.put, List.getElem_toArray, List.getElem_cons_zero, List.getElem_cons_succ, List.setIfInBounds_toArray, List.set_cons_zero, List.set_cons_succ]
  refine wpAnyH_take (i := 4) (v := ?_) rfl (by kernel_rfl) (by kernel_rfl) (by kernel_rfl) (fun _ _ _ h => h) (Or.inl ⟨by rfl, ?_⟩) (by assumption) ?_
  rotate_left
  · (intro w hSw; (try dsimp only at hSw); go_simp; try with_reducible rfl)
  simp only [Act.put, List.getElem_toArray, List.getElem_cons_zero, List.getElem_cons_succ, List.setIfInBounds_toArray, List.set_cons_zero, List.set_cons_succ]
  refine wpAnyH_take (i := 5) (v := ?_) rfl (by kernel_rfl) (by kernel_rfl) (by kernel_rfl) (fun _ _ _ h => h) (Or.inl ⟨by rfl, ?_⟩) (by assumption) ?_
  rotate_left
  · (intro w hSw; (try dsimp only at hSw); go_simp; try with_reducible rfl)
  simp only [Act.put, List.getElem_toArray, List.getElem_cons_zero, List.getElem_cons_succ, List.setIfInBounds_toArray, List.set_cons_zero, List.set_cons_succ]
  refine wpAnyH_take (i := 6) (v := ?_) rfl (by kernel_rfl) (by kernel_rfl) (by kernel_rfl) (fun _ _ _ h => h) (Or.inl ⟨by rfl, ?_⟩) (by assumption) ?_
  rotate_left
  · (intro w hSw; (try dsimp only at hSw); go_simp; try with_reducible rfl)
  simp only [Act.put, List.getElem_toArray, List.getElem_cons_zero, List.getElem_cons_succ, List.setIfInBounds_toArray, List.set_cons_zero, List.set_cons_succ]
  refine wpAnyH_take (i := 7) (v := ?_) rfl (by kernel_rfl) (by kernel_rfl) (by kernel_rfl) (fun _ _ _ h => h) (Or.inl ⟨by rfl, ?_⟩) (by assumption) ?_
  rotate_left
  · (intro w hSw; (try dsimp only at hSw); go_simp; try with_reducible rfl)
  simp only [Act.put, List.getElem_toArray, List.getElem_cons_zero, List.getElem_cons_succ, List.setIfInBounds_toArray, List.set_cons_zero, List.set_cons_succ]
  refine wpAnyH_take (i := 8) (v := ?_) rfl (by kernel_rfl) (by kernel_rfl) (by kernel_rfl) (fun _ _ _ h => h) (Or.inl ⟨by rfl, ?_⟩) (by assumption) ?_
  rotate_left
  · (intro w hSw; (try dsimp only at hSw); go_simp; try with_reducible rfl)
  simp only [Act.put, List.getElem_toArray, List.getElem_cons_zero, List.getElem_cons_succ, List.setIfInBounds_toArray, List.set_cons_zero, List.set_cons_succ]
  refine wpAnyH_ready (rs := [9]) (by kernel_rfl) (by simp) ?_
  refine AllReadyH.cons rfl (fun K hK => ?_) AllReadyH.nil
  simp only [List.getElem_toArray, List.getElem_cons_zero, List.getElem_cons_succ]
  go_simp
  refine Calls.mono HR ?_; rintro e w1 ⟨rfl, hW1, ht1⟩
  go_wp2_with fail
  refine hK.out _ _ ?_ (fun hHeld => ?_)
  · exact ⟨ht1.cell (w := w.drew) c1 (by simpa using hne), ht1.cell (w := w.drew) c2 (by simpa using hne)⟩
  clear hK K
  try simp only [Act.put, List.getElem_toArray, List.getElem_cons_zero, List.getElem_cons_succ, List.setIfInBounds_toArray, List.set_cons_zero, List.set_cons_succ]
  refine wpAnyH_ready (rs := [10]) (by kernel_rfl) (by simp) ?_
  refine AllReadyH.cons rfl (fun K hK => ?_) AllReadyH.nil
  simp only [List.getElem_toArray, List.getElem_cons_zero, List.getElem_cons_succ]
  go_simp
  refine (split_any _ _ _ w1 (by omega)).mono ?_; rintro e w2 ⟨⟨N, rfl, hN, hB⟩, ht2⟩
  go_wp2_with fail
  refine hK.out _ _ ?_ (fun hHeld => ?_)
  · exact ⟨ht2.cell hHeld.1 (by simp), ht2.cell hHeld.2 (by simp)⟩
  clear hK K
  try simp only [Act.put, List.getElem_toArray, List.getElem_cons_zero, List.getElem_cons_succ, List.setIfInBounds_toArray, List.set_cons_zero, List.set_cons_succ]
  refine wpAnyH_ready (rs := [11]) (by kernel_rfl) (by simp) ?_
  refine AllReadyH.cons rfl (fun K hK => ?_) AllReadyH.nil
  simp only [List.getElem_toArray, List.getElem_cons_zero, List.getElem_cons_succ]
  go_simp
  refine hK.out _ _ ?_ (fun hHeld => ?_)
  · exact hHeld
  clear hK K
  try simp only [Act.put, List.getElem_toArray, List.getElem_cons_zero, List.getElem_cons_succ, List.setIfInBounds_toArray, List.set_cons_zero, List.set_cons_succ]
  refine wpAnyH_done (by kernel_rfl) ?_ _
  go_wp2
  go_ret
  have hs := ht1.size
  refine ⟨⟨N, rfl, Nat.le_trans hs hN, hB⟩, hW1.touch ht2 (by simp), ((Touch.refl [wb] w).drew.trans ht1 (by simp)).trans ht2 (by simp)⟩
end Go.Proofs.YthlfnmjefpdjgaaGreatDoor
