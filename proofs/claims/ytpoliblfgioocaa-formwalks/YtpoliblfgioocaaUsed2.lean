/-
  onlyUsed: an instruction without the fields that it doesn't use; maxSrc: the greatest Src.
-/
import Derived.Test.YtpoliblfgioocaaUsed
namespace Go.Proofs.Ytpoliblfgioocaa
open Go.RowKit

def aluB (op : Int) : Bool := decide (op % 8 = 4 ∨ op % 8 = 7)
set_option maxHeartbeats 400000 in
theorem isAlu_any (op : Int) (w : World) (h0 : 0 ≤ op) (h1 : op ≤ 255) :
    Calls Try.prog 54 #[.int .u8 op] w fun e w' => e = .returned (.bool (aluB op)) ∧ w' = w := by
  go_enter Try.func54, Try.ntmps54
  go_wp2_with (go_at_call 47; refine (class_any _ _ h0 h1).mono ?_; rintro e w ⟨rfl, rfl⟩)
  all_goals
    go_ret
    refine ⟨ret_bool ?_, rfl⟩
    unfold aluB
    first
      | (refine (decide_eq_true ?_).symm; omega)
      | (refine (decide_eq_false ?_).symm; omega)
      | (rw [Bool.eq_iff_iff]; simp; done)
      | (rw [Bool.eq_iff_iff]; simp; omega)

def callB (op : Int) : Bool := decide (op % 8 = 5 ∧ op / 16 = 8)
set_option maxHeartbeats 400000 in
theorem isCall_any (op : Int) (w : World) (h0 : 0 ≤ op) (h1 : op ≤ 255) :
    Calls Try.prog 58 #[.int .u8 op] w fun e w' => e = .returned (.bool (callB op)) ∧ w' = w := by
  by_cases hc : op % 8 = 5
  · go_enter Try.func58, Try.ntmps58
    go_wp2_with (first | (go_at_call 47; refine (class_any _ _ h0 h1).mono ?_; rintro e w ⟨rfl, rfl⟩) | (go_at_call 48; refine (kind_any _ _ h0 h1).mono ?_; rintro e w ⟨rfl, rfl⟩))
    go_ret
    refine ⟨ret_bool ?_, rfl⟩
    unfold callB
    rw [Bool.eq_iff_iff]
    simp
    omega
  · go_enter Try.func58, Try.ntmps58
    go_wp2_with (first | (go_at_call 47; refine (class_any _ _ h0 h1).mono ?_; rintro e w ⟨rfl, rfl⟩) | (go_at_call 48; refine (kind_any _ _ h0 h1).mono ?_; rintro e w ⟨rfl, rfl⟩))
    go_ret
    refine ⟨ret_bool ?_, rfl⟩
    unfold callB
    refine (decide_eq_false ?_).symm
    omega

def srcMax (op : Int) : Int := if wideB op = true ∨ callB op = true then 1 else 10
set_option maxHeartbeats 400000 in
theorem maxSrc_any (op : Int) (w : World) (h0 : 0 ≤ op) (h1 : op ≤ 255) :
    Calls Try.prog 39 #[.int .u8 op] w fun e w' => e = .returned (.int .u8 (srcMax op)) ∧ w' = w := by
  unfold srcMax
  cases h : wideB op <;> cases h2 : callB op
  all_goals
    go_enter Try.func39, Try.ntmps39
    go_wp2_with (first | (go_at_call 40; refine (wide_any _ _).mono ?_; rintro e w ⟨rfl, rfl⟩) | (go_at_call 58; refine (isCall_any _ _ h0 h1).mono ?_; rintro e w ⟨rfl, rfl⟩))
    go_ret
    exact ⟨by simp, rfl⟩

/-- The instruction without the fields that it doesn't use. -/
def usedOf (i : In) : In := if wideB i.op = true then ⟨i.op, i.dst, i.src, 0, i.imm⟩ else if accB i.op = true then usedAccess i else if aluB i.op = true then usedAlu i else if condB i.op = true then usedCond i else usedBare i

theorem own5 {w w1 w2 : World} {b : Nat} {t : TypeId} {cs : List Value} (h1 : Touch [] w w1) (hb : Blk w1 b cs t) (h5 : cs.length = 5) (hw : w.heap.size ≤ b) (h2 : Touch [] w1 w2) :
    (∀ r, r < 5 → ∃ v, w2.cell? ⟨b, r, none⟩ = some v) ∧ (∀ r, w2.frozen? ⟨b, r, none⟩ = false) ∧
      ∀ v0 v1 v2 v3 v4, Touch [] w (((((w2.setCell ⟨b, 0, none⟩ v0).setCell ⟨b, 1, none⟩ v1).setCell ⟨b, 2, none⟩ v2).setCell ⟨b, 3, none⟩ v3).setCell ⟨b, 4, none⟩ v4) := by
  have hb2 := h2.blk hb (by simp)
  refine ⟨fun r hr => ⟨_, hb2.cellN (by omega)⟩, hb2.frozen, fun v0 v1 v2 v3 v4 => ?_⟩
  exact (h1.trans h2 (by simp)).set5 b 0 _ _ _ _ _ (Or.inr hw)

set_option maxHeartbeats 1000000 in
theorem onlyUsed_any (i : In) (w : World) (ok : i.Ok) :
    Calls Try.prog 38 #[i.v] w fun e w' => e = .returned (usedOf i).v ∧ Touch [] w w' := by
  have q0 := ok.op0
  have q1 := ok.op1
  have H37 := fun W => toHid (usedByAccess_any i W ok)
  have H39 := fun W => toHid (usedByAlu_any i W ok)
  have H40 := fun W => toHid (usedByCond_any i W ok)
  have H41 := fun W => toHid (usedByBare_any i W ok)
  have HO : Hid (∀ w2, Touch [] ((w.alloc (.cells #[.int .u8 i.op, .int .u8 i.dst, .int .u8 i.src, .int .i16 i.off, .int .i32 i.imm] 31)).alloc (.cells #[.int .u8 0, .int .u8 0, .int .u8 0, .int .i16 0, .int .i32 0] 31)) w2 → _) :=
    fun w2 h2 => own5 (((Touch.refl [] w).alloc _).alloc _) (Blk.newA (w.alloc (.cells #[.int .u8 i.op, .int .u8 i.dst, .int .u8 i.src, .int .i16 i.off, .int .i32 i.imm] 31)) #[.int .u8 0, .int .u8 0, .int .u8 0, .int .i16 0, .int .i32 0] _ 31 rfl) rfl (by simp) h2
  simp only [World.size_alloc] at HO
  unfold usedOf
  cases hw : wideB i.op with
  | true =>
    rw [if_pos rfl]
    simp only [In.v]
    go_enter Try.func38, Try.ntmps38
    go_wp2_with (go_at_call 40; refine (wide_any _ _).mono ?_; rintro e w' ⟨rfl, rfl⟩)
    exact bodyPost_ret (v := .agg #[.int .u8 i.op, .int .u8 i.dst, .int .u8 i.src, .int .i16 0, .int .i32 i.imm]) (by simp [results, Try.results38, go_sem]) rfl ⟨rfl, ((Touch.refl _ w).alloc _).alloc _⟩
  | false =>
    rw [if_neg (by simp)]
    cases ha : accB i.op with
    | true =>
      rw [if_pos rfl]
      generalize hu : usedAccess i = u at *
      clear hu
      simp only [In.v] at *
      go_enter Try.func38, Try.ntmps38
      go_wp2_with (first | (go_at_call 40; refine (wide_any _ _).mono ?_; rintro e w' ⟨rfl, rfl⟩) | (go_at_call 52; refine (isAccess_any _ _ q0 q1).mono ?_; rintro e w' ⟨rfl, rfl⟩) | (go_at_call 54; refine (isAlu_any _ _ q0 q1).mono ?_; rintro e w' ⟨rfl, rfl⟩) | (go_at_call 50; refine (isCond_any _ _ q0 q1).mono ?_; rintro e w' ⟨rfl, rfl⟩))
      refine (H37 _).out.mono ?_
      rintro e w2 ⟨rfl, ht2⟩
      obtain ⟨hx, fz, ht⟩ := HO.out w2 ht2
      obtain ⟨x0, d0⟩ := hx 0 (by omega)
      obtain ⟨x1, d1⟩ := hx 1 (by omega)
      obtain ⟨x2, d2⟩ := hx 2 (by omega)
      obtain ⟨x3, d3⟩ := hx 3 (by omega)
      obtain ⟨x4, d4⟩ := hx 4 (by omega)
      have HT := toHid ht
      clear hx ht ht2 HO H37 H39 H40 H41
      go_wp2
      exact bodyPost_ret (v := .agg #[.int .u8 u.op, .int .u8 u.dst, .int .u8 u.src, .int .i16 u.off, .int .i32 u.imm]) (by simp [results, Try.results38, go_sem, d0, d1, d2, d3, d4]) rfl ⟨rfl, HT.out _ _ _ _ _⟩
    | false =>
      rw [if_neg (by simp)]
      cases hl : aluB i.op with
      | true =>
        rw [if_pos rfl]
        generalize hu : usedAlu i = u at *
        clear hu
        simp only [In.v] at *
        go_enter Try.func38, Try.ntmps38
        go_wp2_with (first | (go_at_call 40; refine (wide_any _ _).mono ?_; rintro e w' ⟨rfl, rfl⟩) | (go_at_call 52; refine (isAccess_any _ _ q0 q1).mono ?_; rintro e w' ⟨rfl, rfl⟩) | (go_at_call 54; refine (isAlu_any _ _ q0 q1).mono ?_; rintro e w' ⟨rfl, rfl⟩) | (go_at_call 50; refine (isCond_any _ _ q0 q1).mono ?_; rintro e w' ⟨rfl, rfl⟩))
        refine (H39 _).out.mono ?_
        rintro e w2 ⟨rfl, ht2⟩
        obtain ⟨hx, fz, ht⟩ := HO.out w2 ht2
        obtain ⟨x0, d0⟩ := hx 0 (by omega)
        obtain ⟨x1, d1⟩ := hx 1 (by omega)
        obtain ⟨x2, d2⟩ := hx 2 (by omega)
        obtain ⟨x3, d3⟩ := hx 3 (by omega)
        obtain ⟨x4, d4⟩ := hx 4 (by omega)
        have HT := toHid ht
        clear hx ht ht2 HO H37 H39 H40 H41
        go_wp2
        exact bodyPost_ret (v := .agg #[.int .u8 u.op, .int .u8 u.dst, .int .u8 u.src, .int .i16 u.off, .int .i32 u.imm]) (by simp [results, Try.results38, go_sem, d0, d1, d2, d3, d4]) rfl ⟨rfl, HT.out _ _ _ _ _⟩
      | false =>
        rw [if_neg (by simp)]
        cases hc : condB i.op with
        | true =>
          rw [if_pos rfl]
          generalize hu : usedCond i = u at *
          clear hu
          simp only [In.v] at *
          go_enter Try.func38, Try.ntmps38
          go_wp2_with (first | (go_at_call 40; refine (wide_any _ _).mono ?_; rintro e w' ⟨rfl, rfl⟩) | (go_at_call 52; refine (isAccess_any _ _ q0 q1).mono ?_; rintro e w' ⟨rfl, rfl⟩) | (go_at_call 54; refine (isAlu_any _ _ q0 q1).mono ?_; rintro e w' ⟨rfl, rfl⟩) | (go_at_call 50; refine (isCond_any _ _ q0 q1).mono ?_; rintro e w' ⟨rfl, rfl⟩))
          refine (H40 _).out.mono ?_
          rintro e w2 ⟨rfl, ht2⟩
          obtain ⟨hx, fz, ht⟩ := HO.out w2 ht2
          obtain ⟨x0, d0⟩ := hx 0 (by omega)
          obtain ⟨x1, d1⟩ := hx 1 (by omega)
          obtain ⟨x2, d2⟩ := hx 2 (by omega)
          obtain ⟨x3, d3⟩ := hx 3 (by omega)
          obtain ⟨x4, d4⟩ := hx 4 (by omega)
          have HT := toHid ht
          clear hx ht ht2 HO H37 H39 H40 H41
          go_wp2
          exact bodyPost_ret (v := .agg #[.int .u8 u.op, .int .u8 u.dst, .int .u8 u.src, .int .i16 u.off, .int .i32 u.imm]) (by simp [results, Try.results38, go_sem, d0, d1, d2, d3, d4]) rfl ⟨rfl, HT.out _ _ _ _ _⟩
        | false =>
          rw [if_neg (by simp)]
          generalize hu : usedBare i = u at *
          clear hu
          simp only [In.v] at *
          go_enter Try.func38, Try.ntmps38
          go_wp2_with (first | (go_at_call 40; refine (wide_any _ _).mono ?_; rintro e w' ⟨rfl, rfl⟩) | (go_at_call 52; refine (isAccess_any _ _ q0 q1).mono ?_; rintro e w' ⟨rfl, rfl⟩) | (go_at_call 54; refine (isAlu_any _ _ q0 q1).mono ?_; rintro e w' ⟨rfl, rfl⟩) | (go_at_call 50; refine (isCond_any _ _ q0 q1).mono ?_; rintro e w' ⟨rfl, rfl⟩))
          refine (H41 _).out.mono ?_
          rintro e w2 ⟨rfl, ht2⟩
          obtain ⟨hx, fz, ht⟩ := HO.out w2 ht2
          obtain ⟨x0, d0⟩ := hx 0 (by omega)
          obtain ⟨x1, d1⟩ := hx 1 (by omega)
          obtain ⟨x2, d2⟩ := hx 2 (by omega)
          obtain ⟨x3, d3⟩ := hx 3 (by omega)
          obtain ⟨x4, d4⟩ := hx 4 (by omega)
          have HT := toHid ht
          clear hx ht ht2 HO H37 H39 H40 H41
          go_wp2
          exact bodyPost_ret (v := .agg #[.int .u8 u.op, .int .u8 u.dst, .int .u8 u.src, .int .i16 u.off, .int .i32 u.imm]) (by simp [results, Try.results38, go_sem, d0, d1, d2, d3, d4]) rfl ⟨rfl, HT.out _ _ _ _ _⟩
end Go.Proofs.Ytpoliblfgioocaa
