/-
  target: where an instruction leads.
-/
import Derived.Test.YtpoliblfgioocaaStarts
namespace Go.Proofs.Ytpoliblfgioocaa
open Go.RowKit

def tgtV : Option Nat → Value
  | none => .tuple #[.int .i64 0, .bool false]
  | some t => .tuple #[.int .i64 (t : Int), .bool true]
def TgtPost (w : World) (r : Option Nat) (e : Ending) (w' : World) : Prop := e = .returned (tgtV r) ∧ Touch [] w w'
theorem tgt_in {f : Nat → In} {n k : Nat} {t : Int} (h : toP (f k) k = some t) (h0 : 0 ≤ t) (h1 : t < (n : Int)) : tgtV (tgtP f n k) = .tuple #[.int .i64 t, .bool true] := by
  obtain ⟨m, rfl⟩ := Int.eq_ofNat_of_zero_le h0
  rw [tgt_of h (by omega)]
  rfl
theorem tgt_out {f : Nat → In} {n k : Nat} {t : Int} (h : toP (f k) k = some t) (h0 : t < 0 ∨ (n : Int) ≤ t) : tgtV (tgtP f n k) = .tuple #[.int .i64 0, .bool false] := by
  unfold tgtP
  rw [h, Option.bind_some, if_neg (by omega)]
  rfl
theorem tgt_none {f : Nat → In} {n k : Nat} (h : toP (f k) k = none) : tgtV (tgtP f n k) = .tuple #[.int .i64 0, .bool false] := by
  unfold tgtP
  rw [h]
  rfl
set_option maxHeartbeats 3200000 in
set_option maxRecDepth 100000 in
theorem target_any (sa : Option Addr) (n c k : Nat) (f : Nat → In) (w : World) (h : ListAt w sa n f) (hk : k < n) (hn : n ≤ 17592186044415) :
    Calls Try.prog 27 #[.slice sa n c, .int .i64 k] w (TgtPost w (tgtP f n k)) := by
  obtain ⟨b, off, rfl, hS⟩ := h.slots hk
  have ok := hS.ok k hk
  obtain ⟨c0, c1, c2, c3, c4⟩ := hS.at_ k hk
  have m0 := ok.imm0
  have m1 := ok.imm1
  have f0 := ok.off0
  have f1 := ok.off1
  have HJ := toHid (fun w => isJump_any (f k) w ok)
  have HP := toHid (fun w => isPartCall_any (f k) w ok)
  have HE1 := toHid (fun t h0 h1 h2 => tgt_in (f := f) (n := n) (k := k) (t := t) h0 h1 h2)
  have HE2 := toHid (fun t h0 h1 => tgt_out (f := f) (n := n) (k := k) (t := t) h0 h1)
  have HE3 := toHid (fun h0 => tgt_none (f := f) (n := n) (k := k) h0)
  have HJ2 := toHid (fun h => to_jumpB (i := f k) (k := k) h)
  have HP2 := toHid (fun h => to_partB (i := f k) (k := k) h)
  have HN2 := toHid (fun h g => to_noneB (i := f k) (k := k) h g)
  unfold TgtPost
  generalize tgtV (tgtP f n k) = r at *
  generalize toP (f k) k = tp at *
  generalize jumpB (f k) = j at *
  generalize partB (f k) = p at *
  clear hS h ok
  generalize f k = i at *
  simp only [In.v] at HJ HP
  have hB := Blk.newA w #[.int .u8 i.op, .int .u8 i.dst, .int .u8 i.src, .int .i16 i.off, .int .i32 i.imm] i.cells 31 rfl
  have hT := (Touch.refl [] w).alloc (.cells #[.int .u8 i.op, .int .u8 i.dst, .int .u8 i.src, .int .i16 i.off, .int .i32 i.imm] 31)
  have z1 : (k : Int) < (n : Int) := by omega
  cases j
  · cases p
    · have e := toHid (HE3.out (HN2.out rfl rfl))
      clear HE1 HE2 HE3 HJ2 HP2 HN2
      go_enter Try.func27, Try.ntmps27
      go_wp2_with fail
      refine Calls.mono (HJ.out _) ?_
      rintro e w1 ⟨rfl, ht1⟩
      have hB1 := ht1.blk hB (by simp)
      have d0 : w1.cell? ⟨w.heap.size, 0, none⟩ = some _ := hB1.cell rfl
      have d1 : w1.cell? ⟨w.heap.size, 1, none⟩ = some _ := hB1.cell rfl
      have d2 : w1.cell? ⟨w.heap.size, 2, none⟩ = some _ := hB1.cell rfl
      have d3 : w1.cell? ⟨w.heap.size, 3, none⟩ = some _ := hB1.cell rfl
      have d4 : w1.cell? ⟨w.heap.size, 4, none⟩ = some _ := hB1.cell rfl
      have HT1 := toHid (hT.trans ht1 (by simp))
      clear hB1 ht1 hB hT
      go_wp2_with fail
      refine Calls.mono (HP.out _) ?_
      rintro e w2 ⟨rfl, ht2⟩
      have HT2 := toHid (HT1.out.trans ht2 (by simp))
      clear ht2
      go_wp2
      go_ret2
      exact ⟨by rw [e.out]; rfl, HT2.out⟩
    · have e1 := toHid (HE1.out _ (HP2.out rfl))
      have e2 := toHid (HE2.out _ (HP2.out rfl))
      clear HE1 HE2 HE3 HJ2 HP2 HN2
      have hc : ((k : Int) + 1 + i.imm < 0) ∨ (n : Int) ≤ (k : Int) + 1 + i.imm ∨ (0 ≤ (k : Int) + 1 + i.imm ∧ (k : Int) + 1 + i.imm < n) := by omega
      go_enter Try.func27, Try.ntmps27
      go_wp2_with fail
      refine Calls.mono (HJ.out _) ?_
      rintro e w1 ⟨rfl, ht1⟩
      have hB1 := ht1.blk hB (by simp)
      have d0 : w1.cell? ⟨w.heap.size, 0, none⟩ = some _ := hB1.cell rfl
      have d1 : w1.cell? ⟨w.heap.size, 1, none⟩ = some _ := hB1.cell rfl
      have d2 : w1.cell? ⟨w.heap.size, 2, none⟩ = some _ := hB1.cell rfl
      have d3 : w1.cell? ⟨w.heap.size, 3, none⟩ = some _ := hB1.cell rfl
      have d4 : w1.cell? ⟨w.heap.size, 4, none⟩ = some _ := hB1.cell rfl
      have HT1 := toHid (hT.trans ht1 (by simp))
      have HB1 := toHid hB1
      clear hB1 ht1 hB hT
      go_wp2_with fail
      refine Calls.mono (HP.out _) ?_
      rintro e w2 ⟨rfl, ht2⟩
      have HT2 := toHid (HT1.out.trans ht2 (by simp))
      have hB2 := ht2.blk HB1.out (by simp)
      have g4 : w2.cell? ⟨w.heap.size, 4, none⟩ = some _ := hB2.cell rfl
      clear ht2 hB2 d0 d1 d2 d3 d4
      rcases hc with hc | hc | ⟨hc, hd⟩
      · go_wp2
        go_ret2
        exact ⟨by rw [e2.out (Or.inl hc)]; rfl, HT2.out⟩
      · go_wp2
        go_ret2
        exact ⟨by rw [e2.out (Or.inr hc)]; rfl, HT2.out⟩
      · go_wp2
        go_ret2
        exact ⟨by rw [e1.out hc hd]; rfl, HT2.out⟩
  · have e1 := toHid (HE1.out _ (HJ2.out rfl))
    have e2 := toHid (HE2.out _ (HJ2.out rfl))
    clear HE1 HE2 HE3 HJ2 HP2 HN2
    have hc : ((k : Int) + 1 + i.off < 0) ∨ (n : Int) ≤ (k : Int) + 1 + i.off ∨ (0 ≤ (k : Int) + 1 + i.off ∧ (k : Int) + 1 + i.off < n) := by omega
    go_enter Try.func27, Try.ntmps27
    go_wp2_with fail
    refine Calls.mono (HJ.out _) ?_
    rintro e w1 ⟨rfl, ht1⟩
    have hB1 := ht1.blk hB (by simp)
    have d3 : w1.cell? ⟨w.heap.size, 3, none⟩ = some _ := hB1.cell rfl
    have HT1 := toHid (hT.trans ht1 (by simp))
    clear hB1 ht1 hB hT
    rcases hc with hc | hc | ⟨hc, hd⟩
    · go_wp2
      go_ret2
      exact ⟨by rw [e2.out (Or.inl hc)]; rfl, HT1.out⟩
    · go_wp2
      go_ret2
      exact ⟨by rw [e2.out (Or.inr hc)]; rfl, HT1.out⟩
    · go_wp2
      go_ret2
      exact ⟨by rw [e1.out hc hd]; rfl, HT1.out⟩
end Go.Proofs.Ytpoliblfgioocaa
