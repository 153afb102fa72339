/-
  The document's ring: New, Open, Reserve.
-/
import Derived.Test.YtkfmhabplcikiaaGFirst
import Derived.Test.YtkfmhabplcikiaaMRel2
import Derived.Test.YtkfmhabplcikiaaMRAdd2
namespace Go.Proofs.Ytkfmhabplcikiaa.Ring
open Go.RowKit
attribute [local go_sem ↓] Go.wp_at_zero Go.wp_at_succ

def idv (o : Option Nat) : Int := match o with
  | some i => (i : Int)
  | none => -1
def idC (o : Option Nat) : Value := .int .i64 (idv o)
structure RRG where
  q : Nat
  d : Nat
  recs : List (Option Nat)
  ig : Nat
  icap : Nat
  g : Option Nat
  cap : Nat
  l : List KR
def RRG.cells (y : RRG) : List Value := [.pointer (some ⟨y.d, 0, none⟩), .slice (some ⟨y.ig, 0, none⟩) 8 y.icap, slV y.g y.l.length y.cap]
def RRG.blocks (y : RRG) : List Nat := y.q :: y.ig :: rowsBl y.g y.l
structure RRingAt (w : World) (y : RRG) : Prop where
  self : Blk w y.q y.cells 59
  eight : y.recs.length = 8
  ids : ∃ rest, Blk w y.ig (y.recs.map idC ++ rest) 3
  icap : 8 ≤ y.icap
  rows : Rows w y.g y.cap y.l
  own1 : y.q ≠ y.ig
  own2 : y.q ∉ rowsBl y.g y.l
  own3 : y.ig ∉ rowsBl y.g y.l
theorem RRG.mem_q (y : RRG) : y.q ∈ y.blocks := by simp [RRG.blocks]
theorem RRG.mem_ig (y : RRG) : y.ig ∈ y.blocks := by simp [RRG.blocks]
theorem RRG.mem_rows (y : RRG) {b : Nat} (h : b ∈ rowsBl y.g y.l) : b ∈ y.blocks := by simp [RRG.blocks, h]
theorem RRingAt.touch {S : List Nat} {w w' : World} {y : RRG} (h : RRingAt w y) (ht : Touch S w w') (hS : ∀ b ∈ y.blocks, b ∉ S) : RRingAt w' y :=
  ⟨ht.blk h.self (hS _ y.mem_q), h.eight, by
    obtain ⟨r, hr⟩ := h.ids
    exact ⟨r, ht.blk hr (hS _ y.mem_ig)⟩, h.icap, h.rows.touch ht (fun b hb => hS b (y.mem_rows hb)), h.own1, h.own2, h.own3⟩
theorem RRingAt.still {w w' : World} {y : RRG} (h : RRingAt w y) (ht : Touch [] w w') : RRingAt w' y := h.touch ht (by simp)
theorem RRingAt.lt {w : World} {y : RRG} (h : RRingAt w y) : ∀ b ∈ y.blocks, b < w.heap.size := fun b hb => by
  rcases List.mem_cons.1 hb with rfl | hb
  · exact h.self.lt
  · rcases List.mem_cons.1 hb with rfl | hb
    · obtain ⟨r, hr⟩ := h.ids
      exact hr.lt
    · exact h.rows.lt b hb
theorem RRingAt.id_at {w : World} {y : RRG} (h : RRingAt w y) {k : Nat} (hk : k < 8) : w.cell? ⟨y.ig, k, none⟩ = some (.int .i64 (idv (y.recs.getD k none))) := by
  obtain ⟨r, hr⟩ := h.ids
  have h8 := h.eight
  refine hr.cell ?_
  rw [List.getElem?_append_left (by simp; omega), List.getElem?_map, List.getElem?_eq_getElem (by omega), List.getD_eq_getElem?_getD, List.getElem?_eq_getElem (by omega)]
  rfl
structure RGBoth (w : World) (y : RRG) (u : Mem.RS) : Prop where
  ring : RRingAt w y
  mem : Mem.RefAt w u
  at_ : y.d = u.m
  apart : ∀ b ∈ y.blocks, b ∉ u.blocks
theorem RGBoth.still {w w' : World} {y : RRG} {u : Mem.RS} (h : RGBoth w y u) (ht : Touch [] w w') : RGBoth w' y u := ⟨h.ring.still ht, h.mem.touch ht (by simp), h.at_, h.apart⟩
structure RGStep (w w' : World) (y y' : RRG) (u u' : Mem.RS) : Prop where
  both : RGBoth w' y' u'
  q : y'.q = y.q
  m : u'.m = u.m
  touch : Touch (y.blocks ++ u.blocks) w w'
  yb : ∀ b ∈ y'.blocks, b ∈ y.blocks ∨ w.heap.size ≤ b
  ub : ∀ b ∈ u'.blocks, b ∈ u.blocks ∨ w.heap.size ≤ b
theorem RGStep.same {w w' : World} {y : RRG} {u : Mem.RS} (h : RGBoth w y u) (ht : Touch [] w w') : RGStep w w' y y u u :=
  ⟨h.still ht, rfl, rfl, ht.nil, fun _ hb => Or.inl hb, fun _ hb => Or.inl hb⟩
theorem RGStep.trans {w w1 w2 : World} {y y1 y2 : RRG} {u u1 u2 : Mem.RS} (h : RGStep w w1 y y1 u u1) (k : RGStep w1 w2 y1 y2 u1 u2) : RGStep w w2 y y2 u u2 := by
  have hz := h.touch.size
  refine ⟨k.both, k.q.trans h.q, k.m.trans h.m, h.touch.trans k.touch (fun b hb => ?_), fun b hb => ?_, fun b hb => ?_⟩
  · rcases List.mem_append.1 hb with hb | hb
    · rcases h.yb b hb with h1 | h1
      · exact Or.inl (List.mem_append_left _ h1)
      · exact Or.inr h1
    · rcases h.ub b hb with h1 | h1
      · exact Or.inl (List.mem_append_right _ h1)
      · exact Or.inr h1
  · rcases k.yb b hb with h1 | h1
    · exact h.yb b h1
    · exact Or.inr (by omega)
  · rcases k.ub b hb with h1 | h1
    · exact h.ub b h1
    · exact Or.inr (by omega)
/-- A number put into the row of ids, behind a step of the memory. -/
theorem RGBoth.turn {w w1 : World} {y : RRG} {u u' : Mem.RS} (h : RGBoth w y u) (hM : Mem.RefAt w1 u') (ht : Touch u.blocks w w1) (hm : u'.m = u.m) (hown : ∀ b ∈ u'.blocks, b ∈ u.blocks ∨ w.heap.size ≤ b) {n : Nat} (hn : n < 8) (o : Option Nat) :
    RGStep w (w1.setCell ⟨y.ig, n, none⟩ (idC o)) y { y with recs := y.recs.set n o } u u' := by
  have hz := ht.size
  have hR := h.ring.touch ht h.apart
  have htt : Touch [y.ig] w1 (w1.setCell ⟨y.ig, n, none⟩ (idC o)) := (Touch.refl _ _).setCell _ _ (Or.inl (by simp))
  have hap : ∀ b ∈ y.blocks, b ∉ u'.blocks := fun b hb hx => by
    rcases hown b hx with h1 | h1
    · exact h.apart b hb h1
    · have := h.ring.lt b hb
      omega
  have h8 := hR.eight
  refine ⟨⟨⟨htt.blk hR.self (by simpa using hR.own1), by simpa using hR.eight, ?_, hR.icap, hR.rows.touch htt (fun b hb hx => ?_), hR.own1, hR.own2, hR.own3⟩, hM.touch htt (fun b hb hx => ?_), h.at_.trans hm.symm, hap⟩, rfl, hm, ?_, fun b hb => Or.inl hb, hown⟩
  · obtain ⟨r, hr⟩ := hR.ids
    refine ⟨r, ?_⟩
    have := hr.setCell n (idC o)
    rw [List.set_append_left _ _ (by simp; omega)] at this
    rw [show (({ y with recs := y.recs.set n o } : RRG).recs.map idC) = (y.recs.map idC).set n (idC o) by rw [← List.map_set]]
    exact this
  · simp only [List.mem_singleton] at hx
    subst hx
    exact hR.own3 hb
  · simp only [List.mem_singleton] at hx
    subst hx
    exact hap _ y.mem_ig hb
  · exact (ht.mono (fun b hb => Or.inl (List.mem_append_right _ hb))).trans htt (fun b hb => by
      simp only [List.mem_singleton] at hb
      subst hb
      exact Or.inl (List.mem_append_left _ y.mem_ig))
theorem info3 : (Try.prog.info? 3).map (fun i => (i.zero, i.size, i.bytes)) = some (some (.int .i64 0), 1, 8) := by kernel_rfl
set_option maxHeartbeats 2000000 in
set_option maxRecDepth 100000 in
theorem rgnew_any {w : World} {u : Mem.RS} (h : Mem.RefAt w u) : Calls Try.prog 11 #[.pointer (some ⟨u.m, 0, none⟩)] w fun e w' => e = .returned (.pointer (some ⟨w.heap.size, 0, none⟩)) ∧ (∃ ig icap, w.heap.size ≤ ig ∧ RGBoth w' ⟨w.heap.size, u.m, closed, ig, icap, none, 0, []⟩ u) ∧ Touch [] w w' := by
  have HM := toHid h
  generalize hm : u.m = M at *
  have HMM := toHid hm
  clear h hm
  have hB0 := Blk.newA w #[.pointer (some ⟨M, 0, none⟩), .slice none 0 0, .slice none 0 0] _ 59 rfl
  have H0 : Hid (∃ g cap, Blk (w.alloc (.cells #[.pointer (some ⟨M, 0, none⟩), .slice none 0 0, .slice none 0 0] 59)) w.heap.size [.pointer (some ⟨M, 0, none⟩), slV g 0 cap, .slice none 0 0] 59 ∧ RowAt (w.alloc (.cells #[.pointer (some ⟨M, 0, none⟩), .slice none 0 0, .slice none 0 0] 59)) 3 1 g 0 cap (List.replicate 0 (Value.int .i64 (-1))) ∧ (∀ b, g = some b → w.heap.size < b) ∧ Touch [] w (w.alloc (.cells #[.pointer (some ⟨M, 0, none⟩), .slice none 0 0, .slice none 0 0] 59))) :=
    ⟨none, 0, hB0, ⟨rfl, Nat.le_refl _, by unfold maxLen; omega, rfl⟩, (fun b hb => nomatch hb), (Touch.refl _ _).alloc _⟩
  clear hB0
  go_enter Try.func11, Try.ntmps11
  go_wp2_with fail
  go_loopw [4] (fun t w' => ∃ k : Nat, k ≤ 8 ∧ t = .int .i64 k ∧ Hid (∃ g cap, Blk w' w.heap.size [.pointer (some ⟨M, 0, none⟩), slV g k cap, .slice none 0 0] 59 ∧ RowAt w' 3 1 g k cap (List.replicate k (Value.int .i64 (-1))) ∧ (∀ b, g = some b → w.heap.size < b) ∧ Touch [] w w')) (fun t _ => 8 - (intOf t).toNat)
  case atStart => exact ⟨0, by omega, rfl, H0⟩
  case round =>
    clear H0
    obtain ⟨k, hk, rfl, HI⟩ := hrel
    obtain ⟨g, cap, hB, hrow, hg, ht⟩ := HI.out
    by_cases hlt : k < 8
    · have hk8 : (k : Int) < 8 := by omega
      have c1 := hB.cell (i := 1) rfl
      obtain ⟨inf, hi0, hz, hs, hb⟩ := info_of info3
      have hN := Blk.newA wr #[.int .i64 (-1)] _ 3 rfl
      have hta : Touch [] wr (wr.alloc (.cells #[.int .i64 (-1)] 3)) := (Touch.refl _ wr).alloc _
      have hrow' := hrow.touch hta (by simp)
      obtain ⟨g', cap', w2, hr, h2, h3, h4, h5⟩ := run_append_row (P := Try.prog) (wr.alloc (.cells #[.int .i64 (-1)] 3)) 57 57 3 inf (.int .i64 0) 1 Try.underlying57 hi0 hz hs rfl (by omega) g k cap _ hrow' ⟨wr.heap.size, 0, none⟩ 1 1 [.int .i64 (-1)] rfl
        (fun j v hj => by
          rw [Addr.add_lit]
          have : j = 0 := by have := (List.getElem?_eq_some_iff.1 hj).1; simp at this; exact this
          subst this
          exact hN.cell hj) (fun v hv => by
          simp only [List.mem_singleton] at hv
          subst hv
          rfl) (by rw [hb]; omega) (by omega)
      have hsz := ht.size
      have hq : w.heap.size < wr.heap.size := hB.lt
      have hB2 : Blk w2 w.heap.size [.pointer (some ⟨M, 0, none⟩), slV g k cap, .slice none 0 0] 59 := h3.blk (hta.blk hB (by simp)) (fun hx => by have := hg _ (by simpa using hx); omega)
      have c2 := hB2.cell (i := 1) rfl
      have f2 := hB2.frozen 1
      have hrep : List.replicate k (Value.int .i64 (-1)) ++ [.int .i64 (-1)] = List.replicate (k + 1) (Value.int .i64 (-1)) := by rw [← List.replicate_succ']
      rw [hrep] at h2
      have hg2 : ∀ b, g' = some b → w.heap.size < b := fun b hb => by
        rcases h4 with rfl | rfl
        · exact hg b hb
        · injection hb with hb
          rw [World.size_alloc] at hb
          omega
      have htt : Touch [w.heap.size] w2 (w2.setCell ⟨w.heap.size, 1, none⟩ (slV g' (k + 1) cap')) := (Touch.refl _ _).setCell _ _ (Or.inl (by simp))
      have hN2 : ∃ g2 cap2, slV g' (k + 1) cap' = slV g2 (k + 1) cap2 ∧ Blk (w2.setCell ⟨w.heap.size, 1, none⟩ (slV g' (k + 1) cap')) w.heap.size [.pointer (some ⟨M, 0, none⟩), slV g2 (k + 1) cap2, .slice none 0 0] 59 ∧ RowAt (w2.setCell ⟨w.heap.size, 1, none⟩ (slV g' (k + 1) cap')) 3 1 g2 (k + 1) cap2 (List.replicate (k + 1) (Value.int .i64 (-1))) ∧ (∀ b, g2 = some b → w.heap.size < b) ∧ Touch [] w (w2.setCell ⟨w.heap.size, 1, none⟩ (slV g' (k + 1) cap')) :=
        ⟨g', cap', rfl, hB2.setCell 1 _, h2.touch htt (fun b hb hx => by simp only [List.mem_singleton] at hx; have := hg2 b hb; omega), hg2, ((ht.trans hta (by simp)).trans h3 (fun b hb => Or.inr (by have := hg _ (by simpa using hb); omega))).trans htt (fun b hb => Or.inr (by simp only [List.mem_singleton] at hb; omega))⟩
      have HNN : Hid (∃ g2 cap2, Blk (w2.setCell ⟨w.heap.size, 1, none⟩ (slV g' (k + 1) cap')) w.heap.size [.pointer (some ⟨M, 0, none⟩), slV g2 (k + 1) cap2, .slice none 0 0] 59 ∧ RowAt (w2.setCell ⟨w.heap.size, 1, none⟩ (slV g' (k + 1) cap')) 3 1 g2 (k + 1) cap2 (List.replicate (k + 1) (Value.int .i64 (-1))) ∧ (∀ b, g2 = some b → w.heap.size < b) ∧ Touch [] w (w2.setCell ⟨w.heap.size, 1, none⟩ (slV g' (k + 1) cap'))) := by
        obtain ⟨g2, cap2, _, h9⟩ := hN2
        exact ⟨g2, cap2, h9⟩
      have HR := toHid hr
      clear hB hrow hg ht HI hN hta hrow' hr h2 h3 h4 h5 hB2 hrep hg2 htt hN2 hz hs hb hi0
      unfold slV at c1 c2 HR
      generalize hgg : (Option.map (fun b => (⟨b, 0, none⟩ : Addr)) g) = ga at *
      have hsl : slV g' (k + 1) cap' = .slice (Option.map (fun b => (⟨b, 0, none⟩ : Addr)) g') (k + 1) cap' := rfl
      rw [hsl] at HNN
      clear hsl hgg
      generalize (Option.map (fun b => (⟨b, 0, none⟩ : Addr)) g') = ga' at *
      generalize w.heap.size = Q at *
      go_wp2_with (first | (at_builtin; refine Lib.wpList_append_run _ rfl _ _ _ _ rfl _ _ rfl rfl _ _ HR.out ?_))
      go_roundw
      case rel => exact ⟨k + 1, by omega, by go_num, HNN⟩
      case measure => simp [intOf]; omega
    · obtain rfl : k = 8 := by omega
      have hc := hrow.2.1
      cases g with
      | none => have : cap = 0 := hrow.2.2.2; omega
      | some ig =>
        have hgi := hg ig rfl
        obtain ⟨rest, hb2, _⟩ := hrow.2.2.2
        have HF : Hid ((∃ ig icap, w.heap.size ≤ ig ∧ RGBoth wr ⟨w.heap.size, M, closed, ig, icap, none, 0, []⟩ u) ∧ Touch [] w wr) := by
          refine ⟨⟨ig, cap, by omega, ⟨hB, rfl, ⟨rest, hb2⟩, hc, Rows.nil _, by show w.heap.size ≠ ig; omega, by simp [rowsBl], by simp [rowsBl]⟩, HM.out.touch ht (by simp), HMM.out.symm, fun b hb hx => ?_⟩, ht⟩
          have h9 := HM.out.lt b hx
          have : b = w.heap.size ∨ b = ig := by simpa [RRG.blocks, rowsBl] using hb
          omega
        clear hB hrow hg ht HI hb2 hc hgi
        go_wp2
        go_ret
        exact ⟨rfl, HF.out⟩
end Go.Proofs.Ytkfmhabplcikiaa.Ring
