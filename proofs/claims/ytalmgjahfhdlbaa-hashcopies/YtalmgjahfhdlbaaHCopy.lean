/-
  Package hash: Copy.
-/
import Derived.Test.YtalmgjahfhdlbaaFns3
namespace Go.Proofs.Ytalmgjahfhdlbaa
open Go.RowKit Go.Maps

theorem run_makeN (w : World) (n : Int) : (Instr.makeMap 52 (some (.int .i64 n))).run Try.prog w = .ok (.map (some w.heap.size)) (w.alloc (.map #[] 0)) := by
  simp [Instr.makeMap, run_underlying Try.underlying52, go_sem]

def HCopyPost (w : World) (x : HX) (e : Ending) (w' : World) : Prop := ∃ C cb, e = .returned (.pointer (some ⟨C, 0, none⟩)) ∧ HAt w' ⟨C, cb, x.size, x.l⟩ ∧ w.heap.size ≤ C ∧ w.heap.size ≤ cb ∧ Touch [] w w'
set_option maxHeartbeats 2000000 in
set_option maxRecDepth 100000 in
theorem copy_any {w : World} {x : HX} (h : HAt w x) : Calls Try.prog 16 #[.pointer (some ⟨x.X, 0, none⟩)] w (HCopyPost w x) := by
  have hmk := run_makeN
  have c2 := h.c2
  have hta := (Touch.refl [] w).alloc (.map #[] 0)
  have d2 := (h.touch hta (by simp) (by simp)).c2
  have HH := toHid h
  obtain ⟨⟨D, n, ho, hS⟩, hK, hm, hs1, hs16⟩ := h.map
  have hsD : Maps.size D ≤ 64 := by rw [hS.size]; have := held_le x.l; omega
  have HS := toHid (And.intro hS (And.intro hK (And.intro hm hs16)))
  have HO := toHid ho
  have hlt := h.lt
  clear hS hK hm hs1 hs16 ho h
  go_enter Try.func16, Try.ntmps16
  go_wp2_with (first
    | (at_len; refine wpList_len_own _ rfl _ 52 rfl 9 3 Try.underlying52 _ x.b n D rfl HO.out ?_)
    | (at_range; refine wpList_range_own _ rfl _ 52 rfl 9 3 law9 Try.underlying52 _ x.b n D rfl (HO.out.alloc _) ?_; intro w0 hrg0 hg0 hs0)
    | go_in)
  go_frame
  have e1 : (w.alloc (.map #[] 0)).heap.size = w.heap.size + 1 := by simp
  rw [e1] at hrg0 hs0 ⊢
  have HI : Hid (∃ (left : Lit → Bool) (cnt : Nat) (Dout : DataW Unit), w0.ranges Try.prog 9 (plainElem Try.prog 3) x.b (w.heap.size + 1) n D left cnt ∧ cnt ≤ Maps.size D ∧ w0.ownsMap Try.prog 9 (plainElem Try.prog 3) w.heap.size (Maps.size D - cnt) Dout ∧ Agree Dout D left ∧ Touch [] w w0) :=
    ⟨_, _, .map [], hrg0, Nat.le_refl _, ((World.ownsMap_made _ _ _ _).kept hg0 (by simp)).mono (Nat.zero_le _), agree_start D, hta.trans (Touch.of_grown0 hg0) (by simp)⟩
  clear hrg0 hg0 hs0 e1 hta c2 d2 hmk
  generalize hN : w.heap.size = N at *
  have HN := toHid (And.intro hN hlt)
  clear hlt
  go_loopw [4] (fun _ wr => Hid (∃ (left : Lit → Bool) (cnt : Nat) (Dout : DataW Unit), wr.ranges Try.prog 9 (plainElem Try.prog 3) x.b (N + 1) n D left cnt ∧ cnt ≤ Maps.size D ∧ wr.ownsMap Try.prog 9 (plainElem Try.prog 3) N (Maps.size D - cnt) Dout ∧ Agree Dout D left ∧ Touch [] w wr)) (fun _ wr => wr.rangeLeft x.b (N + 1))
  case atStart => exact HI
  case round =>
    clear HI
    obtain ⟨left, cnt, Dout, hrg, hcs, hout, hA, ht⟩ := hrel.out
    have HX := toHid (And.intro hcs (And.intro hout (And.intro hA ht)))
    have HG := toHid hrg
    clear hrel hcs hout hA ht hrg
    go_wp2_with (first
      | (at_next; refine wpList_next_hm _ rfl _ rfl x.b (N + 1) n D left cnt rfl HG.out HS.out.1 HS.out.2.2.2 HS.out.2.1 ?_ ?_)
      | go_in)
    · intro hl0
      obtain ⟨hcs, hout, hA, ht⟩ := HX.out
      have hDD := agree_end hA hl0 (hout.canon law9) (HO.out.canon law9)
      subst hDD
      have htd := ht.drew
      have d0 := (HH.out.touch htd (by simp) (by simp)).c0
      have d1 := (HH.out.touch htd (by simp) (by simp)).c1
      have hB := Blk.newA wr #[.int .i64 (x.size : Int), .int .i64 (x.l.length : Int), .map (some N)] _ 54 rfl
      have hsz := ht.size
      have hlN := hout.lt
      have HF : Hid (HCopyPost w x (.returned (.pointer (some ⟨wr.heap.size, 0, none⟩))) (wr.alloc (.cells #[.int .i64 (x.size : Int), .int .i64 (x.l.length : Int), .map (some N)] 54)).drew) := by
        refine ⟨_, N, rfl, ⟨hB.drew, ⟨⟨Dout, _, (hout.alloc _).drew, HS.out.1⟩, HS.out.2.1, HS.out.2.2.1, HH.out.map.s1, HS.out.2.2.2⟩, HH.out.m1, by show wr.heap.size ≠ N; omega⟩, hsz, by rw [HN.out.1]; omega, (ht.alloc _).drew⟩
      clear hB hsz hlN ht hA hout hcs htd
      go_wp2_with fail
      go_region
      go_wp2
      go_ret
      exact HF.out
    · intro i bs w1 cnt1 hi hrg1 hlt ht1 hs1 hat hen
      obtain ⟨hcs, hout, hA, ht⟩ := HX.out
      have hlN := hout.lt
      have hout1 := hout.kept (row := some (N + 1)) ⟨ht1.os, ht1.tape, ht1.output, ht1.size, fun k hk hn => ht1.block k hk (fun hx => hn (by simp at hx; rw [hx]))⟩ (by simp)
      have hi64 : i < 64 := by have := (List.getElem?_eq_some_iff.1 hi).1; have := HS.out.2.2.1; omega
      have hwf : (Lit.int .i64 (i : Int)).wf = true := WalkArith.wf_i64 (by omega)
      have hkey := lk_key (bs := bs) (by have := (HS.out.2.1 bs (List.mem_of_getElem? hi)).2; have := HS.out.2.2.2; omega)
      have HW := toHid (And.intro ht (And.intro ht1 (And.intro (agree_step hA hout.isMap (lk_isKey bs) hat) (And.intro hrg1 hcs))))
      have HO1 := toHid hout1
      have HK := toHid hkey
      clear hA hat hout hout1 hi ht ht1 hkey
      go_wp2_with (first
        | (at_mapUpdate; refine wpList_mapUpdate_own _ rfl _ _ _ 52 rfl 9 3 law9 Try.underlying52 _ N _ _ rfl HO1.out (by unfold maxLen; omega) _ _ _ rfl rfl HK.out _ [] (plainElem_int Try.underlying3 hwf) ?_; intro w2 hout2 hg2; go_frame)
        | go_in)
      obtain ⟨ht, ht1, hA2, hrg1, hcs⟩ := HW.out
      have hNb := HN.out.2.2
      have hrg2 := hrg1.kept hg2 (fun e => by injection e with e; omega) (fun e => by injection e with e; omega)
      have HR : Hid (∃ (left : Lit → Bool) (cnt : Nat) (Dout : DataW Unit), w2.ranges Try.prog 9 (plainElem Try.prog 3) x.b (N + 1) n D left cnt ∧ cnt ≤ Maps.size D ∧ w2.ownsMap Try.prog 9 (plainElem Try.prog 3) N (Maps.size D - cnt) Dout ∧ Agree Dout D left ∧ Touch [] w w2) :=
        ⟨_, cnt1, _, hrg2, by omega, hout2.mono (by omega), hA2, (ht.trans ht1 (fun y hy => Or.inr (by simp at hy; rw [HN.out.1]; omega))).trans (Touch.of_grown hg2) (fun y hy => Or.inr (by simp at hy; rw [HN.out.1]; omega))⟩
      have hlf := hrg2.left_eq
      clear hrg2 ht ht1 hA2 hrg1 hout2 hg2 hcs
      go_roundw
      case rel => exact HR
      case measure => rw [hlf, HG.out.left_eq]; exact hlt
end Go.Proofs.Ytalmgjahfhdlbaa
