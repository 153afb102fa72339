/-
  Package lru: Copy.
-/
import Derived.Test.YtlkppkgfnmlblaaLNew
import Derived.Test.YtlkppkgfnmlblaaLClone
import Derived.Deep.RegionWith
namespace Go.Proofs.Ytlkppkgfnmlblaa
open Go.RowKit Go.Maps

theorem run_makeN (w : World) (n : Int) : (Instr.makeMap 57 (some (.int .i64 n))).run Try.prog w = .ok (.map (some w.heap.size)) (w.alloc (.map #[] 0)) := by
  simp [Instr.makeMap, run_underlying Try.underlying57, go_sem]

def LCopyPost (w : World) (x : LX) (e : Ending) (w' : World) : Prop := ∃ C cb, e = .returned (.pointer (some ⟨C, 0, none⟩)) ∧ ∃ g cap, LAt w' ⟨C, cb, x.size, x.l, g, cap, x.ord⟩ ∧ (∀ y ∈ (⟨C, cb, x.size, x.l, g, cap, x.ord⟩ : LX).own, w.heap.size ≤ y) ∧ Touch [] w w'
theorem copy_left {w wr w2 : World} {x : LX} {N n : Nat} {D : DataW Unit} {g : Option Nat} {cap : Nat} (h : LAt w x) (hN : w.heap.size = N ∧ x.X < N ∧ x.b < N) (ht : Touch [] w wr.drew) (hout : wr.ownsMap Try.prog 9 (plainElem Try.prog 3) N n D)
    (hS : Says D x.l ∧ KeysOk x.size x.l ∧ x.l.length ≤ 64 ∧ x.size ≤ 16) (ho : OrdAt w2 g cap x.ord) (ht2 : Touch [] wr.drew w2) (hg : ∀ b, g = some b → wr.drew.heap.size ≤ b) :
    LCopyPost w x (.returned (.pointer (some ⟨w2.heap.size, 0, none⟩))) (w2.alloc (.cells #[.int .i64 (x.size : Int), .int .i64 (x.l.length : Int), .map (some N), slV g x.ord.length cap] 60)) := by
  have hlN : N < wr.heap.size := hout.lt
  have hlg : ∀ b, g = some b → b < w2.heap.size := fun b hb => by
    rw [hb] at ho
    exact ho.lt
  have hsz : wr.heap.size ≤ w2.heap.size := ht2.size
  have hB := Blk.newA w2 #[.int .i64 (x.size : Int), .int .i64 (x.l.length : Int), .map (some N), slV g x.ord.length cap] _ 60 rfl
  have hg' : ∀ b, g = some b → wr.heap.size ≤ b := hg
  have hwr : w.heap.size ≤ wr.heap.size := ht.size
  have hta := (Touch.refl [] w2).alloc (.cells #[.int .i64 (x.size : Int), .int .i64 (x.l.length : Int), .map (some N), slV g x.ord.length cap] 60)
  have hM : HM wr x.b x.size x.l → True := fun _ => trivial
  have hM : HM wr.drew N x.size x.l := ⟨⟨D, n, hout.drew, hS.1⟩, hS.2.1, hS.2.2.1, h.map.s1, hS.2.2.2⟩
  refine ⟨_, N, rfl, g, cap, ⟨hB, (hM.touch ht2 (by simp)).touch hta (by simp), ho.touch hta (by simp), h.m1, h.few, ?_⟩, ?_, (ht.trans ht2 (by simp)).trans hta (by simp)⟩
  · show (w2.heap.size :: N :: g.toList).Nodup
    cases g with
    | none => simp; omega
    | some b =>
      have h1 := hlg b rfl
      have h2 := hg' b rfl
      simp
      omega
  · intro y hy
    simp only [LX.own, List.mem_cons, Option.mem_toList] at hy
    rcases hy with rfl | rfl | hy
    · omega
    · omega
    · have := hg' y hy
      omega
set_option maxHeartbeats 2000000 in
set_option maxRecDepth 100000 in
theorem lcopy_any {w : World} {x : LX} (h : LAt w x) : Calls Try.prog 17 #[.pointer (some ⟨x.X, 0, none⟩)] w (LCopyPost w x) := by
  have hmk := run_makeN
  have c2 := h.c2
  have hta := (Touch.refl [] w).alloc (.map #[] 0)
  have d2 := (h.still hta).c2
  have HH := toHid h
  obtain ⟨⟨D, n, ho, hS⟩, hK, hm, hs1, hs16⟩ := h.map
  have hsD : Maps.size D ≤ 64 := by rw [hS.size]; have := held_le x.l; omega
  have HS := toHid (And.intro hS (And.intro hK (And.intro hm hs16)))
  have HO := toHid ho
  have hlt := And.intro (h.lt _ x.mem_X) (h.lt _ x.mem_b)
  clear hS hK hm hs1 hs16 ho h
  go_enter Try.func17, Try.ntmps17
  go_wp2_with (first
    | (at_len; refine wpList_len_own _ rfl _ 57 rfl 9 3 Try.underlying57 _ x.b n D rfl HO.out ?_)
    | (at_range; refine wpList_range_own _ rfl _ 57 rfl 9 3 law9 Try.underlying57 _ x.b n D rfl (HO.out.alloc _) ?_; intro w0 hrg0 hg0 hs0)
    | go_in)
  go_frame
  have e1 : (w.alloc (.map #[] 0)).heap.size = w.heap.size + 1 := by simp
  rw [e1] at hrg0 hs0 ⊢
  have HI : Hid (∃ (left : Lit → Bool) (cnt : Nat) (Dout : DataW Unit), w0.ranges Try.prog 9 (plainElem Try.prog 3) x.b (w.heap.size + 1) n D left cnt ∧ cnt ≤ Maps.size D ∧ w0.ownsMap Try.prog 9 (plainElem Try.prog 3) w.heap.size (Maps.size D - cnt) Dout ∧ Agree Dout D left ∧ Touch [] w w0) :=
    ⟨_, _, .map [], hrg0, Nat.le_refl _, ((World.ownsMap_made _ _ _ _).kept hg0 (by simp)).mono (Nat.zero_le _), agree_start D, hta.trans (Touch.of_grown0 hg0) (by simp)⟩
  clear hrg0 hg0 hs0 e1 hta c2 d2 hmk
  generalize hN : w.heap.size = N at *
  have HN := toHid (And.intro hN hlt)
  clear hlt
  go_loopw [4] (fun _ wr => Hid (∃ (left : Lit → Bool) (cnt : Nat) (Dout : DataW Unit), wr.ranges Try.prog 9 (plainElem Try.prog 3) x.b (N + 1) n D left cnt ∧ cnt ≤ Maps.size D ∧ wr.ownsMap Try.prog 9 (plainElem Try.prog 3) N (Maps.size D - cnt) Dout ∧ Agree Dout D left ∧ Touch [] w wr)) (fun _ wr => wr.rangeLeft x.b (N + 1))
  case atStart => exact HI
  case round =>
    clear HI
    obtain ⟨left, cnt, Dout, hrg, hcs, hout, hA, ht⟩ := hrel.out
    have HX := toHid (And.intro hcs (And.intro hout (And.intro hA ht)))
    have HG := toHid hrg
    clear hrel hcs hout hA ht hrg
    go_wp2_with (first
      | (at_next; refine wpList_next_hm _ rfl _ rfl x.b (N + 1) n D left cnt rfl HG.out HS.out.1 HS.out.2.2.2 HS.out.2.1 ?_ ?_)
      | go_in)
    · intro hl0
      obtain ⟨hcs, hout, hA, ht⟩ := HX.out
      have hDD := agree_end hA hl0 (hout.canon law9) (HO.out.canon law9)
      subst hDD
      have htd := ht.drew
      have hAd := HH.out.still htd
      have d0 := hAd.c0
      have d1 := hAd.c1
      have d3 := hAd.c3
      have H1 := toHid (clone_any hAd.row (by have := hAd.few; omega))
      have HW := toHid (And.intro htd (And.intro hout hAd))
      generalize hSV : slV x.g x.ord.length x.cap = sv at *
      clear hSV ht hA hout hcs htd hAd
      go_wp2_with fail
      go_region_with (go_at_call 33; refine Calls.mono H1.out ?_; rintro e w2 ⟨g', cap', rfl, ho2, ht2, hg2⟩; have e0 := (HW.out.2.2.still ht2).c0; have e1 := (HW.out.2.2.still ht2).c1; have HF := toHid (copy_left HH.out HN.out HW.out.1 HW.out.2.1 HS.out ho2 ht2 hg2); clear ho2 ht2 hg2; unfold slV at *; generalize (g'.map fun b => (⟨b, 0, none⟩ : Addr)) = sg at *)
      all_goals go_wp2
      all_goals go_ret
      all_goals exact HF.out
    · intro i bs w1 cnt1 hi hrg1 hlt ht1 hs1 hat hen
      obtain ⟨hcs, hout, hA, ht⟩ := HX.out
      have hlN := hout.lt
      have hout1 := hout.kept (row := some (N + 1)) ⟨ht1.os, ht1.tape, ht1.output, ht1.size, fun k hk hn => ht1.block k hk (fun hx => hn (by simp at hx; rw [hx]))⟩ (by simp)
      have hi64 : i < 64 := by have := (List.getElem?_eq_some_iff.1 hi).1; have := HS.out.2.2.1; omega
      have hwf : (Lit.int .i64 (i : Int)).wf = true := WalkArith.wf_i64 (by omega)
      have hkey := lk_key (bs := bs) (by have := (HS.out.2.1 bs (List.mem_of_getElem? hi)).2; have := HS.out.2.2.2; omega)
      have HW := toHid (And.intro ht (And.intro ht1 (And.intro (agree_step hA hout.isMap (lk_isKey bs) hat) (And.intro hrg1 hcs))))
      have HO1 := toHid hout1
      have HK := toHid hkey
      clear hA hat hout hout1 hi ht ht1 hkey
      go_wp2_with (first
        | (at_mapUpdate; refine wpList_mapUpdate_own _ rfl _ _ _ 57 rfl 9 3 law9 Try.underlying57 _ N _ _ rfl HO1.out (by unfold maxLen; omega) _ _ _ rfl rfl HK.out _ [] (plainElem_int Try.underlying3 hwf) ?_; intro w2 hout2 hg2; go_frame)
        | go_in)
      obtain ⟨ht, ht1, hA2, hrg1, hcs⟩ := HW.out
      have hNb := HN.out.2.2
      have hrg2 := hrg1.kept hg2 (fun e => by injection e with e; omega) (fun e => by injection e with e; omega)
      have HR : Hid (∃ (left : Lit → Bool) (cnt : Nat) (Dout : DataW Unit), w2.ranges Try.prog 9 (plainElem Try.prog 3) x.b (N + 1) n D left cnt ∧ cnt ≤ Maps.size D ∧ w2.ownsMap Try.prog 9 (plainElem Try.prog 3) N (Maps.size D - cnt) Dout ∧ Agree Dout D left ∧ Touch [] w w2) :=
        ⟨_, cnt1, _, hrg2, by omega, hout2.mono (by omega), hA2, (ht.trans ht1 (fun y hy => Or.inr (by simp at hy; rw [HN.out.1]; omega))).trans (Touch.of_grown hg2) (fun y hy => Or.inr (by simp at hy; rw [HN.out.1]; omega))⟩
      have hlf := hrg2.left_eq
      clear hrg2 ht ht1 hA2 hrg1 hout2 hg2 hcs
      go_roundw
      case rel => exact HR
      case measure => rw [hlf, HG.out.left_eq]; exact hlt
end Go.Proofs.Ytlkppkgfnmlblaa
