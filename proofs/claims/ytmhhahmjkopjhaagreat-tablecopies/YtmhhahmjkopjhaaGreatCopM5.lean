/-
  Texts laid together: MRAdd, MRAdd2, MRef4, MRef5, MRef6, MPoke, MRel, MRel2, PSettle2, PNew, QNew, QNew2, QNew3, TabD, TabE, Duo, MBoth, Duo2, MNil, MFirst, Both10, OneOp, One10, OneU, OneG, OneS, OneD, OneA, MTwin.
-/
import Derived.Test.YtmhhahmjkopjhaaGreatCopM4
import Derived.Deep.CutRange
import Derived.Deep.RegionHeld3
import Derived.Deep.QuietTactic
import Derived.BigQuiet
import Derived.Deep.DrawnRows
set_option maxRecDepth 100000
set_option maxHeartbeats 8000000
section
namespace Go.Proofs.YtmhhahmjkopjhaaGreat.Mem
open Go.RowKit
def rbusyR (r : RReg) (base size : Int) : Bool := r.live && decide (r.base < base + size ∧ base < r.base + (r.bytes.length : Int))
def rbusy (all : List RReg) (base size : Int) : Bool := all.any (rbusyR · base size)
theorem rbusy_yes {all : List RReg} {base size : Int} {k : Nat} (hk : k < all.length) (h : rbusyR (all.getD k RReg.zero) base size = true) : rbusy all base size = true := by
 unfold rbusy
 rw [List.any_eq_true]
 exact ⟨_, rgetD_mem hk, h⟩
theorem rbusy_no {all : List RReg} {base size : Int} (h : ∀ j, j < all.length → rbusyR (all.getD j RReg.zero) base size = false) : rbusy all base size = false := by
 unfold rbusy
 rw [List.any_eq_false]
 intro x hx
 obtain ⟨j, hj, rfl⟩ := List.getElem_of_mem hx
 have := h j hj
 rw [List.getD_eq_getElem?_getD, List.getElem?_eq_getElem hj] at this
 simpa using this
def RAddPost (w : World) (s : RS) (base : Int) (z : Nat) (perm : Int) (e : Ending) (w' : World) : Prop :=
 (rbusy s.all base z = true ∧ e = .returned (.tuple #[.int .i64 0, .int .i64 12]) ∧ RefAt w' s ∧ Touch [] w w') ∨
 (rbusy s.all base z = false ∧ e = .returned (.tuple #[.int .i64 s.all.length, .int .i64 0]) ∧ Touch s.blocks w w' ∧ ∃ s' r, RefAt w' s' ∧ s'.m = s.m ∧ (∀ x ∈ s'.blocks, x ∈ s.blocks ∨ w.heap.size ≤ x) ∧ s'.all = s.all ++ [r] ∧
  r.live = true ∧ r.base = base ∧ r.perm = perm ∧ r.bytes = List.replicate z 0 ∧ r.set = List.replicate z (decide (perm < 4)))
structure New3 (w w' : World) (base : Int) (z : Nat) (perm : Int) (p g1 g2 : Nat) (ss : List Bool) : Prop where
 self : Blk w' p [.bool true, .int .u64 base, .int .i64 perm, slV (some g1) z z, slV (some g2) z z] 82
 bytes : Blk w' g1 (List.replicate z (.int .u8 0)) 5
 sets : Blk w' g2 (ss.map Value.bool) 4
 touch : Touch [] w w'
 np : w.heap.size ≤ p
 n1 : w.heap.size ≤ g1
 n2 : w.heap.size ≤ g2
 d1 : p ≠ g1
 d2 : p ≠ g2
 d3 : g1 ≠ g2
theorem Blk.newN {w : World} {arr : Array Value} {cs : List Value} {t : TypeId} {n : Nat} (hn : n = w.heap.size) (h : arr.toList = cs) : Blk (w.alloc (.cells arr t)) n cs t := hn ▸ Blk.newA w arr cs t h
theorem New3.put {w w' : World} {base : Int} {z : Nat} {perm : Int} {p g1 g2 : Nat} {ss : List Bool} (h : New3 w w' base z perm p g1 g2 ss) (k : Nat) (b : Bool) : New3 w (w'.setCell ⟨g2, k, none⟩ (.bool b)) base z perm p g1 g2 (ss.set k b) where
 self := h.self.setCell_other _ _ h.d2
 bytes := h.bytes.setCell_other _ _ h.d3
 sets := by rw [List.map_set]; exact h.sets.setCell k _
 touch := h.touch.setCell _ _ (Or.inr h.n2)
 np := h.np
 n1 := h.n1
 n2 := h.n2
 d1 := h.d1
 d2 := h.d2
 d3 := h.d3
theorem fill_step (z k : Nat) (b : Bool) (h : k < z) : (List.replicate k b ++ List.replicate (z - k) false).set k b = List.replicate (k + 1) b ++ List.replicate (z - (k + 1)) false := by
 obtain ⟨n, rfl⟩ : ∃ n, z = k + 1 + n := ⟨z - (k + 1), by omega⟩
 rw [show k + 1 + n - k = n + 1 by omega, show k + 1 + n - (k + 1) = n by omega, List.set_append_right _ _ (by simp), List.length_replicate, Nat.sub_self, List.replicate_succ (n := n), List.set_cons_zero, List.replicate_succ' (n := k)]
 simp
theorem RefAt.added {w w' : World} {s : RS} (h : RefAt w s) {r : RReg} {g' : Option Nat} {cap' : Nat} (hlen : s.all.length < 1000)
  (hm : Blk w' s.m [slV g' (s.all.length + 1) cap'] 69) (hrow : RowAt w' 82 5 g' (s.all.length + 1) cap' (s.all.flatMap RReg.cells ++ r.cells))
  (hold : ∀ x ∈ s.all, RRegAt w' x) (hr : RRegAt w' r) (hro : RRegOk r) (hown : r.bb ≠ r.sb) (hnew : ∀ x ∈ r.blocks, w.heap.size ≤ x) (hg : g' = s.g ∨ ∃ b, g' = some b ∧ w.heap.size ≤ b ∧ b ∉ r.blocks) :
  RefAt w' ⟨s.m, g', cap', s.all ++ [r]⟩ := by
 have hlt := h.lt
 refine ⟨?_, ?_, ?_, ?_, ?_, ?_⟩
 ·show Blk w' s.m [slV g' (s.all ++ [r]).length cap'] 69
  rw [List.length_append]
  exact hm
 ·show RowAt w' 82 5 g' (s.all ++ [r]).length cap' ((s.all ++ [r]).flatMap RReg.cells)
  rw [List.length_append, List.flatMap_append, List.flatMap_singleton]
  exact hrow
 ·intro x hx
  rcases List.mem_append.1 hx with hx | hx
  ·exact hold x hx
  ·rw [List.mem_singleton.1 hx]; exact hr
 ·intro x hx
  rcases List.mem_append.1 hx with hx | hx
  ·exact h.ok x hx
  ·rw [List.mem_singleton.1 hx]; exact hro
 ·have hap := h.apart
  show (s.m :: g'.toList ++ (s.all ++ [r]).flatMap RReg.blocks).Nodup
  rw [List.flatMap_append, List.flatMap_singleton]
  simp only [RS.blocks, List.cons_append, List.nodup_cons, List.nodup_append, List.mem_append] at hap ⊢
  obtain ⟨h1, h2, h3, h4⟩ := hap
  have hmlt := hlt s.m s.mem_m
  have hold2 : ∀ x ∈ s.all.flatMap RReg.blocks, x < w.heap.size := by
   intro x hx
   obtain ⟨y, hy, hx⟩ := List.mem_flatMap.1 hx
   exact hlt x (s.mem_r hy hx)
  refine ⟨?_, ?_, ⟨h3, ?_, ?_⟩, ?_⟩
  ·rintro (hx | hx | hx)
   ·rcases hg with rfl | ⟨b, rfl, hb, _⟩
    ·exact h1 (Or.inl hx)
    ·simp at hx; omega
   ·exact h1 (Or.inr hx)
   ·have := hnew _ hx; omega
  ·cases g' <;> simp
  ·simp [RReg.blocks, hown]
  ·intro a ha b hb hab
   have h5 := hnew b hb
   have h6 := hold2 a ha
   omega
  ·intro a ha b hb hab
   subst hab
   rcases hg with rfl | ⟨b, rfl, hbb, hbr⟩
   ·rcases hb with hb | hb
    ·exact h4 a ha a hb rfl
    ·have h5 := hnew a hb
     have h6 := hlt a (s.mem_g (by simpa using ha))
     omega
   ·simp at ha
    subst ha
    rcases hb with hb | hb
    ·have := hold2 _ hb; omega
    ·exact hbr hb
 ·show (s.all ++ [r]).length ≤ 1000
  rw [List.length_append]
  simp
  omega
theorem info44 : (Tryz.prog.info? 82).map (fun i => (i.zero, i.size, i.bytes)) = some (some (.agg #[.bool false, .int .u64 0, .int .i64 0, .slice none 0 0, .slice none 0 0]), 5, 72) := by kernel_rfl
theorem radd_last {w w1 wl : World} {s : RS} (h : RefAt w s) {base : Int} {z : Nat} {perm : Int} {p g1 g2 : Nat} (ht : Touch [] w wl) (hsz : w.heap.size ≤ w1.heap.size) (h3 : New3 w1 wl base z perm p g1 g2 (List.replicate z (decide (perm < 4)))) (hlen : s.all.length < 1000)
  (hb0 : 0 ≤ base) (hz1 : 1 ≤ z) (hz2 : z ≤ 65536) (hfit : base + z ≤ 18446744073709551616) (hp0 : 0 ≤ perm) (hp1 : perm ≤ 7) (hb : rbusy s.all base z = false) :
  ∃ g' cap' w', (Builtin.append_ #[67, 67] 67 #[slV s.g s.all.length s.cap, .slice (some ⟨wl.heap.size, 0, none⟩) 1 1]).run Tryz.prog (wl.alloc (.cells #[.bool true, .int .u64 base, .int .i64 perm, .slice (some ⟨g1, 0, none⟩) z z, .slice (some ⟨g2, 0, none⟩) z z] 82)).drew = .ok (slV g' (s.all.length + 1) cap') w' ∧
   Hid (wl.cell? ⟨s.m, 0, none⟩ = some (slV s.g s.all.length s.cap) ∧ w'.cell? ⟨s.m, 0, none⟩ = some (slV s.g s.all.length s.cap) ∧ w'.frozen? ⟨s.m, 0, none⟩ = false ∧ (∀ o, (wl.alloc o).cell? ⟨s.m, 0, none⟩ = some (slV s.g s.all.length s.cap)) ∧ s.m < wl.heap.size ∧ True ∧ True ∧
    RAddPost w s base z perm (.returned (.tuple #[.int .i64 s.all.length, .int .i64 0])) (w'.setCell ⟨s.m, 0, none⟩ (slV g' (s.all.length + 1) cap'))) := by
 obtain ⟨i, hi, hz, hs, hby⟩ := info_of info44
 let r : RReg := ⟨true, base, perm, g1, z, List.replicate z 0, g2, z, List.replicate z (decide (perm < 4))⟩
 have hrc : r.cells = [.bool true, .int .u64 base, .int .i64 perm, .slice (some ⟨g1, 0, none⟩) z z, .slice (some ⟨g2, 0, none⟩) z z] := by simp [RReg.cells, r]
 have hml := h.touch ht (by simp)
 have hta : Touch [] wl (wl.alloc (.cells #[.bool true, .int .u64 base, .int .i64 perm, .slice (some ⟨g1, 0, none⟩) z z, .slice (some ⟨g2, 0, none⟩) z z] 82)).drew := ((Touch.refl _ wl).alloc _).drew
 have hm2 := hml.touch hta (by simp)
 have hnew := Blk.newA wl #[.bool true, .int .u64 base, .int .i64 perm, .slice (some ⟨g1, 0, none⟩) z z, .slice (some ⟨g2, 0, none⟩) z z] _ 82 rfl
 obtain ⟨g', cap', w', hr, h2, h3', h4, h5⟩ := run_append_row (P := Tryz.prog) _ 67 67 82 i _ 5 Tryz.underlying67 hi hz hs rfl (by omega) s.g s.all.length s.cap _ hm2.row ⟨wl.heap.size, 0, none⟩ 1 1 r.cells rfl
  (fun j v hj => by
   rw [hrc] at hj
   have hadd : (⟨wl.heap.size, 0, none⟩ : Addr).add j = ⟨wl.heap.size, j, none⟩ := by unfold Addr.add; split <;> simp_all
   rw [hadd]
   exact hnew.drew.cell hj)
  (fun u hu => by rw [hrc] at hu; simp at hu; rcases hu with rfl | rfl | rfl | rfl | rfl <;> rfl)
  (by rw [hby]; omega) (by omega)
 refine ⟨g', cap', w', hr, ?_⟩
 have hap := h.apart
 have hlt := h.lt
 simp only [RS.blocks, List.cons_append, List.nodup_cons, List.mem_append, List.nodup_append] at hap
 have hmg : s.m ∉ s.g.toList := fun hx => hap.1 (Or.inl hx)
 have hmself := h3'.blk hm2.self hmg
 have hlo : w.heap.size ≤ wl.heap.size := ht.size
 have hmlt := hlt s.m s.mem_m
 have hn1 := h3.n1
 have hn2 := h3.n2
 have hgm : g' ≠ some s.m := fun e => by
  rcases h4 with h4 | h4
  ·exact hmg (by rw [← h4, e]; simp)
  ·rw [e] at h4; injection h4 with h4; simp at h4; omega
 have hrA : RRegAt (w'.setCell ⟨s.m, 0, none⟩ (slV g' (s.all.length + 1) cap')) r := by
  have q1 : g1 ∉ s.g.toList := fun hx => by have := hlt g1 (s.mem_g (by simpa using hx)); omega
  have q2 : g2 ∉ s.g.toList := fun hx => by have := hlt g2 (s.mem_g (by simpa using hx)); omega
  refine ⟨⟨[], ?_⟩, ⟨[], ?_⟩⟩
  ·refine Blk.setCell_other ?_ _ _ (by show g1 ≠ s.m; omega)
   have := h3'.blk (h3.bytes.alloc _).drew q1
   simpa [r] using this
  ·refine Blk.setCell_other ?_ _ _ (by show g2 ≠ s.m; omega)
   have := h3'.blk (h3.sets.alloc _).drew q2
   simpa [r] using this
 have hts : Touch [s.m] w' (w'.setCell ⟨s.m, 0, none⟩ (slV g' (s.all.length + 1) cap')) := (Touch.refl _ w').setCell _ _ (Or.inl (by simp))
 have hadd : RefAt (w'.setCell ⟨s.m, 0, none⟩ (slV g' (s.all.length + 1) cap')) ⟨s.m, g', cap', s.all ++ [r]⟩ := by
  refine RefAt.added h hlen ?_ ?_ ?_ hrA ?_ h3.d3 ?_ ?_
  ·exact hmself.setCell 0 _
  ·exact h2.touch hts (fun b hb hx => hgm (by simp at hx; rw [hb, hx]))
  ·intro x hx
   refine ((hm2.regs x hx).touch h3' (fun y hy hh => ?_)).touch hts (fun y hy hh => ?_)
   ·exact hap.2.2.2 y hh y (List.mem_flatMap.2 ⟨x, hx, hy⟩) rfl
   ·simp at hh
    subst hh
    exact hap.1 (Or.inr (List.mem_flatMap.2 ⟨x, hx, hy⟩))
  ·exact ⟨hb0, by simpa [r] using hz1, by simpa [r] using hz2, by simpa [r] using hfit, hp0, hp1, by simp [r], fun x hx => by simp [r] at hx; omega⟩
  ·intro x hx
   simp [RReg.blocks, r] at hx
   omega
  ·rcases h4 with h4 | h4
   ·exact Or.inl h4
   ·refine Or.inr ⟨_, h4, by simp; omega, fun hx => ?_⟩
    simp [RReg.blocks, r] at hx
    have e1 := h3.bytes.lt
    have e2 := h3.sets.lt
    omega
 have htt : Touch s.blocks w (w'.setCell ⟨s.m, 0, none⟩ (slV g' (s.all.length + 1) cap')) := by
  refine Touch.trans (b := w') ?_ hts (fun x hx => Or.inl (by simp at hx; rw [hx]; exact s.mem_m))
  refine Touch.trans (b := _) (ht.trans hta (by simp)).nil h3' (fun x hx => Or.inl (s.mem_g (by simpa using hx)))
 refine ⟨hml.c0, hmself.cell rfl, hmself.frozen 0, fun o => (hml.touch ((Touch.refl [] wl).alloc o) (by simp)).c0, by omega, trivial, trivial, Or.inr ⟨hb, rfl, htt, _, r, hadd, rfl, ?_, rfl, rfl, rfl, rfl, rfl, rfl⟩⟩
 intro x hx
 simp only [RS.blocks, List.cons_append, List.mem_cons, List.mem_append, List.mem_flatMap] at hx ⊢
 rcases hx with hx | hx | ⟨y, (hy | rfl | hy), hx⟩
 ·exact Or.inl (Or.inl hx)
 ·rcases h4 with h4 | h4
  ·rw [h4] at hx; exact Or.inl (Or.inr (Or.inl hx))
  ·rw [h4] at hx; simp at hx; exact Or.inr (by omega)
 ·exact Or.inl (Or.inr (Or.inr ⟨y, hy, hx⟩))
 ·simp [RReg.blocks, r] at hx
  exact Or.inr (by omega)
 ·cases hy
theorem radd_some {w : World} {s : RS} (h : RefAt w s) {b : Nat} (hg : s.g = some b) (base : Int) (z : Nat) (perm : Int) (hb0 : 0 ≤ base) (hz1 : 1 ≤ z) (hz2 : z ≤ 65536) (hfit : base + z ≤ 18446744073709551616) (hp0 : 0 ≤ perm) (hp1 : perm ≤ 7) (hlen : s.all.length < 1000) :
  Calls Tryz.prog 30 #[.pointer (some ⟨s.m, 0, none⟩), .int .u64 base, .int .i64 z, .int .i64 perm] w (RAddPost w s base z perm) := by
 have hc0 := h.c0
 have hw0 : IntKind.u64.wrap (IntKind.u64.wrap (18446744073709551615 - IntKind.u64.wrap (z : Int)) + 1) = 18446744073709551616 - (z : Int) := by simp only [IntKind.wrap_u64]; omega
 have HM := toHid h
 have HG := toHid hg
 rw [hg] at hc0
 simp only [slV_some] at hc0
 clear h hg
 go_enter Tryz.func30, Tryz.ntmps30
 go_wp2_with fail
 generalize decide ((z : Int) < 1) = t1
 generalize decide ((65536 : Int) < (z : Int)) = t2
 generalize decide (perm < 0) = t3
 generalize decide (7 < perm) = t4
 generalize decide (18446744073709551615 - (z : Int) + 1 < base) = t5
 go_loopw [39] (fun t w' => ∃ k : Nat, k ≤ s.all.length ∧ t = .int .i64 k ∧ Hid (Touch [] w w' ∧ ∀ j, j < k → rbusyR (s.all.getD j RReg.zero) base z = false)) (fun t _ => s.all.length - (intOf t).toNat)
 case atStart => exact ⟨0, by omega, rfl, Touch.refl _ _, fun j hj => by omega⟩
 case round =>
  rename_i wr
  obtain ⟨k, hk, rfl, HI⟩ := hrel
  clear hc0
  by_cases hlt : k < s.all.length
  ·have hM := HM.out.touch HI.out.1 (by simp)
   have hr := rgetD_of hlt
   have hok := hM.ok _ (rgetD_mem hlt)
   have c0 := hM.at HG.out hr (j := 0) (by omega) rfl
   have c1 := hM.at HG.out hr (j := 1) (by omega) rfl
   have c2 := hM.at HG.out hr (j := 2) (by omega) rfl
   have c3 := hM.at HG.out hr (j := 3) (by omega) rfl
   have c4 := hM.at HG.out hr (j := 4) (by omega) rfl
   rw [Nat.add_zero] at c0
   have HY : rbusyR (s.all.getD k RReg.zero) base z = true → ∀ o, Hid (RAddPost w s base z perm (.returned (.tuple #[.int .i64 0, .int .i64 12])) (wr.alloc o)) := fun hh o => Or.inl ⟨rbusy_yes hlt hh, rfl, hM.touch ((Touch.refl [] wr).alloc o) (by simp), HI.out.1.alloc o⟩
   have HN : rbusyR (s.all.getD k RReg.zero) base z = false → Hid (∀ j, j < k + 1 → rbusyR (s.all.getD j RReg.zero) base z = false) := fun hh j hj => by
    by_cases e : j = k
    ·subst e; exact hh
    ·exact HI.out.2 j (by omega)
   generalize s.all.getD k RReg.zero = r at *
   have hb1 := hok.base0
   have hs2 := hok.size2
   have hs1 := hok.size1
   have hfit2 := hok.fits
   have hwl : IntKind.u64.wrap (r.bytes.length : Int) = r.bytes.length := by rw [IntKind.wrap_u64]; omega
   have HT := toHid HI.out.1
   clear hM hok HI
   cases hl : r.live with
   | false =>
    have HN2 := HN (by unfold rbusyR; rw [hl]; rfl)
    rw [hl] at c0
    clear HN HY hl
    go_wp2
    exact ⟨⟨k + 1, by omega, by go_num, HT.out.alloc _, HN2.out⟩, by simp [intOf]; omega⟩
   | true =>
    rw [hl] at c0
    by_cases hlo : r.base < base
    ·have hw1 : IntKind.u64.wrap (base - r.base) = base - r.base := by rw [IntKind.wrap_u64]; omega
     by_cases hin : base - r.base < r.bytes.length
     ·have HY2 := HY (by unfold rbusyR; rw [hl]; simp; omega)
      clear HN HY hl
      go_wp2
      go_ret2
      exact (HY2 _).out
     ·have HN2 := HN (by unfold rbusyR; rw [hl]; simp; omega)
      clear HN HY hl
      go_wp2
      exact ⟨⟨k + 1, by omega, by go_num, HT.out.alloc _, HN2.out⟩, by simp [intOf]; omega⟩
    ·have hw1 : IntKind.u64.wrap (r.base - base) = r.base - base := by rw [IntKind.wrap_u64]; omega
     by_cases hin : r.base - base < z
     ·have HY2 := HY (by unfold rbusyR; rw [hl]; simp; omega)
      clear HN HY hl
      go_wp2
      go_ret2
      exact (HY2 _).out
     ·have HN2 := HN (by unfold rbusyR; rw [hl]; simp; omega)
      clear HN HY hl
      go_wp2
      exact ⟨⟨k + 1, by omega, by go_num, HT.out.alloc _, HN2.out⟩, by simp [intOf]; omega⟩
  ·have hkk : k = s.all.length := by omega
   rw [hkk] at HI
   have HNB := toHid (rbusy_no HI.out.2)
   have HT := toHid HI.out.1
   have HC := toHid (rcount_any (HM.out.touch HI.out.1 (by simp)))
   have hlv : liveN s.all ≤ 1000 := by unfold liveN; exact Nat.le_trans (List.length_filter_le _ _) (by omega)
   clear HI hkk
   have hmk := run_make_blk (P := Tryz.prog) Tryz.underlying39 info5 rfl z (by omega) (by omega) .i64
   have hmk2 := run_make_blk (P := Tryz.prog) Tryz.underlying80 info4 rfl z (by omega) (by omega) .i64
   go_upto_region 13 with (go_at_call 10; refine HC.out.mono ?_; rintro e w1 ⟨rfl, ht1⟩; have HT1 := toHid (HT.out.trans ht1 (by simp)); clear ht1)
   go_cut [12] from 85 to 91 (fun v wx => ∃ p g1 g2, v = .pointer (some ⟨p, 0, none⟩) ∧ Hid (New3 w1 wx base z perm p g1 g2 (List.replicate 0 (decide (perm < 4)) ++ List.replicate (z - 0) false)))
   case first =>
    go_region
    all_goals (try go_wp2_with fail)
    all_goals go_meet
    all_goals first
     | (refine ⟨_, w1.heap.size, w1.heap.size + 1, rfl, toHid ?_⟩; (refine ⟨?_, ?_, ?_, ((((Touch.refl _ _).alloc _).alloc _).alloc _).drew, ?_, ?_, ?_, ?_, ?_, ?_⟩ <;> first | omega | (refine Blk.drew (Blk.newN ?_ ?_) <;> simp [slV] <;> done) | (refine Blk.drew ((Blk.newN ?_ ?_).alloc _) <;> simp [slV] <;> done) | (refine Blk.drew (((Blk.newN ?_ ?_).alloc _).alloc _) <;> simp [slV] <;> done)); done)
     | (refine ⟨_, w1.heap.size, w1.heap.size + 1 + 1, rfl, toHid ?_⟩; (refine ⟨?_, ?_, ?_, ((((Touch.refl _ _).alloc _).alloc _).alloc _).drew, ?_, ?_, ?_, ?_, ?_, ?_⟩ <;> first | omega | (refine Blk.drew (Blk.newN ?_ ?_) <;> simp [slV] <;> done) | (refine Blk.drew ((Blk.newN ?_ ?_).alloc _) <;> simp [slV] <;> done) | (refine Blk.drew (((Blk.newN ?_ ?_).alloc _).alloc _) <;> simp [slV] <;> done)); done)
     | (refine ⟨_, w1.heap.size + 1, w1.heap.size, rfl, toHid ?_⟩; (refine ⟨?_, ?_, ?_, ((((Touch.refl _ _).alloc _).alloc _).alloc _).drew, ?_, ?_, ?_, ?_, ?_, ?_⟩ <;> first | omega | (refine Blk.drew (Blk.newN ?_ ?_) <;> simp [slV] <;> done) | (refine Blk.drew ((Blk.newN ?_ ?_).alloc _) <;> simp [slV] <;> done) | (refine Blk.drew (((Blk.newN ?_ ?_).alloc _).alloc _) <;> simp [slV] <;> done)); done)
     | (refine ⟨_, w1.heap.size + 1, w1.heap.size + 1 + 1, rfl, toHid ?_⟩; (refine ⟨?_, ?_, ?_, ((((Touch.refl _ _).alloc _).alloc _).alloc _).drew, ?_, ?_, ?_, ?_, ?_, ?_⟩ <;> first | omega | (refine Blk.drew (Blk.newN ?_ ?_) <;> simp <;> done) | (refine Blk.drew ((Blk.newN ?_ ?_).alloc _) <;> simp [slV] <;> done) | (refine Blk.drew (((Blk.newN ?_ ?_).alloc _).alloc _) <;> simp [slV] <;> done)); done)
     | (refine ⟨_, w1.heap.size + 1 + 1, w1.heap.size, rfl, toHid ?_⟩; (refine ⟨?_, ?_, ?_, ((((Touch.refl _ _).alloc _).alloc _).alloc _).drew, ?_, ?_, ?_, ?_, ?_, ?_⟩ <;> first | omega | (refine Blk.drew (Blk.newN ?_ ?_) <;> simp <;> done) | (refine Blk.drew ((Blk.newN ?_ ?_).alloc _) <;> simp [slV] <;> done) | (refine Blk.drew (((Blk.newN ?_ ?_).alloc _).alloc _) <;> simp [slV] <;> done)); done)
     | (refine ⟨_, w1.heap.size + 1 + 1, w1.heap.size + 1, rfl, toHid ?_⟩; (refine ⟨?_, ?_, ?_, ((((Touch.refl _ _).alloc _).alloc _).alloc _).drew, ?_, ?_, ?_, ?_, ?_, ?_⟩ <;> first | omega | (refine Blk.drew (Blk.newN ?_ ?_) <;> simp <;> done) | (refine Blk.drew ((Blk.newN ?_ ?_).alloc _) <;> simp <;> done) | (refine Blk.drew (((Blk.newN ?_ ?_).alloc _).alloc _) <;> simp [slV] <;> done)); done)
   case rest =>
    obtain ⟨p, g1, g2, rfl, H3⟩ := hcut
    have c4 : wc.cell? ⟨p, 4, none⟩ = some _ := H3.out.self.cell rfl
    simp only [slV_some] at c4
    go_wp2
    generalize decide (4096 ≤ (liveN s.all : Int)) = t6
    generalize hbp : decide (perm < 4) = bp at H3
    have HBP := toHid hbp
    go_loopw [95] (fun t w' => ∃ k : Nat, k ≤ z ∧ t = .int .i64 k ∧ Hid (New3 w1 w' base z perm p g1 g2 (List.replicate k bp ++ List.replicate (z - k) false))) (fun t _ => z - (intOf t).toNat)
    case atStart => exact ⟨0, by omega, rfl, H3⟩
    case round =>
     obtain ⟨k2, hk2, rfl, HI⟩ := hrel
     clear c4
     by_cases hlt2 : k2 < z
     ·have c4 : wr.cell? ⟨p, 4, none⟩ = some _ := HI.out.self.cell rfl
      simp only [slV_some] at c4
      have d2 := HI.out.sets.cellN (i := k2) (by simp; omega)
      have f2 := HI.out.sets.frozen k2
      have HN := toHid (HI.out.put k2 bp)
      rw [fill_step z k2 bp hlt2] at HN
      clear HI H3 HC hmk hmk2
      go_wp2
      refine ⟨⟨k2 + 1, by omega, by go_num, HN⟩, by simp [intOf]; omega⟩
     ·have hkz : k2 = z := by omega
      rw [hkz, Nat.sub_self, List.replicate_zero, List.append_nil, ← HBP.out] at HI
      have HL := toHid (radd_last HM.out (HT1.out.trans HI.out.touch (by simp)) HT1.out.size HI.out hlen hb0 hz1 hz2 hfit hp0 hp1 HNB.out)
      obtain ⟨g', cap', w', ha, hb⟩ := HL.out
      obtain ⟨q0, q1, q2, q3, q4, q5, q6, q7⟩ := hb.out
      have HA := toHid ha
      have HE := toHid q7
      have c0 : wr.cell? ⟨p, 0, none⟩ = some _ := HI.out.self.cell rfl
      have c1 : wr.cell? ⟨p, 1, none⟩ = some _ := HI.out.self.cell rfl
      have c2 : wr.cell? ⟨p, 2, none⟩ = some _ := HI.out.self.cell rfl
      have c3 : wr.cell? ⟨p, 3, none⟩ = some _ := HI.out.self.cell rfl
      have c4 : wr.cell? ⟨p, 4, none⟩ = some _ := HI.out.self.cell rfl
      simp only [slV_some] at c3 c4
      simp only [slV] at HA HE q0 q1 q3
      clear ha hb q7 HI HL H3 HC hmk hmk2 hkz
      go_wp2_with fail
      go_region_law (refine step_append_known rfl (.tmp 109) (.tmp 111) 67 67 rfl (.slice (s.g.map fun b => ⟨b, 0, none⟩) s.all.length s.cap) (.slice (some ⟨wr.heap.size, 0, none⟩) 1 1) (by simp [Act.eval]) (by simp [Act.eval]) HA.out ?_)
      all_goals go_wp2
      all_goals go_ret2
      all_goals exact HE.out
theorem radd_none {w : World} {s : RS} (h : RefAt w s) (hg : s.g = none) (base : Int) (z : Nat) (perm : Int) (hb0 : 0 ≤ base) (hz1 : 1 ≤ z) (hz2 : z ≤ 65536) (hfit : base + z ≤ 18446744073709551616) (hp0 : 0 ≤ perm) (hp1 : perm ≤ 7) (hlen : s.all.length < 1000) :
  Calls Tryz.prog 30 #[.pointer (some ⟨s.m, 0, none⟩), .int .u64 base, .int .i64 z, .int .i64 perm] w (RAddPost w s base z perm) := by
 have hc0 := h.c0
 have hw0 : IntKind.u64.wrap (IntKind.u64.wrap (18446744073709551615 - IntKind.u64.wrap (z : Int)) + 1) = 18446744073709551616 - (z : Int) := by simp only [IntKind.wrap_u64]; omega
 have HM := toHid h
 have HZ := toHid (h.nil hg).1
 rw [hg] at hc0
 simp only [slV_none] at hc0
 clear h hg
 go_enter Tryz.func30, Tryz.ntmps30
 go_wp2_with fail
 generalize decide ((z : Int) < 1) = t1
 generalize decide ((65536 : Int) < (z : Int)) = t2
 generalize decide (perm < 0) = t3
 generalize decide (7 < perm) = t4
 generalize decide (18446744073709551615 - (z : Int) + 1 < base) = t5
 go_loopw [39] (fun t w' => ∃ k : Nat, k ≤ s.all.length ∧ t = .int .i64 k ∧ Hid (Touch [] w w' ∧ ∀ j, j < k → rbusyR (s.all.getD j RReg.zero) base z = false)) (fun t _ => s.all.length - (intOf t).toNat)
 case atStart => exact ⟨0, by omega, rfl, Touch.refl _ _, fun j hj => by omega⟩
 case round =>
  obtain ⟨k, hk, rfl, HI⟩ := hrel
  clear hc0
  by_cases hlt : k < s.all.length
  ·rw [HZ.out] at hlt; simp at hlt
  ·have hkk : k = s.all.length := by omega
   rw [hkk] at HI
   have HNB := toHid (rbusy_no HI.out.2)
   have HT := toHid HI.out.1
   have HC := toHid (rcount_any (HM.out.touch HI.out.1 (by simp)))
   have hlv : liveN s.all ≤ 1000 := by unfold liveN; exact Nat.le_trans (List.length_filter_le _ _) (by omega)
   clear HI hkk
   have hmk := run_make_blk (P := Tryz.prog) Tryz.underlying39 info5 rfl z (by omega) (by omega) .i64
   have hmk2 := run_make_blk (P := Tryz.prog) Tryz.underlying80 info4 rfl z (by omega) (by omega) .i64
   go_upto_region 13 with (go_at_call 10; refine HC.out.mono ?_; rintro e w1 ⟨rfl, ht1⟩; have HT1 := toHid (HT.out.trans ht1 (by simp)); clear ht1)
   go_cut [12] from 85 to 91 (fun v wx => ∃ p g1 g2, v = .pointer (some ⟨p, 0, none⟩) ∧ Hid (New3 w1 wx base z perm p g1 g2 (List.replicate 0 (decide (perm < 4)) ++ List.replicate (z - 0) false)))
   case first =>
    go_region
    all_goals (try go_wp2_with fail)
    all_goals go_meet
    all_goals first
     | (refine ⟨_, w1.heap.size, w1.heap.size + 1, rfl, toHid ?_⟩; (refine ⟨?_, ?_, ?_, ((((Touch.refl _ _).alloc _).alloc _).alloc _).drew, ?_, ?_, ?_, ?_, ?_, ?_⟩ <;> first | omega | (refine Blk.drew (Blk.newN ?_ ?_) <;> simp [slV] <;> done) | (refine Blk.drew ((Blk.newN ?_ ?_).alloc _) <;> simp [slV] <;> done) | (refine Blk.drew (((Blk.newN ?_ ?_).alloc _).alloc _) <;> simp [slV] <;> done)); done)
     | (refine ⟨_, w1.heap.size, w1.heap.size + 1 + 1, rfl, toHid ?_⟩; (refine ⟨?_, ?_, ?_, ((((Touch.refl _ _).alloc _).alloc _).alloc _).drew, ?_, ?_, ?_, ?_, ?_, ?_⟩ <;> first | omega | (refine Blk.drew (Blk.newN ?_ ?_) <;> simp [slV] <;> done) | (refine Blk.drew ((Blk.newN ?_ ?_).alloc _) <;> simp [slV] <;> done) | (refine Blk.drew (((Blk.newN ?_ ?_).alloc _).alloc _) <;> simp [slV] <;> done)); done)
     | (refine ⟨_, w1.heap.size + 1, w1.heap.size, rfl, toHid ?_⟩; (refine ⟨?_, ?_, ?_, ((((Touch.refl _ _).alloc _).alloc _).alloc _).drew, ?_, ?_, ?_, ?_, ?_, ?_⟩ <;> first | omega | (refine Blk.drew (Blk.newN ?_ ?_) <;> simp [slV] <;> done) | (refine Blk.drew ((Blk.newN ?_ ?_).alloc _) <;> simp [slV] <;> done) | (refine Blk.drew (((Blk.newN ?_ ?_).alloc _).alloc _) <;> simp [slV] <;> done)); done)
     | (refine ⟨_, w1.heap.size + 1, w1.heap.size + 1 + 1, rfl, toHid ?_⟩; (refine ⟨?_, ?_, ?_, ((((Touch.refl _ _).alloc _).alloc _).alloc _).drew, ?_, ?_, ?_, ?_, ?_, ?_⟩ <;> first | omega | (refine Blk.drew (Blk.newN ?_ ?_) <;> simp <;> done) | (refine Blk.drew ((Blk.newN ?_ ?_).alloc _) <;> simp [slV] <;> done) | (refine Blk.drew (((Blk.newN ?_ ?_).alloc _).alloc _) <;> simp [slV] <;> done)); done)
     | (refine ⟨_, w1.heap.size + 1 + 1, w1.heap.size, rfl, toHid ?_⟩; (refine ⟨?_, ?_, ?_, ((((Touch.refl _ _).alloc _).alloc _).alloc _).drew, ?_, ?_, ?_, ?_, ?_, ?_⟩ <;> first | omega | (refine Blk.drew (Blk.newN ?_ ?_) <;> simp <;> done) | (refine Blk.drew ((Blk.newN ?_ ?_).alloc _) <;> simp [slV] <;> done) | (refine Blk.drew (((Blk.newN ?_ ?_).alloc _).alloc _) <;> simp [slV] <;> done)); done)
     | (refine ⟨_, w1.heap.size + 1 + 1, w1.heap.size + 1, rfl, toHid ?_⟩; (refine ⟨?_, ?_, ?_, ((((Touch.refl _ _).alloc _).alloc _).alloc _).drew, ?_, ?_, ?_, ?_, ?_, ?_⟩ <;> first | omega | (refine Blk.drew (Blk.newN ?_ ?_) <;> simp <;> done) | (refine Blk.drew ((Blk.newN ?_ ?_).alloc _) <;> simp <;> done) | (refine Blk.drew (((Blk.newN ?_ ?_).alloc _).alloc _) <;> simp [slV] <;> done)); done)
   case rest =>
    obtain ⟨p, g1, g2, rfl, H3⟩ := hcut
    have c4 : wc.cell? ⟨p, 4, none⟩ = some _ := H3.out.self.cell rfl
    simp only [slV_some] at c4
    go_wp2
    generalize decide (4096 ≤ (liveN s.all : Int)) = t6
    generalize hbp : decide (perm < 4) = bp at H3
    have HBP := toHid hbp
    go_loopw [95] (fun t w' => ∃ k : Nat, k ≤ z ∧ t = .int .i64 k ∧ Hid (New3 w1 w' base z perm p g1 g2 (List.replicate k bp ++ List.replicate (z - k) false))) (fun t _ => z - (intOf t).toNat)
    case atStart => exact ⟨0, by omega, rfl, H3⟩
    case round =>
     obtain ⟨k2, hk2, rfl, HI⟩ := hrel
     clear c4
     by_cases hlt2 : k2 < z
     ·have c4 : wr.cell? ⟨p, 4, none⟩ = some _ := HI.out.self.cell rfl
      simp only [slV_some] at c4
      have d2 := HI.out.sets.cellN (i := k2) (by simp; omega)
      have f2 := HI.out.sets.frozen k2
      have HN := toHid (HI.out.put k2 bp)
      rw [fill_step z k2 bp hlt2] at HN
      clear HI H3 HC hmk hmk2
      go_wp2
      refine ⟨⟨k2 + 1, by omega, by go_num, HN⟩, by simp [intOf]; omega⟩
     ·have hkz : k2 = z := by omega
      rw [hkz, Nat.sub_self, List.replicate_zero, List.append_nil, ← HBP.out] at HI
      have HL := toHid (radd_last HM.out (HT1.out.trans HI.out.touch (by simp)) HT1.out.size HI.out hlen hb0 hz1 hz2 hfit hp0 hp1 HNB.out)
      obtain ⟨g', cap', w', ha, hb⟩ := HL.out
      obtain ⟨q0, q1, q2, q3, q4, q5, q6, q7⟩ := hb.out
      have HA := toHid ha
      have HE := toHid q7
      have c0 : wr.cell? ⟨p, 0, none⟩ = some _ := HI.out.self.cell rfl
      have c1 : wr.cell? ⟨p, 1, none⟩ = some _ := HI.out.self.cell rfl
      have c2 : wr.cell? ⟨p, 2, none⟩ = some _ := HI.out.self.cell rfl
      have c3 : wr.cell? ⟨p, 3, none⟩ = some _ := HI.out.self.cell rfl
      have c4 : wr.cell? ⟨p, 4, none⟩ = some _ := HI.out.self.cell rfl
      simp only [slV_some] at c3 c4
      simp only [slV] at HA HE q0 q1 q3
      clear ha hb q7 HI HL H3 HC hmk hmk2 hkz
      go_wp2_with fail
      go_region_law (refine step_append_known rfl (.tmp 109) (.tmp 111) 67 67 rfl (.slice (s.g.map fun b => ⟨b, 0, none⟩) s.all.length s.cap) (.slice (some ⟨wr.heap.size, 0, none⟩) 1 1) (by simp [Act.eval]) (by simp [Act.eval]) HA.out ?_)
      all_goals go_wp2
      all_goals go_ret2
      all_goals exact HE.out
theorem radd_good {w : World} {s : RS} (h : RefAt w s) (base : Int) (z : Nat) (perm : Int) (hb0 : 0 ≤ base) (hz1 : 1 ≤ z) (hz2 : z ≤ 65536) (hfit : base + z ≤ 18446744073709551616) (hp0 : 0 ≤ perm) (hp1 : perm ≤ 7) (hlen : s.all.length < 1000) :
  Calls Tryz.prog 30 #[.pointer (some ⟨s.m, 0, none⟩), .int .u64 base, .int .i64 z, .int .i64 perm] w (RAddPost w s base z perm) := by
 obtain hg | ⟨b, hg⟩ : s.g = none ∨ ∃ b, s.g = some b := by cases s.g <;> simp
 ·exact radd_none h hg base z perm hb0 hz1 hz2 hfit hp0 hp1 hlen
 ·exact radd_some h hg base z perm hb0 hz1 hz2 hfit hp0 hp1 hlen
end Go.Proofs.YtmhhahmjkopjhaaGreat.Mem
end
section
namespace Go.Proofs.YtmhhahmjkopjhaaGreat.Mem
open Go.RowKit
def raddE (all : List RReg) (base size perm : Int) : Int := if mayBeB base size perm = false then 2 else if rbusy all base size = true then 12 else 0
def RAddPost' (w : World) (s : RS) (base size perm : Int) (e : Ending) (w' : World) : Prop :=
 e = .returned (.tuple #[.int .i64 (if raddE s.all base size perm = 0 then (s.all.length : Int) else 0), .int .i64 (raddE s.all base size perm)]) ∧ Touch s.blocks w w' ∧ ∃ s', RefAt w' s' ∧ s'.m = s.m ∧ (∀ x ∈ s'.blocks, x ∈ s.blocks ∨ w.heap.size ≤ x) ∧
  (raddE s.all base size perm ≠ 0 → s'.all = s.all) ∧
  (raddE s.all base size perm = 0 → ∃ r, s'.all = s.all ++ [r] ∧ r.live = true ∧ r.base = base ∧ r.perm = perm ∧ r.bytes = List.replicate size.toNat 0 ∧ r.set = List.replicate size.toNat (decide (perm < 4)))
theorem radd_bad {w : World} {s : RS} (h : RefAt w s) (base size perm : Int) (_hb0 : 0 ≤ base) (_hb1 : base ≤ 18446744073709551615) (hm : mayBeB base size perm = false) :
  Calls Tryz.prog 30 #[.pointer (some ⟨s.m, 0, none⟩), .int .u64 base, .int .i64 size, .int .i64 perm] w (RAddPost' w s base size perm) := by
 have he : raddE s.all base size perm = 2 := by unfold raddE; rw [if_pos hm]
 have HF : Hid (RAddPost' w s base size perm (.returned (.tuple #[.int .i64 0, .int .i64 2])) w) :=
  ⟨by rw [he]; rfl, Touch.refl _ w, s, h, rfl, fun x hx => Or.inl hx, fun _ => rfl, fun hh => by rw [he] at hh; cases hh⟩
 unfold mayBeB at hm
 have hm := of_decide_eq_false hm
 clear he h
 by_cases h1 : size < 1
 ·clear hm
  go_enter Tryz.func30, Tryz.ntmps30
  go_wp2
  go_ret2
  exact HF.out
 ·by_cases h2 : 65536 < size
  ·clear hm
   go_enter Tryz.func30, Tryz.ntmps30
   go_wp2
   go_ret2
   exact HF.out
  ·by_cases h3 : perm < 0
   ·clear hm
    go_enter Tryz.func30, Tryz.ntmps30
    go_wp2
    go_ret2
    exact HF.out
   ·by_cases h4 : 7 < perm
    ·clear hm
     go_enter Tryz.func30, Tryz.ntmps30
     go_wp2
     go_ret2
     exact HF.out
    ·have hw0 : IntKind.u64.wrap (IntKind.u64.wrap (18446744073709551615 - IntKind.u64.wrap size) + 1) = 18446744073709551616 - size := by simp only [IntKind.wrap_u64]; omega
     have h5 : 18446744073709551616 - size < base := by omega
     clear hm
     go_enter Tryz.func30, Tryz.ntmps30
     go_wp2
     go_ret2
     exact HF.out
theorem radd_any {w : World} {s : RS} (h : RefAt w s) (base size perm : Int) (hb0 : 0 ≤ base) (hb1 : base ≤ 18446744073709551615) (hlen : s.all.length < 1000) :
  Calls Tryz.prog 30 #[.pointer (some ⟨s.m, 0, none⟩), .int .u64 base, .int .i64 size, .int .i64 perm] w (RAddPost' w s base size perm) := by
 cases hm : mayBeB base size perm with
 | false => exact radd_bad h base size perm hb0 hb1 hm
 | true =>
  have hb := of_decide_eq_true hm
  obtain ⟨z, rfl⟩ : ∃ z : Nat, size = z := ⟨size.toNat, by omega⟩
  refine (radd_good h base z perm hb0 (by omega) (by omega) (by omega) (by omega) (by omega) hlen).mono ?_
  rintro e w' (⟨hbz, rfl, hr, ht⟩ | ⟨hbz, rfl, ht, s', r, hr, hsm, hbl, hall, h1, h2, h3, h4, h5⟩)
  ·have he : raddE s.all base z perm = 12 := by unfold raddE; rw [if_neg (by rw [hm]; decide), if_pos hbz]
   exact ⟨by rw [he]; rfl, ht.nil, s, hr, rfl, fun x hx => Or.inl hx, fun _ => rfl, fun hh => by rw [he] at hh; cases hh⟩
  ·have he : raddE s.all base z perm = 0 := by unfold raddE; rw [if_neg (by rw [hm]; decide), if_neg (by rw [hbz]; decide)]
   exact ⟨by rw [he]; rfl, ht, s', hr, hsm, hbl, fun hh => absurd he hh, fun _ => ⟨r, hall, h1, h2, h3, by simpa using h4, by simpa using h5⟩⟩
end Go.Proofs.YtmhhahmjkopjhaaGreat.Mem
end
section
namespace Go.Proofs.YtmhhahmjkopjhaaGreat.Mem
open Go.RowKit
def OwnAt (w0 w : World) (v : Value) (bs : List Int) : Prop := ∃ g cap, v = slV g bs.length cap ∧ RowAt w 5 1 g bs.length cap (bs.map (Value.int .u8)) ∧ ∀ b, g = some b → w0.heap.size ≤ b
theorem OwnAt.nil (w0 w : World) : OwnAt w0 w (.slice none 0 0) [] := ⟨none, 0, rfl, ⟨rfl, Nat.le_refl _, by unfold maxLen; omega, rfl⟩, fun b hb => by cases hb⟩
theorem OwnAt.push {w0 w : World} {v : Value} {bs : List Int} (h : OwnAt w0 w v bs) (ht : Touch [] w0 w) (x : Int) (hl : bs.length ≤ 100000) :
  ∃ v' w', (Builtin.append_ #[39, 39] 39 #[v, .slice (some ⟨w.heap.size, 0, none⟩) 1 1]).run Tryz.prog (w.alloc (.cells #[.int .u8 x] 5)) = .ok v' w' ∧ OwnAt w0 w' v' (bs ++ [x]) ∧ Touch [] w0 w' := by
 obtain ⟨g, cap, rfl, hrow, hg⟩ := h
 obtain ⟨i, hi, hz, hs, hb⟩ := info_of info5
 have hN := Blk.newA w #[.int .u8 x] _ 5 rfl
 have hta : Touch [] w (w.alloc (.cells #[.int .u8 x] 5)) := (Touch.refl _ w).alloc _
 obtain ⟨g', cap', w', hr, h2, h3, h4, _⟩ := run_append_row (P := Tryz.prog) (w.alloc (.cells #[.int .u8 x] 5)) 39 39 5 i (.int .u8 0) 1 Tryz.underlying39 hi hz hs rfl (by omega) g bs.length cap _ (hrow.touch hta (by simp)) ⟨w.heap.size, 0, none⟩ 1 1 [.int .u8 x] rfl
  (fun j u hj => by
   have : j = 0 := by have := (List.getElem?_eq_some_iff.1 hj).1; simp at this; exact this
   subst this
   exact hN.cell hj) (fun u hu => by simp at hu; subst hu; rfl) (by rw [hb]; omega) (by omega)
 have hsz := ht.size
 refine ⟨_, w', hr, ⟨g', cap', by simp, by simpa using h2, fun b hb => ?_⟩, (ht.trans hta (by simp)).trans h3 (fun y hy => Or.inr (hg y (by simpa using hy)))⟩
 rcases h4 with rfl | rfl
 ·exact hg b hb
 ·injection hb with hb
  simp at hb
  omega
theorem rbytes_any (v : Int) (n : Nat) (w : World) (hv0 : 0 ≤ v) (hv1 : v ≤ 18446744073709551615) (hn : n ≤ 8) :
  Calls Tryz.prog 67 #[.int .u64 v, .int .i64 n] w fun e w' => (∃ x, e = .returned x ∧ OwnAt w w' x ((List.range n).map (byteOf v))) ∧ Touch [] w w' := by
 have HD : ∀ k : Nat, 0 ≤ v / 256 ^ k ∧ v / 256 ^ k ≤ 18446744073709551615 := fun k => by
  have h1 : 0 ≤ v / 256 ^ k := Int.ediv_nonneg hv0 (Int.pow_nonneg (by omega))
  have h2 : v / 256 ^ k ≤ v := Int.ediv_le_self _ hv0
  omega
 have HDD := toHid HD
 clear HD
 go_enter Tryz.func67, Tryz.ntmps67
 go_wp2
 go_loopw [0, 5, 6] (fun x o t w' => ∃ k : Nat, k ≤ n ∧ t = .int .i64 k ∧ x = .int .u64 (v / 256 ^ k) ∧ Hid (OwnAt w w' o ((List.range k).map (byteOf v)) ∧ Touch [] w w')) (fun _ _ t _ => n - (intOf t).toNat)
 case atStart => exact ⟨0, by omega, rfl, by simp, OwnAt.nil _ _, Touch.refl _ _⟩
 case round =>
  rename_i wr
  obtain ⟨k, hk, rfl, rfl, HI⟩ := hrel
  by_cases hlt : k < n
  ·have hd := HDD.out k
   obtain ⟨v', w', hr, ho, ht⟩ := HI.out.1.push HI.out.2 (byteOf v k) (by simp; omega)
   have HRR := toHid hr
   have HO := toHid (And.intro ho ht)
   have hby : v / 256 ^ k % 256 = byteOf v k := rfl
   have hbd := byteOf_bd v k
   have HDS : Hid (v / 256 ^ k / 256 = v / 256 ^ (k + 1)) := by
    show v / 256 ^ k / 256 = v / 256 ^ (k + 1)
    rw [Int.pow_succ, Int.ediv_ediv_of_nonneg (Int.pow_nonneg (by omega))]
   generalize hq : v / 256 ^ k = q at *
   generalize hy : byteOf v k = y at *
   have HY := toHid hy
   clear hr ho ht hq hy
   go_wp2_with (at_builtin; refine Lib.wpList_append_run _ rfl _ _ _ _ rfl _ _ rfl rfl _ _ HRR.out ?_)
   refine ⟨⟨k + 1, by omega, by go_num, by rw [HDS.out], ?_⟩, by simp [intOf]; omega⟩
   rw [List.range_succ, List.map_append, List.map_singleton, HY.out]
   exact HO.out
  ·obtain rfl : k = n := by omega
   go_wp2
   go_ret
   exact ⟨⟨_, rfl, HI.out.1⟩, HI.out.2⟩
theorem num_shift (bs : Nat → Int) : ∀ m, num bs (m + 1) = bs 0 + 256 * num (fun j => bs (j + 1)) m
 | 0 => by simp [num]
 | m + 1 => by
  have e := num_shift bs m
  show num bs (m + 1) + bs (m + 1) * 256 ^ (m + 1) = _
  rw [e]
  show _ = bs 0 + 256 * (num (fun j => bs (j + 1)) m + bs (m + 1) * 256 ^ m)
  rw [Int.mul_add, Int.pow_succ, Int.add_assoc]
  congr 2
  rw [Int.mul_comm 256, Int.mul_assoc]
theorem rnumber_any (v : Value) (b off n c : Nat) (bs : Nat → Int) (w : World) (hv : v = .slice (some ⟨b, off, none⟩) n c) (hn : n ≤ 8)
  (hc : ∀ j, j < n → w.cell? ⟨b, off + j, none⟩ = some (.int .u8 (bs j))) (hb : ∀ j, j < n → 0 ≤ bs j ∧ bs j ≤ 255) :
  Calls Tryz.prog 97 #[v] w fun e w' => e = .returned (.int .u64 (num bs n)) ∧ w' = w := by
 subst hv
 have HC := toHid hc
 have HB := toHid hb
 clear hc hb
 go_enter Tryz.func97, Tryz.ntmps97
 go_wp2
 go_loop [3, 4] (fun x t => ∃ k : Nat, k ≤ n ∧ t = .int .i64 ((k : Int) - 1) ∧ x = .int .u64 (num (fun j => bs (k + j)) (n - k))) (fun _ t => ((intOf t) + 1).toNat)
 case atStart => exact ⟨n, by omega, by go_num, by rw [Nat.sub_self]; rfl⟩
 case round =>
  obtain ⟨k, hk, rfl, rfl⟩ := hrel
  by_cases hlt : 0 < k
  ·obtain ⟨q, rfl⟩ : ∃ q, k = q + 1 := ⟨k - 1, by omega⟩
   have c1 := HC.out q (by omega)
   have c2 := HB.out q (by omega)
   have hbd := num_bd (fun j => bs (q + 1 + j)) (n - (q + 1)) (fun j hj => HB.out _ (by omega))
   have hpow : (256 : Int) ^ (n - (q + 1)) ≤ 256 ^ 7 := by
    have : (256 : Nat) ^ (n - (q + 1)) ≤ 256 ^ 7 := Nat.pow_le_pow_right (by omega) (by omega)
    have h2 : ((256 ^ (n - (q + 1)) : Nat) : Int) ≤ ((256 ^ 7 : Nat) : Int) := by omega
    rw [Int.natCast_pow] at h2
    exact h2
   have hst : num (fun j => bs (q + j)) (n - q) = bs q + 256 * num (fun j => bs (q + 1 + j)) (n - (q + 1)) := by
    have e := num_shift (fun j => bs (q + j)) (n - (q + 1))
    rw [show n - (q + 1) + 1 = n - q by omega] at e
    rw [e]
    simp only [Nat.add_zero]
    congr 2
    exact num_congr _ (fun j _ => by rw [show q + (j + 1) = q + 1 + j by omega])
   have HST := toHid hst
   have hx0 := hbd.1
   have hx1 : num (fun j => bs (q + 1 + j)) (n - (q + 1)) < 72057594037927936 := by omega
   generalize num (fun j => bs (q + 1 + j)) (n - (q + 1)) = x at *
   have hw1 : IntKind.u64.wrap (x * 256) = x * 256 := by rw [IntKind.wrap_u64]; omega
   have hw2 : IntKind.u64.wrap (x * 256 + bs q) = x * 256 + bs q := by rw [IntKind.wrap_u64]; omega
   clear hbd hst hpow
   go_wp2
   refine ⟨⟨q, by omega, rfl, ?_⟩, by simp [intOf] <;> omega⟩
   rw [HST.out]
   congr 1
   omega
  ·obtain rfl : k = 0 := by omega
   go_wp2
   go_ret
   refine ⟨ret_int ?_, rfl⟩
   simp
end Go.Proofs.YtmhhahmjkopjhaaGreat.Mem
end
section
namespace Go.Proofs.YtmhhahmjkopjhaaGreat.Mem
open Go.RowKit
def rlookE (all : List RReg) (addr n : Int) : Int := match accI all addr n canR with
 | none => 10
 | some i => if ((((all.getD i RReg.zero).set.drop (addr - (all.getD i RReg.zero).base).toNat).take n.toNat).all (fun x => x)) = true then 0 else 11
def rtell (all : List RReg) (addr n : Int) : List Int := match accI all addr n canR with
 | none => []
 | some i => if ((((all.getD i RReg.zero).set.drop (addr - (all.getD i RReg.zero).base).toNat).take n.toNat).all (fun x => x)) = true then ((all.getD i RReg.zero).bytes.drop (addr - (all.getD i RReg.zero).base).toNat).take n.toNat else []
def rreadE (all : List RReg) (addr n : Int) : Int := if n < 0 then 2 else if n = 0 then 0 else rlookE all addr n
def rreadV (all : List RReg) (addr n : Int) : List Int := if n ≤ 0 then [] else rtell all addr n
def RReadPost (w : World) (s : RS) (addr n : Int) (e : Ending) (w' : World) : Prop := ∃ v, e = .returned (.tuple #[v, .int .i64 (rreadE s.all addr n)]) ∧ OwnAt w w' v (rreadV s.all addr n) ∧ Touch [] w w'
end Go.Proofs.YtmhhahmjkopjhaaGreat.Mem
end
section
namespace Go.Proofs.YtmhhahmjkopjhaaGreat.Mem
open Go.RowKit
def rloadE (all : List RReg) (addr n : Int) : Int := if wordB n = true then rlookE all addr n else 2
def rloadV (all : List RReg) (addr n : Int) : Int := if wordB n = true ∧ rlookE all addr n = 0 then num (fun j => (rtell all addr n).getD j 0) n.toNat else 0
def rstoreE (all : List RReg) (addr n : Int) : Int := if wordB n = true then (match accI all addr n canW with
 | none => 10
 | some _ => 0) else 2
def rstoreAll (all : List RReg) (addr n v : Int) : List RReg := if wordB n = true then rwriteAll all addr ((List.range n.toNat).map (byteOf v)) else all
theorem rstore_any {w : World} {s : RS} (h : RefAt w s) (addr n v : Int) (ha0 : 0 ≤ addr) (ha1 : addr ≤ 18446744073709551615) (hv0 : 0 ≤ v) (hv1 : v ≤ 18446744073709551615) :
  Calls Tryz.prog 39 #[.pointer (some ⟨s.m, 0, none⟩), .int .u64 addr, .int .i64 n, .int .u64 v] w fun e w' => e = .returned (.int .i64 (rstoreE s.all addr n)) ∧ RefStep w s (rstoreAll s.all addr n v) w' := by
 cases hw : wordB n with
 | false =>
  have HV : Hid (rstoreE s.all addr n = 2 ∧ RefStep w s (rstoreAll s.all addr n v) w) := by
   refine ⟨by unfold rstoreE; rw [hw]; rfl, ?_⟩
   unfold rstoreAll
   rw [hw]
   exact RefStep.same h (Touch.refl _ _)
  have q : ¬ n = 1 ∧ ¬ n = 2 ∧ ¬ n = 4 ∧ ¬ n = 8 := by
   refine ⟨?_, ?_, ?_, ?_⟩ <;> (intro e; subst e; exact absurd hw (by decide))
  have q1 : (n != 1) = true := by simpa using q.1
  have q2 : (n != 2) = true := by simpa using q.2.1
  have q4 : (n != 4) = true := by simpa using q.2.2.1
  have q8 : (n != 8) = true := by simpa using q.2.2.2
  clear h hw q
  go_enter Tryz.func39, Tryz.ntmps39
  go_wp2
  go_ret
  exact ⟨by rw [HV.out.1]; rfl, HV.out.2⟩
 | true =>
  rcases word_of hw with rfl | rfl | rfl | rfl
  ·have HB := toHid (rbytes_any v 1 w hv0 hv1 (by decide))
   have HM := toHid h
   clear h hw
   go_enter Tryz.func39, Tryz.ntmps39
   go_wp2_with fail
   refine HB.out.mono ?_
   rintro e w1 ⟨⟨x1, rfl, hx1⟩, ht1⟩
   have hM := HM.out.touch ht1 (by simp)
   have hArg : ArgOut w1 s.blocks x1 ((List.range 1).map (byteOf v)) := by
    obtain ⟨g, cap, rfl, hrow, hg⟩ := hx1
    refine ⟨_, cap, rfl, fun y hy => ?_, by simp, fun _ => ?_⟩
    ·obtain ⟨j, _, rfl⟩ := List.mem_map.1 hy
     exact byteOf_bd v j
    ·cases g with
     | none => have h1 : cap = 0 := hrow.2.2.2; have h2 := hrow.2.1; simp at h2; omega
     | some b =>
      obtain ⟨_, _, _, rest, hB, _⟩ := hrow
      refine ⟨b, 0, rfl, fun hb => ?_, fun j u hj => ?_⟩
      ·have := HM.out.lt b hb
       have := hg b rfl
       omega
      ·rw [Nat.zero_add]
       refine hB.cell ?_
       rw [List.getElem?_append_left (List.getElem?_eq_some_iff.1 hj).1]
       exact hj
   have HW := toHid (rwrite_any hM addr x1 ((List.range 1).map (byteOf v)) ha0 ha1 hArg)
   have HT := toHid ht1
   have HE : Hid (rwriteE s.all addr ((List.range 1).map (byteOf v)) = rstoreE s.all addr 1) := rfl
   clear hM hArg ht1 HB hx1
   go_wp2_with fail
   refine HW.out.mono ?_
   rintro e w2 ⟨rfl, q1, q2, q3⟩
   have H9 : Hid (RefStep w s (rstoreAll s.all addr 1 v) w2) := ⟨q1, q2, HT.out.nil.trans q3 (fun x hx => Or.inl hx)⟩
   rw [HE.out]
   clear q1 q2 q3 HW
   generalize hx : rstoreE s.all addr 1 = x
   have HX := toHid hx
   clear hx
   go_wp2
   go_ret
   exact ⟨by rw [HX.out]; rfl, H9.out⟩
  ·have HB := toHid (rbytes_any v 2 w hv0 hv1 (by decide))
   have HM := toHid h
   clear h hw
   go_enter Tryz.func39, Tryz.ntmps39
   go_wp2_with fail
   refine HB.out.mono ?_
   rintro e w1 ⟨⟨x1, rfl, hx1⟩, ht1⟩
   have hM := HM.out.touch ht1 (by simp)
   have hArg : ArgOut w1 s.blocks x1 ((List.range 2).map (byteOf v)) := by
    obtain ⟨g, cap, rfl, hrow, hg⟩ := hx1
    refine ⟨_, cap, rfl, fun y hy => ?_, by simp, fun _ => ?_⟩
    ·obtain ⟨j, _, rfl⟩ := List.mem_map.1 hy
     exact byteOf_bd v j
    ·cases g with
     | none => have h1 : cap = 0 := hrow.2.2.2; have h2 := hrow.2.1; simp at h2; omega
     | some b =>
      obtain ⟨_, _, _, rest, hB, _⟩ := hrow
      refine ⟨b, 0, rfl, fun hb => ?_, fun j u hj => ?_⟩
      ·have := HM.out.lt b hb
       have := hg b rfl
       omega
      ·rw [Nat.zero_add]
       refine hB.cell ?_
       rw [List.getElem?_append_left (List.getElem?_eq_some_iff.1 hj).1]
       exact hj
   have HW := toHid (rwrite_any hM addr x1 ((List.range 2).map (byteOf v)) ha0 ha1 hArg)
   have HT := toHid ht1
   have HE : Hid (rwriteE s.all addr ((List.range 2).map (byteOf v)) = rstoreE s.all addr 2) := rfl
   clear hM hArg ht1 HB hx1
   go_wp2_with fail
   refine HW.out.mono ?_
   rintro e w2 ⟨rfl, q1, q2, q3⟩
   have H9 : Hid (RefStep w s (rstoreAll s.all addr 2 v) w2) := ⟨q1, q2, HT.out.nil.trans q3 (fun x hx => Or.inl hx)⟩
   rw [HE.out]
   clear q1 q2 q3 HW
   generalize hx : rstoreE s.all addr 2 = x
   have HX := toHid hx
   clear hx
   go_wp2
   go_ret
   exact ⟨by rw [HX.out]; rfl, H9.out⟩
  ·have HB := toHid (rbytes_any v 4 w hv0 hv1 (by decide))
   have HM := toHid h
   clear h hw
   go_enter Tryz.func39, Tryz.ntmps39
   go_wp2_with fail
   refine HB.out.mono ?_
   rintro e w1 ⟨⟨x1, rfl, hx1⟩, ht1⟩
   have hM := HM.out.touch ht1 (by simp)
   have hArg : ArgOut w1 s.blocks x1 ((List.range 4).map (byteOf v)) := by
    obtain ⟨g, cap, rfl, hrow, hg⟩ := hx1
    refine ⟨_, cap, rfl, fun y hy => ?_, by simp, fun _ => ?_⟩
    ·obtain ⟨j, _, rfl⟩ := List.mem_map.1 hy
     exact byteOf_bd v j
    ·cases g with
     | none => have h1 : cap = 0 := hrow.2.2.2; have h2 := hrow.2.1; simp at h2; omega
     | some b =>
      obtain ⟨_, _, _, rest, hB, _⟩ := hrow
      refine ⟨b, 0, rfl, fun hb => ?_, fun j u hj => ?_⟩
      ·have := HM.out.lt b hb
       have := hg b rfl
       omega
      ·rw [Nat.zero_add]
       refine hB.cell ?_
       rw [List.getElem?_append_left (List.getElem?_eq_some_iff.1 hj).1]
       exact hj
   have HW := toHid (rwrite_any hM addr x1 ((List.range 4).map (byteOf v)) ha0 ha1 hArg)
   have HT := toHid ht1
   have HE : Hid (rwriteE s.all addr ((List.range 4).map (byteOf v)) = rstoreE s.all addr 4) := rfl
   clear hM hArg ht1 HB hx1
   go_wp2_with fail
   refine HW.out.mono ?_
   rintro e w2 ⟨rfl, q1, q2, q3⟩
   have H9 : Hid (RefStep w s (rstoreAll s.all addr 4 v) w2) := ⟨q1, q2, HT.out.nil.trans q3 (fun x hx => Or.inl hx)⟩
   rw [HE.out]
   clear q1 q2 q3 HW
   generalize hx : rstoreE s.all addr 4 = x
   have HX := toHid hx
   clear hx
   go_wp2
   go_ret
   exact ⟨by rw [HX.out]; rfl, H9.out⟩
  ·have HB := toHid (rbytes_any v 8 w hv0 hv1 (by decide))
   have HM := toHid h
   clear h hw
   go_enter Tryz.func39, Tryz.ntmps39
   go_wp2_with fail
   refine HB.out.mono ?_
   rintro e w1 ⟨⟨x1, rfl, hx1⟩, ht1⟩
   have hM := HM.out.touch ht1 (by simp)
   have hArg : ArgOut w1 s.blocks x1 ((List.range 8).map (byteOf v)) := by
    obtain ⟨g, cap, rfl, hrow, hg⟩ := hx1
    refine ⟨_, cap, rfl, fun y hy => ?_, by simp, fun _ => ?_⟩
    ·obtain ⟨j, _, rfl⟩ := List.mem_map.1 hy
     exact byteOf_bd v j
    ·cases g with
     | none => have h1 : cap = 0 := hrow.2.2.2; have h2 := hrow.2.1; simp at h2; omega
     | some b =>
      obtain ⟨_, _, _, rest, hB, _⟩ := hrow
      refine ⟨b, 0, rfl, fun hb => ?_, fun j u hj => ?_⟩
      ·have := HM.out.lt b hb
       have := hg b rfl
       omega
      ·rw [Nat.zero_add]
       refine hB.cell ?_
       rw [List.getElem?_append_left (List.getElem?_eq_some_iff.1 hj).1]
       exact hj
   have HW := toHid (rwrite_any hM addr x1 ((List.range 8).map (byteOf v)) ha0 ha1 hArg)
   have HT := toHid ht1
   have HE : Hid (rwriteE s.all addr ((List.range 8).map (byteOf v)) = rstoreE s.all addr 8) := rfl
   clear hM hArg ht1 HB hx1
   go_wp2_with fail
   refine HW.out.mono ?_
   rintro e w2 ⟨rfl, q1, q2, q3⟩
   have H9 : Hid (RefStep w s (rstoreAll s.all addr 8 v) w2) := ⟨q1, q2, HT.out.nil.trans q3 (fun x hx => Or.inl hx)⟩
   rw [HE.out]
   clear q1 q2 q3 HW
   generalize hx : rstoreE s.all addr 8 = x
   have HX := toHid hx
   clear hx
   go_wp2
   go_ret
   exact ⟨by rw [HX.out]; rfl, H9.out⟩
end Go.Proofs.YtmhhahmjkopjhaaGreat.Mem
end
section
namespace Go.Proofs.YtmhhahmjkopjhaaGreat.Mem
open Go.RowKit
def pokeB (len at_ n : Int) : Bool := decide (0 ≤ at_ ∧ at_ ≤ len - n)
def rpokeE (all : List RReg) (id at_ : Int) (bs : List Int) : Int := if hasB' all id = true then (if pokeB (all.getD id.toNat RReg.zero).bytes.length at_ bs.length = true then 0 else 2) else 14
def rpokeAll (all : List RReg) (id at_ : Int) (bs : List Int) : List RReg := if hasB' all id = true ∧ pokeB (all.getD id.toNat RReg.zero).bytes.length at_ bs.length = true then all.set id.toNat (rlayR (all.getD id.toNat RReg.zero) at_.toNat bs) else all
def pokeE (rs : List Reg) (id at_ : Int) (bs : List Int) : Int := match regOf rs id with
 | none => 14
 | some r => if pokeB r.bytes.length at_ bs.length = true then 0 else 2
def pokeRs (rs : List Reg) (id at_ : Int) (bs : List Int) : List Reg := match regOf rs id with
 | none => rs
 | some r => if pokeB r.bytes.length at_ bs.length = true then updR rs r.id (layR · at_.toNat bs) else rs
def PokePost (w : World) (s : MS) (id at_ : Int) (bs : List Int) (e : Ending) (w' : World) : Prop :=
 e = .returned (.int .i64 (pokeE s.rs id at_ bs)) ∧ Touch s.blocks w w' ∧ MemAt w' { s with rs := pokeRs s.rs id at_ bs } ∧ ({ s with rs := pokeRs s.rs id at_ bs } : MS).blocks = s.blocks
end Go.Proofs.YtmhhahmjkopjhaaGreat.Mem
end
section
namespace Go.Proofs.YtmhhahmjkopjhaaGreat.Mem
open Go.RowKit
def setOf (r : Reg) : List Bool := match r.sb with
 | none => List.replicate r.bytes.length true
 | some _ => r.set
structure Twin (r : Reg) (x : RReg) : Prop where
 live : x.live = true
 base : x.base = r.base
 perm : x.perm = r.perm
 bytes : x.bytes = r.bytes
 set : x.set = setOf r
structure Rel (rs : List Reg) (next : Nat) (all : List RReg) : Prop where
 len : next = all.length
 there : ∀ r ∈ rs, ∃ i : Nat, ∃ x, all[i]? = some x ∧ r.id = i ∧ Twin r x
 back : ∀ (i : Nat) x, all[i]? = some x → x.live = true → ∃ r ∈ rs, r.id = i ∧ Twin r x
theorem Rel.empty : Rel [] 0 [] := ⟨rfl, fun _ hr => absurd hr (by simp), fun i x hx => by simp at hx⟩
theorem Rel.busy {rs : List Reg} {next : Nat} {all : List RReg} (h : Rel rs next all) (base size : Int) : rbusy all base size = busyB rs base size := by
 rw [Bool.eq_iff_iff]
 unfold rbusy busyB
 rw [List.any_eq_true, List.any_eq_true]
 constructor
 ·rintro ⟨x, hx, hb⟩
  unfold rbusyR at hb
  rw [Bool.and_eq_true] at hb
  obtain ⟨i, hi, rfl⟩ := List.getElem_of_mem hx
  obtain ⟨r, hr, _, ht⟩ := h.back i _ (List.getElem?_eq_getElem hi) hb.1
  refine ⟨r, hr, ?_⟩
  rw [← ht.base, ← ht.bytes]
  exact hb.2
 ·rintro ⟨r, hr, hb⟩
  obtain ⟨i, x, hx, _, ht⟩ := h.there r hr
  refine ⟨x, List.mem_of_getElem? hx, ?_⟩
  unfold rbusyR
  rw [ht.live, ht.base, ht.bytes, Bool.true_and]
  exact hb
theorem Rel.addE {rs : List Reg} {next : Nat} {all : List RReg} (h : Rel rs next all) (hm : rs.length < 4096) (base size perm : Int) : raddE all base size perm = addE rs base size perm := by
 unfold raddE YtmhhahmjkopjhaaGreat.Mem.addE
 rw [h.busy, if_neg (show ¬ 4096 ≤ rs.length by omega)]
theorem Rel.add {rs : List Reg} {next : Nat} {all : List RReg} (h : Rel rs next all) {i : Nat} {r : Reg} {x : RReg} (hid : r.id = next) (ht : Twin r x) : Rel (rs.take i ++ r :: rs.drop i) (next + 1) (all ++ [x]) := by
 have hl := h.len
 have hmem : ∀ y, y ∈ rs.take i ++ r :: rs.drop i ↔ y = r ∨ y ∈ rs := by
  intro y
  rw [List.mem_append, List.mem_cons]
  constructor
  ·rintro (hx | rfl | hx)
   ·exact Or.inr (List.mem_of_mem_take hx)
   ·exact Or.inl rfl
   ·exact Or.inr (List.mem_of_mem_drop hx)
  ·rintro (rfl | hx)
   ·exact Or.inr (Or.inl rfl)
   ·rw [← List.take_append_drop i rs, List.mem_append] at hx
    rcases hx with hx | hx
    ·exact Or.inl hx
    ·exact Or.inr (Or.inr hx)
 refine ⟨by simp [hl], fun y hy => ?_, fun j y hy hlv => ?_⟩
 ·rcases (hmem y).1 hy with rfl | hy
  ·exact ⟨all.length, x, by simp, by rw [hid, hl], ht⟩
  ·obtain ⟨j, z, hz, hj, hzt⟩ := h.there y hy
   exact ⟨j, z, by rw [List.getElem?_append_left (List.getElem?_eq_some_iff.1 hz).1]; exact hz, hj, hzt⟩
 ·by_cases hj : j < all.length
  ·rw [List.getElem?_append_left hj] at hy
   obtain ⟨z, hz, hzj, hzt⟩ := h.back j y hy hlv
   exact ⟨z, (hmem z).2 (Or.inr hz), hzj, hzt⟩
  ·rw [List.getElem?_append_right (by omega)] at hy
   have hj0 : j - all.length = 0 := by
    have := (List.getElem?_eq_some_iff.1 hy).1
    simp at this
    omega
   rw [hj0] at hy
   simp at hy
   subst hy
   exact ⟨r, (hmem r).2 (Or.inl rfl), by rw [hid, hl]; omega, ht⟩
theorem hasB_one {rs : List Reg} (hs : rs.Pairwise (fun a b => a.base + (a.bytes.length : Int) ≤ b.base)) {r r' : Reg} (hr : r ∈ rs) (hr' : r' ∈ rs) {addr : Int} (h : hasB r addr = true) (h' : hasB r' addr = true) : r = r' := by
 unfold hasB at h h'
 rw [decide_eq_true_eq] at h h'
 rw [List.pairwise_iff_getElem] at hs
 obtain ⟨i, hi, rfl⟩ := List.getElem_of_mem hr
 obtain ⟨j, hj, rfl⟩ := List.getElem_of_mem hr'
 by_cases hij : i < j
 ·have := hs i j hi hj hij; omega
 ·by_cases hji : j < i
  ·have := hs j i hj hi hji; omega
  ·have e : i = j := by omega
   subst e
   rfl
theorem Rel.findSome {rs : List Reg} {next : Nat} {all : List RReg} (h : Rel rs next all) (hs : rs.Pairwise (fun a b => a.base + (a.bytes.length : Int) ≤ b.base)) {addr : Int} {r : Reg} (hf : findR rs addr = some r) :
  ∃ i : Nat, ∃ x, all.findIdx? (rhasB · addr) = some i ∧ all[i]? = some x ∧ r.id = i ∧ Twin r x := by
 have hr : r ∈ rs := List.mem_of_find?_eq_some hf
 have hb : hasB r addr = true := by have := List.find?_some hf; exact this
 obtain ⟨i, x, hx, hi, ht⟩ := h.there r hr
 have hxb : rhasB x addr = true := by
  unfold rhasB
  rw [ht.live, ht.base, ht.bytes, Bool.true_and]
  exact hb
 cases hq : all.findIdx? (rhasB · addr) with
 | none =>
  rw [List.findIdx?_eq_none_iff] at hq
  have := hq x (List.mem_of_getElem? hx)
  rw [hxb] at this
  cases this
 | some j =>
  rw [List.findIdx?_eq_some_iff_getElem] at hq
  obtain ⟨hj, hp, _⟩ := hq
  have hl : (all[j]).live = true := by unfold rhasB at hp; rw [Bool.and_eq_true] at hp; exact hp.1
  obtain ⟨r', hr', hi', ht'⟩ := h.back j _ (List.getElem?_eq_getElem hj) hl
  have hb' : hasB r' addr = true := by
   unfold rhasB at hp
   rw [hl, ht'.base, ht'.bytes, Bool.true_and] at hp
   exact hp
  obtain rfl := hasB_one hs hr hr' hb hb'
  exact ⟨j, _, rfl, List.getElem?_eq_getElem hj, hi', ht'⟩
theorem Rel.findNone {rs : List Reg} {next : Nat} {all : List RReg} (h : Rel rs next all) {addr : Int} (hf : findR rs addr = none) : all.findIdx? (rhasB · addr) = none := by
 rw [List.findIdx?_eq_none_iff]
 intro x hx
 unfold findR at hf
 rw [List.find?_eq_none] at hf
 cases hp : rhasB x addr with
 | false => rfl
 | true =>
  have hl : x.live = true := by unfold rhasB at hp; rw [Bool.and_eq_true] at hp; exact hp.1
  obtain ⟨i, hi, rfl⟩ := List.getElem_of_mem hx
  obtain ⟨r, hr, _, ht⟩ := h.back i _ (List.getElem?_eq_getElem hi) hl
  refine absurd ?_ (hf r hr)
  unfold rhasB at hp
  rw [hl, ht.base, ht.bytes, Bool.true_and] at hp
  exact hp
theorem setOf_lay {r : Reg} {a : Nat} {bs : List Int} (_h : a + bs.length ≤ r.bytes.length) : setOf (layR r a bs) = laidTo (setOf r) a (List.replicate bs.length true) bs.length := by
 unfold setOf laidTo layR
 cases r.sb with
 | none =>
  simp only [List.take_replicate, List.drop_replicate, List.replicate_append_replicate, List.length_append, List.length_take, List.length_drop, Nat.min_self]
 | some _ => simp
theorem Twin.lay {r : Reg} {x : RReg} (h : Twin r x) {a : Nat} {bs : List Int} (ha : a + bs.length ≤ r.bytes.length) : Twin (layR r a bs) (rlayR x a bs) where
 live := h.live
 base := h.base
 perm := h.perm
 bytes := by
  show laidTo x.bytes a bs bs.length = r.bytes.take a ++ bs ++ r.bytes.drop (a + bs.length)
  unfold laidTo
  rw [h.bytes, List.take_length]
 set := by
  rw [setOf_lay ha]
  show laidTo x.set a (List.replicate bs.length true) bs.length = _
  rw [h.set]
theorem bits_and2 (p : Int) (h0 : 0 ≤ p) (h1 : p ≤ 7) : decide (bits .and .i64 p 2 ≠ 0) = canW p := by
 obtain rfl | rfl | rfl | rfl | rfl | rfl | rfl | rfl : p = 0 ∨ p = 1 ∨ p = 2 ∨ p = 3 ∨ p = 4 ∨ p = 5 ∨ p = 6 ∨ p = 7 := by omega
 all_goals decide
theorem Rel.acc {rs : List Reg} {next : Nat} {all : List RReg} (h : Rel rs next all) (hs : rs.Pairwise (fun a b => a.base + (a.bytes.length : Int) ≤ b.base)) (hok : ∀ r ∈ rs, 0 ≤ r.perm ∧ r.perm ≤ 7) (addr n q : Int) (p : Int → Bool)
  (hp : ∀ v, 0 ≤ v → v ≤ 7 → decide (bits .and .i64 v q ≠ 0) = p v) :
  (findR rs addr = none ∧ accI all addr n p = none) ∨ ∃ r : Reg, ∃ i : Nat, ∃ x, r ∈ rs ∧ findR rs addr = some r ∧ all[i]? = some x ∧ all.getD i RReg.zero = x ∧ r.id = i ∧ Twin r x ∧ accI all addr n p = if mayB r addr n q = true then some i else none := by
 cases hf : findR rs addr with
 | none =>
  refine Or.inl ⟨rfl, ?_⟩
  unfold accI
  rw [h.findNone hf]
 | some r =>
  obtain ⟨i, x, hi, hx, hri, ht⟩ := h.findSome hs hf
  have hr : r ∈ rs := List.mem_of_find?_eq_some hf
  have hxd : all.getD i RReg.zero = x := by rw [List.getD_eq_getElem?_getD, hx]; rfl
  refine Or.inr ⟨r, i, x, hr, rfl, hx, hxd, hri, ht, ?_⟩
  unfold accI mayB
  rw [hi]
  simp only [hxd, decide_eq_true_eq, ht.bytes, ht.base, ht.perm, ← hp r.perm (hok r hr).1 (hok r hr).2]
  by_cases hc : addr - r.base ≤ (r.bytes.length : Int) - n ∧ bits .and .i64 r.perm q ≠ 0
  ·rw [if_pos hc, if_pos ⟨by omega, hc.2⟩]
  ·rw [if_neg hc, if_neg (fun hh => hc ⟨by omega, hh.2⟩)]
theorem Rel.upd {rs : List Reg} {next : Nat} {all : List RReg} (h : Rel rs next all) {i : Nat} {x x' : RReg} (hx : all[i]? = some x) {f : Reg → Reg} (hfid : ∀ r, (f r).id = r.id) (ht : ∀ r ∈ rs, r.id = i → Twin (f r) x') (hl : x.live = true) :
  Rel (updR rs (i : Int) f) next (all.set i x') := by
 have hi := (List.getElem?_eq_some_iff.1 hx).1
 refine ⟨by rw [List.length_set]; exact h.len, fun r hr => ?_, fun j y hy hlv => ?_⟩
 ·unfold updR at hr
  obtain ⟨r0, hr0, rfl⟩ := List.mem_map.1 hr
  by_cases e : r0.id = i
  ·rw [if_pos e]
   exact ⟨i, x', by rw [List.getElem?_set_self hi], by rw [hfid, e], ht r0 hr0 e⟩
  ·rw [if_neg e]
   obtain ⟨j, y, hy, hj, hty⟩ := h.there r0 hr0
   refine ⟨j, y, ?_, hj, hty⟩
   rw [List.getElem?_set_ne (fun hh => e (by rw [hj, hh]))]
   exact hy
 ·by_cases e : i = j
  ·subst e
   rw [List.getElem?_set_self hi] at hy
   injection hy with hy
   subst hy
   obtain ⟨r, hr, hri, _⟩ := h.back i x hx hl
   refine ⟨f r, ?_, by rw [hfid, hri], ht r hr hri⟩
   unfold updR
   exact List.mem_map.2 ⟨r, hr, by rw [if_pos hri]⟩
  ·rw [List.getElem?_set_ne e] at hy
   obtain ⟨r, hr, hri, hty⟩ := h.back j y hy hlv
   refine ⟨r, ?_, hri, hty⟩
   unfold updR
   refine List.mem_map.2 ⟨r, hr, ?_⟩
   rw [if_neg]
   rw [hri]
   omega
end Go.Proofs.YtmhhahmjkopjhaaGreat.Mem
end
section
namespace Go.Proofs.YtmhhahmjkopjhaaGreat.Mem
open Go.RowKit
theorem Rel.at {rs : List Reg} {next : Nat} {all : List RReg} (h : Rel rs next all) {i : Nat} {x : RReg} (hx : all[i]? = some x) : ∀ r ∈ rs, r.id = i → Twin r x := by
 intro r hr hi
 obtain ⟨j, y, hy, hj, ht⟩ := h.there r hr
 obtain rfl : j = i := by omega
 rw [hx] at hy
 injection hy with hy
 rw [hy]
 exact ht
theorem Rel.lay {rs : List Reg} {next : Nat} {all : List RReg} (h : Rel rs next all) {i : Nat} {x : RReg} (hx : all[i]? = some x) (hl : x.live = true) {a : Nat} {bs : List Int} (ha : a + bs.length ≤ x.bytes.length) :
  Rel (updR rs (i : Int) (layR · a bs)) next (all.set i (rlayR x a bs)) := by
 refine h.upd hx (fun _ => rfl) (fun r hr hi => ?_) hl
 have ht := h.at hx r hr hi
 exact ht.lay (by rw [← ht.bytes]; exact ha)
theorem Rel.write {rs : List Reg} {next : Nat} {all : List RReg} (h : Rel rs next all) (hs : rs.Pairwise (fun a b => a.base + (a.bytes.length : Int) ≤ b.base)) (hok : ∀ r ∈ rs, 0 ≤ r.perm ∧ r.perm ≤ 7) (addr : Int) (bs : List Int) :
  Rel (writeRs rs addr bs) next (rwriteAll all addr bs) := by
 unfold writeRs rwriteAll layRs
 by_cases h0 : bs.length = 0
 ·rw [if_pos h0, if_pos h0]
  exact h
 ·rw [if_neg h0, if_neg h0]
  rcases h.acc hs hok addr bs.length 2 canW (fun v => bits_and2 v) with ⟨h1, h2⟩ | ⟨r, i, x, _, h1, hx, hxd, hri, ht, h2⟩
  ·rw [h1, h2]
   exact h
  ·rw [h1, h2]
   cases hm : mayB r addr bs.length 2 with
   | false => simpa [hm] using h
   | true =>
    simp only [hm, if_true, hxd, hri, ht.base]
    refine h.lay hx ht.live ?_
    unfold mayB at hm
    rw [decide_eq_true_eq] at hm
    have hb : hasB r addr = true := by have := List.find?_some h1; exact this
    unfold hasB at hb
    rw [decide_eq_true_eq] at hb
    rw [ht.bytes]
    omega
theorem Rel.storeE {rs : List Reg} {next : Nat} {all : List RReg} (h : Rel rs next all) (hs : rs.Pairwise (fun a b => a.base + (a.bytes.length : Int) ≤ b.base)) (hok : ∀ r ∈ rs, 0 ≤ r.perm ∧ r.perm ≤ 7) (addr n : Int) :
  rstoreE all addr n = YtmhhahmjkopjhaaGreat.Mem.storeE rs addr n := by
 unfold rstoreE YtmhhahmjkopjhaaGreat.Mem.storeE YtmhhahmjkopjhaaGreat.Mem.layE
 cases hw : wordB n with
 | false => rfl
 | true =>
  simp only [if_true]
  rcases h.acc hs hok addr n 2 canW (fun v => bits_and2 v) with ⟨h1, h2⟩ | ⟨r, i, x, _, h1, _, _, _, _, h2⟩
  ·rw [h1, h2]
  ·rw [h1, h2]
   cases hm : mayB r addr n 2 <;> simp [hm]
theorem Rel.store {rs : List Reg} {next : Nat} {all : List RReg} (h : Rel rs next all) (hs : rs.Pairwise (fun a b => a.base + (a.bytes.length : Int) ≤ b.base)) (hok : ∀ r ∈ rs, 0 ≤ r.perm ∧ r.perm ≤ 7) (addr n v : Int) :
  Rel (storeRs rs addr n v) next (rstoreAll all addr n v) := by
 unfold storeRs rstoreAll
 cases hw : wordB n with
 | false => exact h
 | true =>
  simp only [if_true]
  have := h.write hs hok addr ((List.range n.toNat).map (byteOf v))
  unfold writeRs at this
  have hn : ¬ ((List.range n.toNat).map (byteOf v)).length = 0 := by
   rw [List.length_map, List.length_range]
   unfold wordB at hw
   simp at hw
   omega
  rw [if_neg hn] at this
  exact this
theorem Twin.new {r : Reg} {x : RReg} {id base size perm : Int} (h : NewReg r id base size perm) (ho : RegOk r) (hl : x.live = true) (hb : x.base = base) (hp : x.perm = perm) (hby : x.bytes = List.replicate size.toNat 0)
  (hst : x.set = List.replicate size.toNat (decide (perm < 4))) : Twin r x where
 live := hl
 base := by rw [hb, h.hbase]
 perm := by rw [hp, h.hperm]
 bytes := by rw [hby, h.hbytes]
 set := by
  have hpl := ho.plain
  have hsn := ho.setNil
  rw [h.hperm] at hpl
  rw [hst]
  unfold setOf
  cases hsb : r.sb with
  | none =>
   have : perm < 4 := hpl.1 hsb
   simp only [h.hbytes, List.length_replicate, this, decide_true]
  | some s =>
   have : ¬ perm < 4 := fun hh => by have := hpl.2 hh; rw [hsb] at this; cases this
   simp [h.hset, this]
end Go.Proofs.YtmhhahmjkopjhaaGreat.Mem
end
section
namespace Go.Proofs.YtmhhahmjkopjhaaGreat
open Go.RowKit
theorem maxSum_le (ds : List MDef) (h : ∀ d ∈ ds, 0 ≤ d.max) (k : Nat) : maxSum (ds.take k) ≤ maxSum ds := by
 unfold maxSum
 induction ds generalizing k with
 | nil => simp
 | cons d ds ih =>
  cases k with
  | zero =>
   have h0 : 0 ≤ (List.map MDef.max (d :: ds)).sum := by
    have : ∀ l : List MDef, (∀ d ∈ l, 0 ≤ d.max) → 0 ≤ (l.map MDef.max).sum := fun l => by
     induction l with
     | nil => simp
     | cons a l ih2 =>
      intro hl
      have h1 := hl a (by simp)
      have h2 := ih2 (fun d hd => hl d (by simp [hd]))
      simp only [List.map_cons, List.sum_cons]
      omega
    exact this _ h
   simpa using h0
  | succ k =>
   have := ih (fun d hd => h d (by simp [hd])) k
   simp only [List.take_succ_cons, List.map_cons, List.sum_cons]
   omega
structure Settles (x : PT) (s : Mem.MS) : Prop where
 mx : ∀ m ∈ x.maps, 1 ≤ m.d.max ∧ m.d.max ≤ 64
 room : roomOk x.ds s.rs
 next : s.next ≤ 1000000
theorem Settles.add {w w' : World} {x : PT} {s s' : Mem.MS} (h : Settles x s) (ho : ∀ m ∈ x.maps, PMapOk m) (hmany : x.maps.length ≤ 8) {k q : Nat} {m : PMap} (hm : x.maps[k]? = some m) (hq : (q : Int) < m.d.max) (hS : SetAt w w' x s s' (plcs x.ds k ++ rowP k m.d.val q)) :
  Mem.addE s'.rs (plI k q) m.d.val 3 = 0 ∧ s'.next < 4611686018427387904 := by
 have hmem := List.mem_of_getElem? hm
 have hok := ho m hmem
 have hdk : x.ds[k]? = some m.d := by unfold PT.ds; rw [List.getElem?_map, hm]; rfl
 have hkl := (List.getElem?_eq_some_iff.1 hm).1
 have hdl : x.ds.length = x.maps.length := by simp [PT.ds]
 have hmx : ∀ d ∈ x.ds, 1 ≤ d.max ∧ d.max ≤ 64 ∧ 1 ≤ d.val ∧ d.val ≤ 64 := fun d hd => by
  obtain ⟨m', hm', rfl⟩ := List.mem_map.1 hd
  exact ⟨(h.mx m' hm').1, (h.mx m' hm').2, (ho m' hm').v1, (ho m' hm').v2⟩
 have hf := hS.adds.facts
 have hle := plcs_len (ds := x.ds) (k := k) (by omega) (fun d hd => by have := hmx d hd; omega)
 have hsum := maxSum_snoc x.ds k m.d hdk
 have hs1 := maxSum_le x.ds (fun d hd => by have := hmx d hd; omega) (k + 1)
 have hr := h.room.2
 have hbd := maxSum_bd x.ds (fun d hd => by have := hmx d hd; omega)
 have hlen : (plcs x.ds k ++ rowP k m.d.val q).length = (plcs x.ds k).length + q := by rw [List.length_append, rowP_len]
 have hm64 := h.mx m hmem
 have hfree := hS.adds.free (h.room.1 k m.d (by omega) hdk q hq) (fun p hp => by
  rcases List.mem_append.1 hp with hp | hp
  ·obtain ⟨i, d, u, hi, hd, hu, rfl⟩ := plcs_mem hp
   have h9 := hmx d (List.mem_of_getElem? hd)
   refine ⟨by dsimp only; omega, ?_⟩
   exact pl_apart (by omega) (by omega) hok.v1 hok.v2 h9.2.2.1 h9.2.2.2 (Or.inl (by omega))
  ·obtain ⟨u, hu, rfl⟩ := List.mem_map.1 hp
   have h9 := List.mem_range.1 hu
   refine ⟨by have := hok.v1; dsimp only; omega, ?_⟩
   exact pl_apart (by omega) (by omega) hok.v1 hok.v2 hok.v1 hok.v2 (Or.inr (by omega)))
 obtain ⟨f1, f2, _⟩ := hf
 have hnx := h.next
 have f1 : s'.rs.length = s.rs.length + ((plcs x.ds k).length + q) := by rw [← hlen]; exact f1
 have f2 : s'.next = s.next + ((plcs x.ds k).length + q) := by rw [← hlen]; exact f2
 refine ⟨?_, by omega⟩
 unfold Mem.addE Mem.mayBeB
 have hv1 := hok.v1
 have hv2 := hok.v2
 rw [decide_eq_true (by unfold plI; omega), if_neg (by decide), hfree, if_neg (by decide), if_neg (by omega)]
theorem settle_any {w : World} {x : PT} {s : Mem.MS} (h : PBoth w x s) (hs : Settles x s) :
  Calls Tryz.prog 47 #[.pointer (some ⟨x.t, 0, none⟩)] w fun e w' => e = .returned (.tuple #[]) ∧ ∃ s', SetAt w w' x s s' (plcs x.ds x.maps.length) := by
 have hz := (zero_of_info (P := Tryz.prog) zero89).1
 have hsz := (zero_of_info (P := Tryz.prog) zero89).2
 have HS := toHid hs
 have HH := toHid h
 have hmany := h.tab.many
 have c1 := h.tab.c1
 unfold slV at c1
 generalize hsg : (x.g.map fun b => (⟨b, 0, none⟩ : Addr)) = sg at *
 have HG := toHid hsg
 generalize hL : x.maps.length = L at *
 have HL := toHid hL
 clear hs h hsg hL
 go_enter Tryz.func47, Tryz.ntmps47
 go_wp2_with fail
 go_loopw [10] (fun t w' => ∃ k : Nat, k ≤ L ∧ t = .int .i64 k ∧ Hid (∃ s', SetAt w w' x s s' (plcs x.ds k))) (fun t _ => L - (intOf t).toNat)
 case atStart => exact ⟨0, by omega, rfl, s, SetAt.start HH.out⟩
 case round =>
  obtain ⟨k, hk, rfl, HI⟩ := hrel
  by_cases hlt : k < L
  ·obtain ⟨s1, hS1⟩ := HI.out
   obtain ⟨m, hm⟩ : ∃ m, x.maps[k]? = some m := ⟨_, List.getElem?_eq_getElem (by rw [HL.out]; exact hlt)⟩
   have hmem := List.mem_of_getElem? hm
   have hB := hS1.both
   obtain ⟨gb, hg⟩ := hB.tab.some_g hm
   have hsg := HG.out
   rw [hg, Option.map_some] at hsg
   subst hsg
   obtain ⟨b0, b1, b2, b3, b4⟩ := hB.tab.boxed hm hg
   have hmk := HS.out.mx m hmem
   have hok := hB.tab.ok m hmem
   have hm1 := hok.v1
   have hm2 := hok.v2
   obtain ⟨V, hV⟩ : ∃ V : Nat, m.d.val = V := Int.eq_ofNat_of_zero_le (by omega)
   obtain ⟨M, hM⟩ : ∃ M : Nat, m.d.max = M := Int.eq_ofNat_of_zero_le (by omega)
   have hnb : wr.heap.size ∉ s1.blocks := fun hx => by have := hB.mem.lt _ hx; omega
   have hNB := Blk.newA wr (BoxCells m) _ 89 rfl
   have HM := toHid (And.intro hm (And.intro hV (And.intro hM (And.intro hB.tab.ok hB.tab.many))))
   have hk8 : k < 8 := by omega
   have HJ0 : Hid (∃ s2, SetAt w (wr.alloc (.cells (BoxCells m) 89)) x s s2 (plcs x.ds k ++ rowP k m.d.val 0) ∧ wr.heap.size ∉ s2.blocks ∧ Blk (wr.alloc (.cells (BoxCells m) 89)) wr.heap.size (BoxCells m).toList 89) :=
    ⟨s1, by rw [show rowP k m.d.val 0 = [] from rfl, List.append_nil]; exact hS1.still ((Touch.refl [] wr).alloc _), hnb, hNB⟩
   have c3 : (wr.alloc (.cells (BoxCells m) 89)).cell? ⟨wr.heap.size, 3, none⟩ = some (.int .i64 (M : Int)) := by
    rw [← hM]
    exact hNB.cell rfl
   rw [hV] at b2 hm1 hm2
   rw [hM] at b3 hmk
   unfold BoxCells ixV at HJ0 c3
   unfold ixV at b4
   rw [hV, hM] at HJ0 c3
   generalize typF m.d.kind = ty at *
   generalize m.X = X at *
   generalize m.d.kind = kd at *
   generalize m.d.key = ky at *
   clear hB hmem hok hNB hm hV hM HI hg c1 hS1 hnb
   generalize hwb : wr.alloc (.cells #[.int .i64 kd, .int .i64 ky, .int .i64 (V : Int), .int .i64 (M : Int), .iface ty (.pointer (some ⟨X, 0, none⟩))] 89) = wb at *
   go_wp2_with fail
   clear hwb b0 b1 b2 b3 b4 c3
   generalize wr.heap.size = B at *
   have hM64 : M ≤ 64 := by omega
   go_loopw [18] (fun t w' => ∃ q : Nat, q ≤ M ∧ t = .int .i64 q ∧ Hid (∃ s2, SetAt w w' x s s2 (plcs x.ds k ++ rowP k V q) ∧ B ∉ s2.blocks ∧ Blk w' B [.int .i64 kd, .int .i64 ky, .int .i64 (V : Int), .int .i64 (M : Int), .iface ty (.pointer (some ⟨X, 0, none⟩))] 89)) (fun t _ => M - (intOf t).toNat)
   case atStart => exact ⟨0, by omega, rfl, HJ0.out⟩
   case round =>
    obtain ⟨q, hq, rfl, HJ⟩ := hrel
    obtain ⟨s2, hS2, hnb, hNB⟩ := HJ.out
    by_cases hqt : q < M
    ·have hB2 := hS2.both
     obtain ⟨hm, hV, hM, hok, hmany⟩ := HM.out
     have hadd := HS.out.add hok hmany hm (q := q) (by rw [hM]; omega) (by rw [hV]; exact hS2)
     rw [hV] at hadd
     have HP := toHid (fun w0 => place_any w0 k q hk8 (by omega))
     have hBd := hB2.still ((Touch.refl [] wr).drew)
     have HA := toHid (Mem.add_any hBd.mem (plI k q) V 3 (by unfold plI; omega) (by unfold plI; omega) hadd.2)
     have ht0 : x.t ∉ s2.blocks := hB2.apart _ (PT.mem_top (by simp [PT.top]))
     have e0 := hBd.tab.c0
     rw [hBd.at_] at e0
     have e2 := (hNB.drew).cell (i := 2) rfl
     have HSS : Hid (∀ w', Touch s2.blocks wr.drew w' → w'.cell? ⟨x.t, 0, none⟩ = some (.pointer (some ⟨s2.m, 0, none⟩)) ∧ w'.cell? ⟨B, 2, none⟩ = some (.int .i64 (V : Int))) := fun w' ht => ⟨ht.cell e0 ht0, ht.cell e2 hnb⟩
     have HNx : Hid (∀ e w3, Mem.AddPost wr.drew s2 (plI k q) V 3 e w3 → ∃ s3, SetAt w w3 x s s3 (plcs x.ds k ++ rowP k V (q + 1)) ∧ B ∉ s3.blocks ∧ Blk w3 B [.int .i64 kd, .int .i64 ky, .int .i64 (V : Int), .int .i64 (M : Int), .iface ty (.pointer (some ⟨X, 0, none⟩))] 89) := fun e w3 hp => by
      obtain ⟨s3, q1, q2, q3⟩ := (hS2.still ((Touch.refl [] wr).drew)).add hp hadd.1
      refine ⟨s3, by rw [rowP_succ, ← List.append_assoc]; exact q1, fun hx => ?_, q2.blk hNB.drew hnb⟩
      rcases q3 B hx with h9 | h9
      ·exact hnb h9
      ·have := hNB.drew.lt
       omega
     have HAE : Hid (∀ e w3, Mem.AddPost wr.drew s2 (plI k q) V 3 e w3 → Touch s2.blocks wr.drew w3 ∧ ∃ a b, e = .returned (.tuple #[.int .i64 a, .int .i64 b])) := fun e w3 hp => ⟨hp.2.1, _, _, hp.1⟩
     generalize plI k q = pl at *
     clear hB2 hm hV hM hok hadd hBd ht0 e0 e2 hS2 hnb hNB HJ HJ0
     go_wp2_with fail
     refine wp_region_held_drew (S := fun w' => w'.cell? ⟨x.t, 0, none⟩ = some (.pointer (some ⟨s2.m, 0, none⟩)) ∧ w'.cell? ⟨B, 2, none⟩ = some (.int .i64 (V : Int))) (by kernel_rfl) ?_ (fun hHeld => ?_)
     ·exact HSS.out _ (Touch.refl _ _)
     refine tk 0 (v := ?_) rfl ?_ ?_
     rotate_left
     ·(intro w hSw; (try dsimp only at hSw); go_simp; try with_reducible rfl)
     simp only [Act.put, AP]
     refine tk 1 (v := ?_) rfl ?_ ?_
     rotate_left
     ·(intro w hSw; (try dsimp only at hSw); go_simp; try with_reducible rfl)
     simp only [Act.put, AP]
     refine tk 2 (v := ?_) rfl ?_ ?_
     rotate_left
     ·(intro w hSw; (try dsimp only at hSw); go_simp; try with_reducible rfl)
     simp only [Act.put, AP]
     refine tk 3 (v := ?_) rfl ?_ ?_
     rotate_left
     ·(intro w hSw; (try dsimp only at hSw); go_simp; try with_reducible rfl)
     simp only [Act.put, AP]
     refine tk 4 (v := ?_) rfl ?_ ?_
     rotate_left
     ·(intro w hSw; (try dsimp only at hSw); go_simp; try with_reducible rfl)
     simp only [Act.put, AP]
     refine tk 5 (v := ?_) rfl ?_ ?_
     rotate_left
     ·(intro w hSw; (try dsimp only at hSw); go_simp; try with_reducible rfl)
     simp only [Act.put, AP]
     refine tk 7 (v := ?_) rfl ?_ ?_
     rotate_left
     ·(intro w hSw; (try dsimp only at hSw); go_simp; try with_reducible rfl)
     simp only [Act.put, AP]
     refine tk 8 (v := ?_) rfl ?_ ?_
     rotate_left
     ·(intro w hSw; (try dsimp only at hSw); go_simp; try with_reducible rfl)
     simp only [Act.put, AP]
     refine tk 9 (v := ?_) rfl ?_ ?_
     rotate_left
     ·(intro w hSw; (try dsimp only at hSw); go_simp; try with_reducible rfl)
     simp only [Act.put, AP]
     refine wpAnyH_ready (rs := [6]) (by kernel_rfl) (by simp) ?_
     refine AllReadyH.cons rfl (fun K hK => ?_) AllReadyH.nil
     simp only [AP]
     go_simp
     refine Calls.mono (HP.out _) ?_; rintro e w3 ⟨rfl, rfl⟩
     go_wp2_with fail
     refine hK.out _ _ ?_ (fun hHeld => ?_)
     ·exact HSS.out _ (Touch.refl _ _)
     clear hK K
     try simp only [Act.put, AP]
     refine wpAnyH_ready (rs := [10]) (by kernel_rfl) (by simp) ?_
     refine AllReadyH.cons rfl (fun K hK => ?_) AllReadyH.nil
     simp only [AP]
     go_simp
     refine Calls.mono HA.out ?_; intro e w3 hp; obtain ⟨htx, za, zb, rfl⟩ := HAE.out _ _ hp; have HN := toHid (HNx.out _ _ hp); have HTX := toHid htx; clear hp htx
     go_wp2_with fail
     refine hK.out _ _ ?_ (fun hHeld => ?_)
     ·exact HSS.out _ HTX.out
     clear hK K
     try simp only [Act.put, AP]
     refine wpAnyH_done (by kernel_rfl) ?_ _
     clear hHeld HSS HA HAE HNx HTX
     go_wp2
     exact ⟨⟨q + 1, by omega, by go_num, HN⟩, by simp [intOf]; omega⟩
    ·obtain rfl : q = M := by omega
     have HNx : Hid (∃ s', SetAt w wr x s s' (plcs x.ds (k + 1))) := by
      obtain ⟨hm, hV, hM, hok, hmany⟩ := HM.out
      have hdk : x.ds[k]? = some m.d := by unfold PT.ds; rw [List.getElem?_map, hm]; rfl
      refine ⟨s2, ?_⟩
      rw [plcs_succ hdk, hV, hM, Int.toNat_natCast]
      exact hS2
     have c3 : wr.cell? ⟨B, 3, none⟩ = some (.int .i64 (q : Int)) := hNB.cell rfl
     clear hS2 hnb hNB HJ HJ0
     go_wp2
     exact ⟨⟨k + 1, by omega, by go_num, HNx⟩, by simp [intOf]; omega⟩
  ·obtain rfl : L = k := by omega
   clear c1
   go_wp2
   go_end0
   exact ⟨rfl, HI.out⟩
end Go.Proofs.YtmhhahmjkopjhaaGreat
end
section
namespace Go.Proofs.YtmhhahmjkopjhaaGreat
open Go.RowKit
def newQ (d : MDef) : PX := PX.new d.kind d.key d.max.toNat
structure MadeAt (w w' : World) (x : PT) (m T : Nat) (l : List MDef) : Prop where
 tab : PTAt w' x
 t : x.t = T
 mem : x.mem = m
 ds : x.ds = l
 qs : x.qs = l.map newQ
 own : ∀ b ∈ x.blocks, w.heap.size ≤ b
 touch : Touch [] w w'
 ok : ∀ d ∈ l, d.Ok
theorem newQ_len {d : MDef} (h : d.Ok) : ((newQ d).slots.length : Int) = d.max := by
 have h1 := h.2.2.2.2.1
 have : (newQ d).slots.length = d.max.toNat := by
  unfold newQ PX.new
  dsimp only
  split
  ·simp [allKeys]
  ·simp
 omega
theorem MadeAt.push {w w1 w2 : World} {x : PT} {m T k : Nat} {ds : List MDef} {d : MDef} {X : Nat} {bl : List Nat} (h : MadeAt w w1 x m T (ds.take k)) (hd : ds[k]? = some d) (hk : k < 8) (hok : d.Ok) (ht : Touch [] w1 w2) (hA : KAt w2 X bl (newQ d)) (hb : ∀ b ∈ bl, w1.heap.size ≤ b) :
  ∃ sg' cap' w3, (Builtin.append_ #[83, 83] 83 #[slV x.g x.maps.length x.cap, .slice (some ⟨w2.heap.size, 0, none⟩) 1 1]).run Tryz.prog ((w2.alloc (.cells #[.int .i64 d.kind, .int .i64 d.key, .int .i64 d.val, .int .i64 d.max, ixV d.kind X] 89)).drew) = .ok (.slice sg' (x.maps.length + 1) cap') w3 ∧
   w3.cell? ⟨T, 1, none⟩ = some (slV x.g x.maps.length x.cap) ∧ w3.frozen? ⟨T, 1, none⟩ = false ∧ ∃ x', MadeAt w (w3.setCell ⟨T, 1, none⟩ (.slice sg' (x.maps.length + 1) cap')) x' m T (ds.take (k + 1)) := by
 have hx2 : PTAt w2.drew x := h.tab.still ht.drew
 have hlt := h.tab.lt
 have hsz := ht.size
 have hl : x.maps.length = k := by
  have h1 := congrArg List.length h.ds
  have h2 := (List.getElem?_eq_some_iff.1 hd).1
  simp [PT.ds] at h1
  omega
 have hsz0 := h.touch.size
 have hkd : (newQ d).kind = d.kind := rfl
 obtain ⟨g', cap', w3, hr, hc, hf, hA3, ht1, ht2, hg⟩ := hx2.push (m := ⟨d, X, bl, newQ d⟩) (hA.still ((Touch.refl [] w2).drew)) ⟨hkd, rfl, newQ_len hok, hok.2.2.1, hok.2.2.2.1⟩ (fun b hbx hx => by
  have := hb b hbx
  have := hlt b hx
  omega) (by omega)
 have htk : ds.take (k + 1) = ds.take k ++ [d] := by rw [List.take_add_one, hd]; rfl
 rw [h.t] at hc hf hA3 ht2
 refine ⟨g'.map fun b => (⟨b, 0, none⟩ : Addr), cap', w3, hr, hc, hf, x.add g' cap' ⟨d, X, bl, newQ d⟩, hA3, h.t, h.mem, ?_, ?_, fun b hbx => ?_, ?_, fun d' hd' => ?_⟩
 ·rw [htk]
  show (x.maps ++ [_]).map PMap.d = _
  have h1 : x.maps.map PMap.d = ds.take k := h.ds
  rw [List.map_append, h1]
  rfl
 ·rw [htk]
  show (x.maps ++ [_]).map PMap.q = _
  have h1 : x.maps.map PMap.q = (ds.take k).map newQ := h.qs
  rw [List.map_append, h1, List.map_append]
  rfl
 ·rcases List.mem_append.1 hbx with hbx | hbx
  ·rcases List.mem_cons.1 (show b ∈ x.t :: g'.toList from hbx) with hbx | hbx
   ·exact h.own b (by rw [hbx]; exact PT.mem_top (by simp [PT.top]))
   ·rcases hg b (by simpa using hbx) with hbx | hbx
    ·exact h.own b (PT.mem_top (PT.mem_g hbx))
    ·have : w2.drew.heap.size = w2.heap.size := rfl
     omega
  ·rw [show (x.add g' cap' ⟨d, X, bl, newQ d⟩).maps = x.maps ++ [⟨d, X, bl, newQ d⟩] from rfl, List.flatMap_append, List.flatMap_singleton] at hbx
   rcases List.mem_append.1 hbx with hbx | hbx
   ·obtain ⟨m9, h9, hbx⟩ := List.mem_flatMap.1 hbx
    exact h.own b (PT.mem_map h9 hbx)
   ·have := hb b hbx
    omega
 ·exact (h.touch.trans ht.drew (by simp)).trans ht2 (fun b hbx => Or.inr (h.own b (PT.mem_top hbx)))
 ·rw [htk] at hd'
  rcases List.mem_append.1 hd' with h9 | h9
  ·exact h.ok d' h9
  ·rw [List.mem_singleton.1 h9]
   exact hok
structure PNewAt (w w' : World) (x : PT) (s s' : Mem.MS) (l : List MDef) : Prop where
 both : PBoth w' x s'
 ds : x.ds = l
 qs : x.qs = l.map newQ
 own : ∀ b ∈ x.blocks, w.heap.size ≤ b
 m : s'.m = s.m
 mown : ∀ b ∈ s'.blocks, b ∈ s.blocks ∨ w.heap.size ≤ b
 touch : Touch s.blocks w w'
 adds : PAdds (plcs l l.length) (s.rs, s.next) (s'.rs, s'.next)
def PNewPost (w : World) (s : Mem.MS) (ds : List MDef) (e : Ending) (w' : World) : Prop :=
 (mayI ds = false ∧ e = .returned (.tuple #[.pointer none, .int .i64 2]) ∧ Touch [] w w') ∨
 (mayI ds = true ∧ ¬ roomOk ds s.rs ∧ e = .returned (.tuple #[.pointer none, .int .i64 12]) ∧ Touch [] w w') ∨
 (mayI ds = true ∧ roomOk ds s.rs ∧ ∃ x s', e = .returned (.tuple #[.pointer (some ⟨x.t, 0, none⟩), .int .i64 0]) ∧ PNewAt w w' x s s' ds)
theorem pnew_any {w : World} {s : Mem.MS} (h : Mem.MemAt w s) (hnx : s.next ≤ 1000000) {sa : Option Addr} {n sc : Nat} {ds : List MDef} (hd : DefsAt w sa n ds) :
  Calls Tryz.prog 21 #[.pointer (some ⟨s.m, 0, none⟩), .slice sa n sc] w (PNewPost w s ds) := by
 obtain rfl := hd.len
 have hsm := hd.small
 by_cases h8 : 8 < ds.length
 ·have hv : mayI ds = false := by unfold mayI; rw [decide_eq_false_iff_not]; omega
  have HF : Hid (PNewPost w s ds (.returned (.tuple #[.pointer none, .int .i64 2])) w) := Or.inl ⟨hv, rfl, Touch.refl _ _⟩
  clear h hd hv
  go_enter Tryz.func21, Tryz.ntmps21
  go_wp2
  go_ret2
  exact HF.out
 ·have hL : ds.length ≤ 8 := by omega
  have HD := toHid hd
  have HH := toHid (And.intro h hnx)
  have hB := Blk.newA w #[.pointer (some ⟨s.m, 0, none⟩), .slice none 0 0] _ 85 rfl
  have HI0 : Hid (∃ x, MadeAt w (w.alloc (.cells #[.pointer (some ⟨s.m, 0, none⟩), .slice none 0 0] 85)) x s.m w.heap.size (ds.take 0)) := by
   refine ⟨⟨w.heap.size, s.m, none, 0, []⟩, ⟨hB, ?_, ?_, ?_, ?_, ?_, ?_, by simp⟩, rfl, rfl, rfl, rfl, ?_, (Touch.refl _ w).alloc _, by simp⟩
   ·exact ⟨rfl, Nat.le_refl _, Nat.zero_le _, rfl⟩
   ·intro m hm; cases hm
   ·intro m hm; cases hm
   ·simp [PT.top]
   ·intro m hm; cases hm
   ·intro i j mi mj hi; simp at hi
   ·intro b hb; simp [PT.blocks, PT.top] at hb; omega
  clear h hd hB hnx
  go_enter Tryz.func21, Tryz.ntmps21
  go_wp2_with fail
  generalize hT0 : w.heap.size = T at *
  have HT0 := toHid hT0
  clear hT0
  generalize hLL : ds.length = L at *
  have HL := toHid hLL
  clear hLL
  go_loopw [21] (fun t w' => ∃ k : Nat, k ≤ L ∧ t = .int .i64 k ∧ Hid (∃ x, MadeAt w w' x s.m T (ds.take k))) (fun t _ => L - (intOf t).toNat)
  case atStart => exact ⟨0, by omega, rfl, HI0⟩
  case round =>
   obtain ⟨k, hk, rfl, HI⟩ := hrel
   clear HI0
   by_cases hlt : k < L
   ·obtain ⟨x, hM⟩ := HI.out
    have hda := HD.out.touch hM.touch
    obtain ⟨b, off, rfl, hc⟩ := hda.at_ (by omega)
    obtain ⟨d, hdk⟩ : ∃ d, ds[k]? = some d := ⟨_, List.getElem?_eq_getElem (by rw [HL.out]; exact hlt)⟩
    have c0 := hc k d hdk 0 _ rfl
    have c1 := hc k d hdk 1 _ rfl
    have c2 := hc k d hdk 2 _ rfl
    have c3 := hc k d hdk 3 _ rfl
    rw [Nat.add_zero] at c0
    have hNB := Blk.newA wr #[.int .i64 d.kind, .int .i64 d.key, .int .i64 d.val, .int .i64 d.max] _ 36 rfl
    have HNB := toHid hNB
    have HM := toHid (And.intro hM hdk)
    have hta := (Touch.refl [] wr).alloc (.cells #[.int .i64 d.kind, .int .i64 d.key, .int .i64 d.val, .int .i64 d.max] 36)
    have HTA := toHid hta
    have HNO : Hid (¬ d.Ok → ∀ w3, Touch [] wr w3 → PNewPost w s ds (.returned (.tuple #[.pointer none, .int .i64 2])) w3) := fun hn w3 ht3 => Or.inl ⟨mayI_no hdk hn, rfl, hM.touch.trans ht3 (by simp)⟩
    by_cases hnk : 0 ≤ d.kind ∧ d.kind ≤ 3 ∧ newOk d.kind d.key d.max
    ·have hmx1 := hnk.2.2.1
     have hmx2 := hnk.2.2.2.1
     have hmt : ((d.max.toNat : Nat) : Int) = d.max := Int.toNat_of_nonneg (by omega)
     have HN : Hid (∀ w0, Calls Tryz.prog 45 #[dV d] w0 (NewIxPost w0 d.kind d.key d.max.toNat)) := fun w0 => by
      have h9 := newIndex_any w0 d.kind d.key d.val d.max.toNat hnk.1 hnk.2.1 (by rw [hmt]; exact hnk.2.2)
      rw [hmt] at h9
      exact h9
     unfold dV at HN
     by_cases hv1 : d.val < 1
     ·have HNO := toHid (HNO.out (fun hok => by have := hok.2.2.1; omega))
      clear hnk hM hda hc hdk hNB hta HM HI hmt hmx1 hmx2
      go_wp2_with fail
      refine Calls.mono (HN.out _) ?_
      rintro e w3 ⟨X, bl, rfl, hA, hbl, ht3⟩
      have HF := toHid (HNO.out _ (HTA.out.trans ht3 (by simp)))
      have d2 := (ht3.blk HNB.out (by simp)).cell (i := 2) rfl
      clear ht3 HNO hA hbl
      unfold ixV
      go_wp2
      go_ret2
      exact HF.out
     ·by_cases hv2 : 64 < d.val
      ·have HNO := toHid (HNO.out (fun hok => by have := hok.2.2.2.1; omega))
       clear hnk hM hda hc hdk hNB hta HM HI hmt hmx1 hmx2
       go_wp2_with fail
       refine Calls.mono (HN.out _) ?_
       rintro e w3 ⟨X, bl, rfl, hA, hbl, ht3⟩
       have HF := toHid (HNO.out _ (HTA.out.trans ht3 (by simp)))
       have d2 := (ht3.blk HNB.out (by simp)).cell (i := 2) rfl
       clear ht3 HNO hA hbl
       unfold ixV
       go_wp2
       go_ret2
       exact HF.out
      ·have hok : d.Ok := ⟨hnk.1, hnk.2.1, by omega, by omega, hnk.2.2⟩
       have HOK := toHid hok
       clear hnk hM hda hc hdk hNB hta HI hmt hmx1 hmx2 hok HNO
       go_wp2_with fail
       refine Calls.mono (HN.out _) ?_
       rintro e w2 ⟨X, bl, rfl, hA, hbl, ht3⟩
       have hT2 := HTA.out.trans ht3 (by simp)
       obtain ⟨sg, cap, w3, hr, hs1, hs2, x', hM'⟩ := HM.out.1.push (X := X) (bl := bl) HM.out.2 (by omega) HOK.out hT2 hA (fun b hb => by have := hbl b hb; have := HTA.out.size; omega)
       have HR := toHid hr
       have HN' := toHid hM'
       have e0 := (ht3.blk HNB.out (by simp)).cell (i := 0) rfl
       have e1 := (ht3.blk HNB.out (by simp)).cell (i := 1) rfl
       have e2 := (ht3.blk HNB.out (by simp)).cell (i := 2) rfl
       have e3 := (ht3.blk HNB.out (by simp)).cell (i := 3) rfl
       have t1 := (HM.out.1.tab.still hT2).c1
       have hE : ∀ o p v, w2.cell? p = some v → (w2.alloc o).cell? p = some v := fun o p v hp => ((Touch.refl [] w2).alloc o).cell hp (by simp)
       have a0 := fun o => hE o _ _ e0
       have a1 := fun o => hE o _ _ e1
       have a2 := fun o => hE o _ _ e2
       have a3 := fun o => hE o _ _ e3
       rw [HM.out.1.t] at t1
       have at1 := fun o => hE o _ _ t1
       clear hA hbl hT2 hr hM' ht3 hE
       unfold ixV at *
       unfold slV at *
       generalize typF d.kind = ty at *
       generalize (x.g.map fun b => (⟨b, 0, none⟩ : Addr)) = og at *
       generalize x.maps.length = ml at *
       generalize x.cap = xc at *
       go_wp2_with fail
       go_region_law (refine step_append_known rfl (.tmp 46) (.tmp 50) 83 83 rfl (.slice og ml xc) (.slice (some ⟨w2.heap.size, 0, none⟩) 1 1) (by simp [Act.eval]) (by simp [Act.eval]) HR.out ?_)
       all_goals go_wp2
       all_goals exact ⟨⟨k + 1, by omega, by go_num, x', HN'.out⟩, by simp [intOf]; omega⟩
    ·have HN := toHid (fun w0 => newIndex_bad w0 d hnk)
     unfold dV at HN
     have HNO := toHid (HNO.out (fun hok => hnk ⟨hok.1, hok.2.1, hok.2.2.2.2⟩))
     clear hnk hM hda hc hdk hNB hta HM HI
     go_wp2_with fail
     refine Calls.mono (HN.out _) ?_
     rintro e w3 ⟨v, rfl, ht3⟩
     have HF := toHid (HNO.out _ (HTA.out.trans ht3 (by simp)))
     have d2 := (ht3.blk HNB.out (by simp)).cell (i := 2) rfl
     clear ht3 HNO
     go_wp2
     go_ret2
     exact HF.out
   ·obtain rfl : k = L := by omega
    obtain ⟨x, hM⟩ := HI.out
    have htk : ds.take k = ds := by rw [← HL.out]; exact List.take_length
    rw [htk] at hM
    have hdl := HL.out
    have hsz := hM.touch.size
    have hB : PBoth wr x s := ⟨hM.tab, HH.out.1.touch hM.touch (by simp), hM.mem, fun b hb hx => by
     have h1 := hM.own b hb
     have h2 := HH.out.1.lt b hx
     omega⟩
    have hml : x.maps.length = k := by
     have h1 := congrArg List.length hM.ds
     simp [PT.ds] at h1
     omega
    have hmx : ∀ m ∈ x.maps, 1 ≤ m.d.max ∧ m.d.max ≤ 64 := fun m hm => by
     have h1 := hM.ok m.d (by rw [← hM.ds]; exact List.mem_map.2 ⟨m, hm, rfl⟩)
     exact ⟨h1.2.2.2.2.1, h1.2.2.2.2.2.1⟩
    have hmay : mayI ds = true := by
     unfold mayI
     rw [decide_eq_true_iff]
     exact ⟨by omega, hM.ok⟩
    have H1 := toHid (hasRoom_any hB hmx)
    rw [hM.ds, hM.t] at H1
    have HX := toHid (And.intro hM (And.intro hmx (And.intro hmay (And.intro hml hB))))
    clear hM htk hdl hB hml hmx hmay HI
    go_wp2_with fail
    refine Calls.mono H1.out ?_
    rintro e w2 ⟨⟨rb, rfl, hrb⟩, ht2⟩
    cases rb with
    | false =>
     have HF : Hid (PNewPost w s ds (.returned (.tuple #[.pointer none, .int .i64 12])) w2) := Or.inr (Or.inl ⟨HX.out.2.2.1, (fun hr => Bool.noConfusion (hrb.2 hr)), rfl, HX.out.1.touch.trans ht2 (by simp)⟩)
     clear hrb ht2
     go_wp2
     go_ret2
     exact HF.out
    | true =>
     have hr := hrb.1 rfl
     have H2 := toHid (settle_any (HX.out.2.2.2.2.still ht2) ⟨HX.out.2.1, by rw [HX.out.1.ds]; exact hr, HH.out.2⟩)
     rw [HX.out.1.ds, HX.out.1.t, HX.out.2.2.2.1] at H2
     have HR := toHid (And.intro hr ht2)
     clear hrb ht2 hr
     go_wp2_with fail
     refine Calls.mono H2.out ?_
     rintro e w3 ⟨rfl, s', hS⟩
     have HF : Hid (PNewPost w s ds (.returned (.tuple #[.pointer (some ⟨T, 0, none⟩), .int .i64 0])) w3) := by
      have hT := HX.out.1.touch.trans HR.out.2 (by simp)
      have hsz2 := hT.size
      refine Or.inr (Or.inr ⟨HX.out.2.2.1, HR.out.1, x, s', by rw [HX.out.1.t], ⟨hS.both, HX.out.1.ds, HX.out.1.qs, HX.out.1.own, hS.m, fun b hb => ?_, (hT.mono (S' := s.blocks) (fun b hb => by cases hb)).trans hS.touch (fun b hb => Or.inl hb), by rw [HL.out]; exact hS.adds⟩⟩)
      rcases hS.own b hb with h1 | h1
      ·exact Or.inl h1
      ·exact Or.inr (by omega)
     clear hS
     go_wp2
     go_ret2
     exact HF.out
end Go.Proofs.YtmhhahmjkopjhaaGreat
end
section
namespace Go.Proofs.YtmhhahmjkopjhaaGreat
open Go.RowKit
def FreeR (ds : List MDef) (all : List Mem.RReg) (n : Nat) : Prop := ∀ (i : Nat) (d : MDef), i < n → ds[i]? = some d → ∀ s : Nat, (s : Int) < d.max → Mem.rbusy all (placeI i s) d.val = false
def RNewR (x : Mem.RReg) (p : Int × Int) : Prop := x.live = true ∧ x.base = p.1 ∧ x.perm = 3 ∧ x.bytes = List.replicate p.2.toNat 0 ∧ x.set = List.replicate p.2.toNat true
def RAdds : List (Int × Int) → List Mem.RReg → List Mem.RReg → Prop
 | [], a, b => b = a
 | p :: ps, a, b => ∃ x, RNewR x p ∧ RAdds ps (a ++ [x]) b
theorem RAdds.snoc {ps : List (Int × Int)} {p : Int × Int} : ∀ {a b : List Mem.RReg}, RAdds ps a b → ∀ {x : Mem.RReg}, RNewR x p → RAdds (ps ++ [p]) a (b ++ [x]) := by
 induction ps with
 | nil =>
  intro a b h x hx
  have h : b = a := h
  subst h
  exact ⟨x, hx, rfl⟩
 | cons q ps ih =>
  intro a b h x hx
  obtain ⟨y, h1, h2⟩ := h
  exact ⟨y, h1, ih h2 hx⟩
theorem RAdds.facts {ps : List (Int × Int)} : ∀ {a b : List Mem.RReg}, RAdds ps a b → b.length = a.length + ps.length ∧ (∀ (i : Nat) (x : Mem.RReg), a[i]? = some x → b[i]? = some x) ∧ (∀ x ∈ b, x ∈ a ∨ ∃ p ∈ ps, RNewR x p) := by
 induction ps with
 | nil =>
  intro a b h
  have h : b = a := h
  subst h
  exact ⟨rfl, fun _ _ h => h, fun _ hx => Or.inl hx⟩
 | cons q ps ih =>
  intro a b h
  obtain ⟨y, h1, h2⟩ := h
  obtain ⟨e1, e2, e3⟩ := ih h2
  refine ⟨by rw [e1]; simp; omega, fun i x hx => e2 i x (by rw [List.getElem?_append_left (List.getElem?_eq_some_iff.1 hx).1]; exact hx), fun x hx => ?_⟩
  rcases e3 x hx with hx | ⟨p, hp, hx⟩
  ·rcases List.mem_append.1 hx with hx | hx
   ·exact Or.inl hx
   ·rw [List.mem_singleton.1 hx]
    exact Or.inr ⟨q, by simp, h1⟩
  ·exact Or.inr ⟨p, by simp [hp], hx⟩
theorem RAdds.free {ps : List (Int × Int)} {a b : List Mem.RReg} (h : RAdds ps a b) {p v : Int} (hf : Mem.rbusy a p v = false) (ho : ∀ q ∈ ps, 0 ≤ q.2 ∧ (p + v ≤ q.1 ∨ q.1 + q.2 ≤ p)) : Mem.rbusy b p v = false := by
 obtain ⟨_, _, e3⟩ := h.facts
 cases hb : Mem.rbusy b p v with
 | false => rfl
 | true =>
  unfold Mem.rbusy at hb hf
  rw [List.any_eq_true] at hb
  rw [List.any_eq_false] at hf
  obtain ⟨r, hr, hb⟩ := hb
  rcases e3 r hr with hx | ⟨q, hq, hx⟩
  ·exact absurd hb (hf r hx)
  ·unfold Mem.rbusyR at hb
   rw [Bool.and_eq_true, decide_eq_true_eq] at hb
   have h1 := ho q hq
   obtain ⟨_, h3, _, h5, _⟩ := hx
   have hb := hb.2
   rw [h3, h5, List.length_replicate] at hb
   omega
theorem Rel.adds {ps : List (Int × Int)} : ∀ {a b : List Mem.Reg × Nat} {c d : List Mem.RReg}, PAdds ps a b → RAdds ps c d → Mem.Rel a.1 a.2 c → Mem.Rel b.1 b.2 d := by
 induction ps with
 | nil =>
  intro a b c d h1 h2 hr
  have h1 : b = a := h1
  have h2 : d = c := h2
  rw [h1, h2]
  exact hr
 | cons p ps ih =>
  intro a b c d h1 h2 hr
  obtain ⟨i, r, _, hro, hn, h3⟩ := h1
  obtain ⟨x, hx, h4⟩ := h2
  refine ih h3 h4 (hr.add (i := i) hn.hid ?_)
  obtain ⟨x1, x2, x3, x4, x5⟩ := hx
  exact Mem.Twin.new hn hro x1 x2 x3 x4 (by rw [x5]; rfl)
structure RHalf (w w' : World) (s s' : Mem.RS) (x : RT) (ix : RX) (DB OB : Nat) (idb : Option Nat) (idc : Nat) (ids : List Nat) (d : MDef) (k : Nat) (ps : List (Int × Int)) : Prop where
 both : RBoth w' x s'
 box : Blk w' OB [.int .i64 d.kind, .int .i64 d.key, .int .i64 d.val, .int .i64 d.max, .pointer (some ⟨ix.r, 0, none⟩), slV idb ids.length idc] 117
 dbx : Blk w' DB [.int .i64 d.kind, .int .i64 d.key, .int .i64 d.val, .int .i64 d.max] 36
 row : RowAt w' 3 1 idb ids.length idc (ids.map idV)
 ixa : RAt w' ix
 p : ix.p = newQ d
 idok : ∀ (j id : Nat), ids[j]? = some id → ∃ r, s'.all[id]? = some r ∧ r.live = true ∧ r.base = placeI k j ∧ (r.bytes.length : Int) = d.val ∧ r.perm = 3
 a1 : OB ∉ s'.blocks ∧ OB ∉ x.blocks ∧ OB ∉ ix.blocks ∧ idb ≠ some OB ∧ OB ≠ DB ∧ w.heap.size ≤ OB
 a2 : ∀ b, idb = some b → b ∉ s'.blocks ∧ b ∉ x.blocks ∧ b ∉ ix.blocks ∧ b ≠ DB ∧ w.heap.size ≤ b
 a3 : ∀ b ∈ ix.blocks, b ∉ s'.blocks ∧ b ∉ x.blocks ∧ w.heap.size ≤ b
 a4 : DB ∉ s'.blocks
 xown : ∀ b ∈ x.blocks, w.heap.size ≤ b
 m : s'.m = s.m
 own : ∀ b ∈ s'.blocks, b ∈ s.blocks ∨ w.heap.size ≤ b
 touch : Touch s.blocks w w'
 adds : RAdds ps s.all s'.all
theorem RHalf.idlt {w w' : World} {s s' : Mem.RS} {x : RT} {ix : RX} {DB OB : Nat} {idb : Option Nat} {idc : Nat} {ids : List Nat} {d : MDef} {k : Nat} {ps : List (Int × Int)} (h : RHalf w w' s s' x ix DB OB idb idc ids d k ps) : ∀ b, idb = some b → b < w'.heap.size := fun b hb => by
 have hr := h.row
 rw [hb] at hr
 obtain ⟨_, _, _, _, hB, _⟩ := hr
 exact hB.lt
theorem RHalf.add {w w' w2 : World} {s s' : Mem.RS} {x : RT} {ix : RX} {DB OB : Nat} {idb : Option Nat} {idc : Nat} {ids : List Nat} {d : MDef} {k : Nat} {ps : List (Int × Int)} {p v : Int} {e : Ending} (h : RHalf w w' s s' x ix DB OB idb idc ids d k ps)
  (hp : Mem.RAddPost' w' s' p v 3 e w2) (h0 : Mem.raddE s'.all p v 3 = 0) (v0 : 0 ≤ v) :
  e = .returned (.tuple #[.int .i64 (s'.all.length : Int), .int .i64 0]) ∧ Touch s'.blocks w' w2 ∧ ∃ s2 r, RHalf w w2 s s2 x ix DB OB idb idc ids d k (ps ++ [(p, v)]) ∧ s2.all = s'.all ++ [r] ∧ r.live = true ∧ r.base = p ∧ (r.bytes.length : Int) = v ∧ r.perm = 3 := by
 obtain ⟨he, ht, s2, hA, hm, hb, _, hY⟩ := hp
 obtain ⟨r, hall, r1, r2, r3, r4, r5⟩ := hY h0
 rw [h0, if_pos rfl] at he
 have hsz := h.touch.size
 have hkeep : ∀ b, b < w'.heap.size → b ∉ s'.blocks → b ∉ s2.blocks := fun b hlt hn hx => by
  rcases hb b hx with h1 | h1
  ·exact hn h1
  ·omega
 have hixl := h.ixa.lt
 have hxl := h.both.tab.lt
 have hget : ∀ (id : Nat) r', s'.all[id]? = some r' → s2.all[id]? = some r' := fun id r' hr' => by rw [hall, List.getElem?_append_left (List.getElem?_eq_some_iff.1 hr').1]; exact hr'
 refine ⟨he, ht, s2, r, ⟨⟨h.both.tab.touch ht h.both.apart, hA, by rw [hm]; exact h.both.at_, fun b hbx => hkeep b (hxl b hbx) (h.both.apart b hbx), fun i j id m h1 h2 => ?_⟩, ht.blk h.box h.a1.1, ht.blk h.dbx h.a4, h.row.touch ht (fun b hbx => (h.a2 b hbx).1), h.ixa.touch ht (fun b hbx => (h.a3 b hbx).1), h.p, fun j id hj => ?_, ⟨hkeep _ h.box.lt h.a1.1, h.a1.2⟩, fun b hbx => ⟨hkeep b (h.idlt b hbx) (h.a2 b hbx).1, (h.a2 b hbx).2⟩, fun b hbx => ⟨hkeep b (hixl b hbx) (h.a3 b hbx).1, (h.a3 b hbx).2⟩, hkeep _ h.dbx.lt h.a4, h.xown, by rw [hm, h.m], fun b hbx => ?_, h.touch.trans ht (fun b hbx => h.own b hbx), ?_⟩, hall, r1, r2, by rw [r4, List.length_replicate]; omega, r3⟩
 ·obtain ⟨r', q1, q2⟩ := h.both.ids i j id m h1 h2
  exact ⟨r', hget id r' q1, q2⟩
 ·obtain ⟨r', q1, q2⟩ := h.idok j id hj
  exact ⟨r', hget id r' q1, q2⟩
 ·rcases hb b hbx with h1 | h1
  ·exact h.own b h1
  ·exact Or.inr (by omega)
 ·rw [hall]
  exact h.adds.snoc ⟨r1, r2, r3, r4, by rw [r5]; rfl⟩
theorem RHalf.pushId {w w' : World} {s s' : Mem.RS} {x : RT} {ix : RX} {DB OB : Nat} {idb : Option Nat} {idc : Nat} {ids : List Nat} {d : MDef} {k : Nat} {ps : List (Int × Int)} (h : RHalf w w' s s' x ix DB OB idb idc ids d k ps) (hl : ids.length ≤ 1000) (id : Nat)
  (hid : ∃ r, s'.all[id]? = some r ∧ r.live = true ∧ r.base = placeI k ids.length ∧ (r.bytes.length : Int) = d.val ∧ r.perm = 3) :
  ∃ g' cap' w3, (Builtin.append_ #[112, 112] 112 #[slV idb ids.length idc, .slice (some ⟨w'.heap.size, 0, none⟩) 1 1]).run Tryz.prog (w'.alloc (.cells #[.int .i64 (id : Int)] 3)) = .ok (slV g' (ids.length + 1) cap') w3 ∧
   w3.cell? ⟨OB, 5, none⟩ = some (slV idb ids.length idc) ∧ w3.frozen? ⟨OB, 5, none⟩ = false ∧ RHalf w (w3.setCell ⟨OB, 5, none⟩ (slV g' (ids.length + 1) cap')) s s' x ix DB OB g' cap' (ids ++ [id]) d k ps := by
 obtain ⟨g', cap', w3, hr, h2, ht, hg⟩ := ord_push (l := ids) (show OrdAt w' idb idc ids from h.row) hl id
 have hOg : OB ∉ idb.toList := fun hx => h.a1.2.2.2.1 (by simpa using hx)
 have hb3 := ht.blk h.box hOg
 have hgl : ∀ b, g' = some b → idb = some b ∨ w'.heap.size ≤ b := fun b hb => by
  rcases hg b hb with h9 | h9
  ·exact Or.inl (by simpa using h9)
  ·exact Or.inr h9
 have hsz := h.touch.size
 have hgO : g' ≠ some OB := fun e => by
  rcases hgl OB e with h9 | h9
  ·exact h.a1.2.2.2.1 h9
  ·have := h.box.lt; omega
 have hts : Touch (OB :: idb.toList) w' (w3.setCell ⟨OB, 5, none⟩ (slV g' (ids.length + 1) cap')) := (ht.mono (S' := OB :: idb.toList) (fun b hb => Or.inl (List.mem_cons_of_mem _ hb))).setCell _ _ (Or.inl (by simp))
 have hns : ∀ b ∈ s'.blocks, b ∉ OB :: idb.toList := fun b hb hx => by
  rcases List.mem_cons.1 hx with rfl | hx
  ·exact h.a1.1 hb
  ·exact (h.a2 b (by simpa using hx)).1 hb
 have hnx : ∀ b ∈ x.blocks, b ∉ OB :: idb.toList := fun b hb hx => by
  rcases List.mem_cons.1 hx with rfl | hx
  ·exact h.a1.2.1 hb
  ·exact (h.a2 b (by simpa using hx)).2.1 hb
 have hni : ∀ b ∈ ix.blocks, b ∉ OB :: idb.toList := fun b hb hx => by
  rcases List.mem_cons.1 hx with rfl | hx
  ·exact h.a1.2.2.1 hb
  ·exact (h.a2 b (by simpa using hx)).2.2.1 hb
 have hsl := h.both.mem.lt
 have hxl := h.both.tab.lt
 have hil := h.ixa.lt
 refine ⟨g', cap', w3, hr, hb3.cell rfl, hb3.frozen 5, ⟨h.both.tab.touch hts hnx, h.both.mem.touch hts hns, h.both.at_, h.both.apart, h.both.ids⟩, ?_, hts.blk h.dbx (fun hx => ?_), ?_, h.ixa.touch hts hni, h.p, fun j id' hj => ?_, ⟨h.a1.1, h.a1.2.1, h.a1.2.2.1, hgO, h.a1.2.2.2.2⟩, fun b hb => ?_, h.a3, h.a4, h.xown, h.m, h.own, h.touch.trans hts (fun b hb => Or.inr ?_), h.adds⟩
 ·rw [List.length_append]
  exact hb3.setCell 5 (slV g' (ids.length + 1) cap')
 ·rcases List.mem_cons.1 hx with hx | hx
  ·exact h.a1.2.2.2.2.1 hx.symm
  ·exact (h.a2 DB (by simpa using hx)).2.2.2.1 rfl
 ·have h3 : RowAt w3 3 1 g' (ids ++ [id]).length cap' ((ids ++ [id]).map idV) := h2
  exact RowAt.touch h3 ((Touch.refl [OB] w3).setCell _ _ (Or.inl (by simp))) (fun b hb hx => by simp at hx; rw [hx] at hb; exact hgO hb)
 ·rw [List.getElem?_append] at hj
  split at hj
  ·exact h.idok j id' hj
  ·rename_i hge
   have hj0 : j - ids.length = 0 := by
    have := (List.getElem?_eq_some_iff.1 hj).1
    simp at this
    omega
   rw [hj0] at hj
   simp at hj
   subst hj
   have : j = ids.length := by omega
   rw [this]
   exact hid
 ·rcases hgl b hb with h9 | h9
  ·exact h.a2 b h9
  ·have hd := h.dbx.lt
   exact ⟨fun hx => by have := hsl b hx; omega, fun hx => by have := hxl b hx; omega, fun hx => by have := hil b hx; omega, by omega, by omega⟩
 ·rcases List.mem_cons.1 hb with rfl | hb
  ·exact h.a1.2.2.2.2.2
  ·exact (h.a2 b (by simpa using hb)).2.2.2.2
end Go.Proofs.YtmhhahmjkopjhaaGreat
end
section
namespace Go.Proofs.YtmhhahmjkopjhaaGreat
open Go.RowKit
def MDef.four (d : MDef) : Int × Int × Int × Int := (d.kind, d.key, d.val, d.max)
structure ROut (w w' : World) (s s' : Mem.RS) (x : RT) (T : Nat) (ds : List MDef) (k : Nat) : Prop where
 both : RBoth w' x s'
 t : x.t = T
 keys : x.maps.map (fun m => (m.kind, m.key, m.val, m.max)) = (ds.take k).map MDef.four
 ps : x.ps = (ds.take k).map newQ
 xown : ∀ b ∈ x.blocks, w.heap.size ≤ b
 m : s'.m = s.m
 own : ∀ b ∈ s'.blocks, b ∈ s.blocks ∨ w.heap.size ≤ b
 touch : Touch s.blocks w w'
 adds : RAdds (plcs ds k) s.all s'.all
theorem RHalf.start {w wr w2 : World} {s s' : Mem.RS} {x : RT} {T : Nat} {ds : List MDef} {k : Nat} {d : MDef} {ix : RX} (h : ROut w wr s s' x T ds k) (hr : RAt w2 ix) (hp : ix.p = newQ d)
  (hb : ∀ b ∈ ix.blocks, (wr.alloc (.cells #[.int .i64 d.kind, .int .i64 d.key, .int .i64 d.val, .int .i64 d.max] 36)).heap.size ≤ b) (ht : Touch [] (wr.alloc (.cells #[.int .i64 d.kind, .int .i64 d.key, .int .i64 d.val, .int .i64 d.max] 36)) w2) :
  RHalf w (w2.alloc (.cells #[.int .i64 d.kind, .int .i64 d.key, .int .i64 d.val, .int .i64 d.max, .pointer (some ⟨ix.r, 0, none⟩), .slice none 0 0] 117)) s s' x ix wr.heap.size w2.heap.size none 0 [] d k (plcs ds k) := by
 have hD := Blk.newA wr #[.int .i64 d.kind, .int .i64 d.key, .int .i64 d.val, .int .i64 d.max] _ 36 rfl
 have hO := Blk.newA w2 #[.int .i64 d.kind, .int .i64 d.key, .int .i64 d.val, .int .i64 d.max, .pointer (some ⟨ix.r, 0, none⟩), .slice none 0 0] _ 117 rfl
 have ht1 : Touch [] wr w2 := ((Touch.refl [] wr).alloc _).trans ht (by simp)
 have ht2 : Touch [] w2 (w2.alloc (.cells #[.int .i64 d.kind, .int .i64 d.key, .int .i64 d.val, .int .i64 d.max, .pointer (some ⟨ix.r, 0, none⟩), .slice none 0 0] 117)) := (Touch.refl [] w2).alloc _
 have hs1 := h.touch.size
 have hs2 := ht.size
 rw [World.size_alloc] at hs2
 have hsl := h.both.mem.lt
 have hxl := h.both.tab.lt
 have hil := hr.lt
 refine ⟨h.both.still (ht1.trans ht2 (by simp)), hO, ht2.blk (ht.blk hD (by simp)) (by simp), ⟨rfl, Nat.le_refl _, by unfold maxLen; simp, rfl⟩, hr.touch ht2 (by simp), hp, (fun j id hj => by simp at hj), ⟨fun hx => ?_, fun hx => ?_, fun hx => ?_, by simp, ?_, ?_⟩, (fun b hbx => by cases hbx), fun b hbx => ⟨fun hx => ?_, fun hx => ?_, ?_⟩, fun hx => ?_, h.xown, h.m, h.own, h.touch.trans (ht1.trans ht2 (by simp)) (by simp), h.adds⟩
 ·have := hsl _ hx; omega
 ·have := hxl _ hx; omega
 ·have := hil _ hx; omega
 ·omega
 ·omega
 ·have := hb b hbx; rw [World.size_alloc] at this; have := hsl b hx; omega
 ·have := hb b hbx; rw [World.size_alloc] at this; have := hxl b hx; omega
 ·have := hb b hbx; rw [World.size_alloc] at this; omega
 ·have := hsl _ hx; omega
theorem RHalf.done {w w' : World} {s s' : Mem.RS} {x : RT} {T : Nat} {ds : List MDef} {ix : RX} {DB OB : Nat} {idb : Option Nat} {idc : Nat} {ids : List Nat} {d : MDef} {k : Nat} (h : RHalf w w' s s' x ix DB OB idb idc ids d k (plcs ds (k + 1))) (ht : x.t = T)
  (hkeys : x.maps.map (fun m => (m.kind, m.key, m.val, m.max)) = (ds.take k).map MDef.four) (hps : x.ps = (ds.take k).map newQ) (hd : ds[k]? = some d) (hk : k < 8) (hok : d.Ok) (hn : (ids.length : Int) = d.max) :
  ∃ sg' cap' w3, (Builtin.append_ #[98, 98] 98 #[slV x.g x.maps.length x.cap, .slice (some ⟨w'.heap.size, 0, none⟩) 1 1]).run Tryz.prog ((w'.alloc (.cells #[.int .i64 d.kind, .int .i64 d.key, .int .i64 d.val, .int .i64 d.max, .pointer (some ⟨ix.r, 0, none⟩), slV idb ids.length idc] 117)).drew) = .ok (.slice sg' (x.maps.length + 1) cap') w3 ∧
   w3.cell? ⟨T, 1, none⟩ = some (slV x.g x.maps.length x.cap) ∧ w3.frozen? ⟨T, 1, none⟩ = false ∧ ∃ x', ROut w (w3.setCell ⟨T, 1, none⟩ (.slice sg' (x.maps.length + 1) cap')) s s' x' T ds (k + 1) := by
 have hdr : Touch [] w' w'.drew := (Touch.refl [] w').drew
 have hml : x.maps.length = k := by
  have h1 := congrArg List.length hkeys
  have h2 := (List.getElem?_eq_some_iff.1 hd).1
  simp at h1
  omega
 have e1 : ix.kind = d.kind := by have := congrArg PX.kind h.p; exact this
 have e2 : ix.size = d.key := by have := congrArg PX.size h.p; exact this
 have e3 : ix.slots.length = ids.length := by
  have h1 := congrArg (fun p => p.slots.length) h.p
  have h2 := newQ_len hok
  simp only [RX.p, List.length_map] at h1
  omega
 have hmd : ((d.max.toNat : Nat) : Int) = d.max := Int.toNat_of_nonneg (by have := hok.2.2.2.2.1; omega)
 have hgood : PGood ix.p := by
  rw [h.p]
  exact PGood.new hok.1 hok.2.1 (by rw [hmd]; exact hok.2.2.2.2)
 have hRM : RMapAt w'.drew ⟨d.kind, d.key, d.val, d.max, ix, idb, idc, ids⟩ := ⟨h.ixa.touch hdr (by simp), h.row.touch hdr (by simp), fun b hb => (h.a2 b hb).2.2.1⟩
 have hOK : RMapOk ⟨d.kind, d.key, d.val, d.max, ix, idb, idc, ids⟩ := ⟨hgood, e1, e2, hok.2.2.1, hok.2.2.2.1, e3.symm⟩
 have hbl : ∀ b ∈ (⟨d.kind, d.key, d.val, d.max, ix, idb, idc, ids⟩ : RMap).blocks, b ∉ x.blocks ∧ b ∉ s'.blocks ∧ w.heap.size ≤ b := fun b hb => by
  rcases List.mem_append.1 hb with hb | hb
  ·exact ⟨(h.a3 b hb).2.1, (h.a3 b hb).1, (h.a3 b hb).2.2⟩
  ·have hb := h.a2 b (by simpa using hb)
   exact ⟨hb.2.1, hb.1, hb.2.2.2.2⟩
 obtain ⟨g', cap', w3, hr, hc, hf, hA3, ht1, ht2, hg⟩ := (h.both.tab.still hdr).push hRM hOK (fun b hb => (hbl b hb).1) (by omega)
 have htk : ds.take (k + 1) = ds.take k ++ [d] := by rw [List.take_add_one, hd]; rfl
 rw [ht] at hc hf hA3 ht2
 have hs0 := h.touch.size
 have htt : Touch x.top w' (w3.setCell ⟨T, 1, none⟩ (slV g' (x.maps.length + 1) cap')) := (hdr.mono (S' := x.top) (fun b hb => by cases hb)).trans ht2 (fun b hb => Or.inl hb)
 have hgx : ∀ b, g' = some b → b ∈ x.blocks ∨ w'.heap.size ≤ b := fun b hb => by
  rcases hg b hb with h9 | h9
  ·exact Or.inl (RT.mem_top (RT.mem_g h9))
  ·exact Or.inr h9
 have hsl := h.both.mem.lt
 have hblk : ∀ b ∈ (x.add g' cap' ⟨d.kind, d.key, d.val, d.max, ix, idb, idc, ids⟩).blocks, b ∈ x.blocks ∨ w'.heap.size ≤ b ∨ b ∈ (⟨d.kind, d.key, d.val, d.max, ix, idb, idc, ids⟩ : RMap).blocks := fun b hb => by
  rcases List.mem_append.1 hb with hb | hb
  ·rcases List.mem_cons.1 (show b ∈ x.t :: g'.toList from hb) with hb | hb
   ·exact Or.inl (by rw [hb]; exact RT.mem_top (by simp [RT.top]))
   ·rcases hgx b (by simpa using hb) with h9 | h9
    ·exact Or.inl h9
    ·exact Or.inr (Or.inl h9)
  ·rw [show (x.add g' cap' ⟨d.kind, d.key, d.val, d.max, ix, idb, idc, ids⟩).maps = x.maps ++ [⟨d.kind, d.key, d.val, d.max, ix, idb, idc, ids⟩] from rfl, List.flatMap_append, List.flatMap_singleton] at hb
   rcases List.mem_append.1 hb with hb | hb
   ·obtain ⟨m9, h9, hb⟩ := List.mem_flatMap.1 hb
    exact Or.inl (RT.mem_map h9 hb)
   ·exact Or.inr (Or.inr hb)
 refine ⟨g'.map fun b => (⟨b, 0, none⟩ : Addr), cap', w3, hr, hc, hf, x.add g' cap' ⟨d.kind, d.key, d.val, d.max, ix, idb, idc, ids⟩, ⟨hA3, h.both.mem.touch htt (fun b hb hx => h.both.apart b (RT.mem_top hx) hb), h.both.at_, fun b hb hx => ?_, fun i j id m hm hj => ?_⟩, ht, ?_, ?_, fun b hb => ?_, h.m, h.own, h.touch.trans htt (fun b hb => Or.inr (h.xown b (RT.mem_top hb))), h.adds⟩
 ·rcases hblk b hb with h9 | h9 | h9
  ·exact h.both.apart b h9 hx
  ·have := hsl b hx; omega
  ·exact (hbl b h9).2.1 hx
 ·have hm : (x.maps ++ [⟨d.kind, d.key, d.val, d.max, ix, idb, idc, ids⟩])[i]? = some m := hm
  rw [List.getElem?_append] at hm
  split at hm
  ·exact h.both.ids i j id m hm hj
  ·have hi0 : i - x.maps.length = 0 := by
    have := (List.getElem?_eq_some_iff.1 hm).1
    simp at this
    omega
   have hik : i = k := by omega
   rw [hi0] at hm
   simp at hm
   subst hm
   rw [hik]
   exact h.idok j id hj
 ·rw [htk]
  show (x.maps ++ [_]).map _ = _
  rw [List.map_append, hkeys, List.map_append]
  rfl
 ·rw [htk]
  show (x.maps ++ [_]).map (fun m : RMap => m.ix.p) = _
  have h1 : x.maps.map (fun m : RMap => m.ix.p) = (ds.take k).map newQ := hps
  rw [List.map_append, h1, List.map_append]
  simp [h.p]
 ·rcases hblk b hb with h9 | h9 | h9
  ·exact h.xown b h9
  ·omega
  ·exact (hbl b h9).2.2
structure RNewAt2 (w w' : World) (x : RT) (s s' : Mem.RS) (l : List MDef) : Prop where
 both : RBoth w' x s'
 keys : x.maps.map (fun m => (m.kind, m.key, m.val, m.max)) = l.map MDef.four
 ps : x.ps = l.map newQ
 own : ∀ b ∈ x.blocks, w.heap.size ≤ b
 m : s'.m = s.m
 mown : ∀ b ∈ s'.blocks, b ∈ s.blocks ∨ w.heap.size ≤ b
 touch : Touch s.blocks w w'
 adds : RAdds (plcs l l.length) s.all s'.all
def RTNewPost (w : World) (s : Mem.RS) (ds : List MDef) (e : Ending) (w' : World) : Prop :=
 (mayI ds = false ∧ e = .returned (.tuple #[.pointer none, .int .i64 2]) ∧ Touch [] w w') ∨
 (mayI ds = true ∧ ¬ FreeR ds s.all ds.length ∧ e = .returned (.tuple #[.pointer none, .int .i64 12]) ∧ Touch [] w w') ∨
 (mayI ds = true ∧ FreeR ds s.all ds.length ∧ ∃ x s', e = .returned (.tuple #[.pointer (some ⟨x.t, 0, none⟩), .int .i64 0]) ∧ RNewAt2 w w' x s s' ds)
theorem RHalf.free {w w' : World} {s s' : Mem.RS} {x : RT} {ds : List MDef} {ix : RX} {DB OB : Nat} {idb : Option Nat} {idc : Nat} {ids : List Nat} {d : MDef} {k q : Nat} (h : RHalf w w' s s' x ix DB OB idb idc ids d k (plcs ds k ++ rowP k d.val q)) (hf : FreeR ds s.all ds.length) (hds : ds.length ≤ 8) (hok : ∀ d ∈ ds, d.Ok) (hd : ds[k]? = some d) (hq : (q : Int) < d.max) (hs : s.all.length ≤ 400) :
  Mem.raddE s'.all (placeI k q) d.val 3 = 0 ∧ s'.all.length < 1000 := by
 have hkl := (List.getElem?_eq_some_iff.1 hd).1
 have hmx : ∀ d ∈ ds, 1 ≤ d.max ∧ d.max ≤ 64 ∧ 1 ≤ d.val ∧ d.val ≤ 64 := fun d hd => by
  have h9 := hok d hd
  exact ⟨h9.2.2.2.2.1, h9.2.2.2.2.2.1, h9.2.2.1, h9.2.2.2.1⟩
 have hdd := hmx d (List.mem_of_getElem? hd)
 have hfree := h.adds.free (hf k d hkl hd q hq) (fun p hp => by
  rcases List.mem_append.1 hp with hp | hp
  ·obtain ⟨i, d', u, hi, hd', hu, rfl⟩ := plcs_mem hp
   have h9 := hmx d' (List.mem_of_getElem? hd')
   refine ⟨by dsimp only; omega, ?_⟩
   exact pl_apart (by omega) (by omega) hdd.2.2.1 hdd.2.2.2 h9.2.2.1 h9.2.2.2 (Or.inl (by omega))
  ·obtain ⟨u, hu, rfl⟩ := List.mem_map.1 hp
   have h9 := List.mem_range.1 hu
   refine ⟨by dsimp only; omega, ?_⟩
   exact pl_apart (by omega) (by omega) hdd.2.2.1 hdd.2.2.2 hdd.2.2.1 hdd.2.2.2 (Or.inr (by omega)))
 have hle := plcs_len (ds := ds) (k := k) (by omega) (fun d hd => by have := hmx d hd; omega)
 have hbd := maxSum_bd (ds.take k) (fun d hd => by have := hmx d (List.mem_of_mem_take hd); omega)
 have hlt : (ds.take k).length ≤ 8 := by rw [List.length_take]; omega
 obtain ⟨f1, _⟩ := h.adds.facts
 rw [List.length_append, rowP_len] at f1
 refine ⟨?_, by omega⟩
 unfold Mem.raddE Mem.mayBeB
 rw [decide_eq_true (by unfold placeI; omega), if_neg (by decide), hfree, if_neg (by decide)]
end Go.Proofs.YtmhhahmjkopjhaaGreat
end
section
namespace Go.Proofs.YtmhhahmjkopjhaaGreat
open Go.RowKit
theorem zero36 : (Tryz.prog.info? 36).map (fun i => (i.zero, i.size)) = some (some (.agg #[.int .i64 0, .int .i64 0, .int .i64 0, .int .i64 0]), 4) := by kernel_rfl
theorem zero82 : (Tryz.prog.info? 82).map (fun i => (i.zero, i.size)) = some (some (.agg #[.bool false, .int .u64 0, .int .i64 0, .slice none 0 0, .slice none 0 0]), 5) := by kernel_rfl
theorem zero117 : (Tryz.prog.info? 117).map (fun i => (i.zero, i.size)) = some (some (.agg #[.int .i64 0, .int .i64 0, .int .i64 0, .int .i64 0, .pointer none, .slice none 0 0]), 6) := by kernel_rfl
theorem rbusy_no {all : List Mem.RReg} {p v : Int} (h : ∀ (j : Nat) (r : Mem.RReg), all[j]? = some r → Mem.rbusyR r p v = false) : Mem.rbusy all p v = false := by
 unfold Mem.rbusy
 rw [List.any_eq_false]
 intro r hr
 obtain ⟨j, hj⟩ := List.getElem?_of_mem hr
 simp [h j r hj]
theorem rbusy_at {all : List Mem.RReg} {p v : Int} {j : Nat} {r : Mem.RReg} (hr : all[j]? = some r) (h : Mem.rbusyR r p v = true) : Mem.rbusy all p v = true := by
 unfold Mem.rbusy
 rw [List.any_eq_true]
 exact ⟨r, List.mem_of_getElem? hr, h⟩
theorem DefsAt.over {S : List Nat} {w w' : World} {sa : Option Addr} {n : Nat} {ds : List MDef} (h : DefsAt w sa n ds) (ht : Touch S w w') (hS : ∀ b off, sa = some ⟨b, off, none⟩ → 1 ≤ n → b ∉ S) : DefsAt w' sa n ds :=
 ⟨h.len, h.small, fun hn => by
  obtain ⟨b, off, h1, h2⟩ := h.at_ hn
  exact ⟨b, off, h1, fun i d hd j v hv => ht.cell (h2 i d hd j v hv) (hS b off h1 hn)⟩⟩
theorem rtnew_any {w : World} {s : Mem.RS} (h : Mem.RefAt w s) (hsl : s.all.length ≤ 400) {sa : Option Addr} {n sc : Nat} {ds : List MDef} (hd : DefsAt w sa n ds) (hout : ∀ b off, sa = some ⟨b, off, none⟩ → 1 ≤ n → b ∉ s.blocks) :
  Calls Tryz.prog 31 #[.pointer (some ⟨s.m, 0, none⟩), .slice sa n sc] w (RTNewPost w s ds) := by
 have hz1 := (zero_of_info (P := Tryz.prog) zero36).1
 have hz2 := (zero_of_info (P := Tryz.prog) zero36).2
 have hz3 := (zero_of_info (P := Tryz.prog) zero82).1
 have hz4 := (zero_of_info (P := Tryz.prog) zero82).2
 have hz5 := (zero_of_info (P := Tryz.prog) zero117).1
 have hz6 := (zero_of_info (P := Tryz.prog) zero117).2
 obtain rfl := hd.len
 have hsm := hd.small
 have H1 := toHid (rmay_any (sc := sc) hd)
 have HD := toHid hd
 have HOUT := toHid hout
 have HH := toHid (And.intro h hsl)
 clear h hd hout
 cases hmay : mayI ds with
 | false =>
  rw [hmay] at H1
  have HF : Hid (∀ w', Touch [] w w' → RTNewPost w s ds (.returned (.tuple #[.pointer none, .int .i64 2])) w') := fun w' ht => Or.inl ⟨hmay, rfl, ht⟩
  clear hmay
  go_enter Tryz.func31, Tryz.ntmps31
  go_wp2_with fail
  refine Calls.mono H1.out ?_
  rintro e w2 ⟨rfl, ht⟩
  have HX := toHid (HF.out _ ht)
  clear ht
  go_wp2
  go_ret2
  exact HX.out
 | true =>
  rw [hmay] at H1
  have hmm := hmay
  unfold mayI at hmm
  rw [decide_eq_true_iff] at hmm
  obtain ⟨hL8, hok⟩ := hmm
  have HM := toHid (And.intro hmay hok)
  clear hmay hok
  go_enter Tryz.func31, Tryz.ntmps31
  go_wp2_with fail
  refine Calls.mono H1.out ?_
  rintro e w0 ⟨rfl, ht0⟩
  have HT0 := toHid ht0
  clear ht0 H1
  generalize hLL : ds.length = L at *
  have HL := toHid hLL
  clear hLL
  go_wp2_with fail
  go_loopw [26] (fun t w' => ∃ k : Nat, k ≤ L ∧ t = .int .i64 k ∧ Hid (Touch [] w w' ∧ FreeR ds s.all k)) (fun t _ => L - (intOf t).toNat)
  case atStart => exact ⟨0, by omega, rfl, HT0.out, fun i d hi => by omega⟩
  case round =>
   obtain ⟨k, hk, rfl, HI⟩ := hrel
   by_cases hlt : k < L
   ·have hda := HD.out.touch HI.out.1
    obtain ⟨b, off, rfl, hc⟩ := hda.at_ (by omega)
    obtain ⟨d, hdk⟩ : ∃ d, ds[k]? = some d := ⟨_, List.getElem?_eq_getElem (by rw [HL.out]; exact hlt)⟩
    have c0 := hc k d hdk 0 _ rfl
    have c1 := hc k d hdk 1 _ rfl
    have c2 := hc k d hdk 2 _ rfl
    have c3 := hc k d hdk 3 _ rfl
    rw [Nat.add_zero] at c0
    have hdo := HM.out.2 d (List.mem_of_getElem? hdk)
    have hv1 := hdo.2.2.1
    have hv2 := hdo.2.2.2.1
    have hm1 := hdo.2.2.2.2.1
    have hm2 := hdo.2.2.2.2.2.1
    obtain ⟨V, hV⟩ : ∃ V : Nat, d.val = V := Int.eq_ofNat_of_zero_le (by omega)
    obtain ⟨M, hMx⟩ : ∃ M : Nat, d.max = M := Int.eq_ofNat_of_zero_le (by omega)
    have hNB := Blk.newA wr #[.int .i64 d.kind, .int .i64 d.key, .int .i64 d.val, .int .i64 d.max] _ 36 rfl
    have HTB : Hid (Touch [] w (wr.alloc (.cells #[.int .i64 d.kind, .int .i64 d.key, .int .i64 d.val, .int .i64 d.max] 36))) := HI.out.1.trans ((Touch.refl [] wr).alloc _) (by simp)
    have HC : Hid (∀ w', Touch [] (wr.alloc (.cells #[.int .i64 d.kind, .int .i64 d.key, .int .i64 d.val, .int .i64 d.max] 36)) w' → w'.cell? ⟨wr.heap.size, 2, none⟩ = some (.int .i64 (V : Int)) ∧ w'.cell? ⟨wr.heap.size, 3, none⟩ = some (.int .i64 (M : Int))) := fun w' ht => by
     rw [← hV, ← hMx]
     have h9 := ht.blk hNB (by simp)
     exact ⟨h9.cell rfl, h9.cell rfl⟩
    have HDK := toHid (And.intro hdk (And.intro hV (And.intro hMx HI.out.2)))
    have hk8 : k < 8 := by omega
    rw [hV] at hv1 hv2
    rw [hMx] at hm1 hm2
    clear hda hc hdk hdo hNB HI hV hMx
    go_wp2_with fail
    generalize hwb : wr.alloc (.cells #[.int .i64 d.kind, .int .i64 d.key, .int .i64 d.val, .int .i64 d.max] 36) = wb at *
    generalize wr.heap.size = DB at *
    clear hwb c0 c1 c2 c3
    go_loopw [8] (fun t w' => ∃ q : Nat, q ≤ M ∧ t = .int .i64 q ∧ Hid (Touch [] wb w' ∧ ∀ u : Nat, u < q → Mem.rbusy s.all (placeI k u) V = false)) (fun t _ => M - (intOf t).toNat)
    case atStart => exact ⟨0, by omega, rfl, Touch.refl _ _, fun u hu => by omega⟩
    case round =>
     obtain ⟨q, hq, rfl, HJ⟩ := hrel
     obtain ⟨e2, e3⟩ := HC.out _ HJ.out.1
     by_cases hqt : q < M
     ·have hR := HH.out.1.touch (HTB.out.trans HJ.out.1 (by simp)) (by simp)
      have r0 := hR.c0
      have hmany := hR.many
      have HJT := toHid HJ.out.1
      have HJF := toHid HJ.out.2
      unfold slV at r0
      generalize hsg : (s.g.map fun b => (⟨b, 0, none⟩ : Addr)) = sg at *
      have HSG := toHid hsg
      generalize hRl : s.all.length = R at *
      have HRL := toHid hRl
      clear hR hsg hRl HJ
      go_wp2_with fail
      go_loopw [42] (fun t w' => ∃ j : Nat, j ≤ R ∧ t = .int .i64 j ∧ Hid (Touch [] wb w' ∧ ∀ (i : Nat) (r : Mem.RReg), i < j → s.all[i]? = some r → Mem.rbusyR r (placeI k q) V = false)) (fun t _ => R - (intOf t).toNat)
      case atStart => exact ⟨0, by omega, rfl, HJT.out, fun i r hi => by omega⟩
      case round =>
       obtain ⟨j, hj, rfl, HK⟩ := hrel
       clear e2 e3 r0
       by_cases hjt : j < R
       ·obtain ⟨r, hr⟩ : ∃ r, s.all[j]? = some r := ⟨_, List.getElem?_eq_getElem (by rw [HRL.out]; exact hjt)⟩
        have hTw := HTB.out.trans HK.out.1 (by simp)
        have hR := HH.out.1.touch hTw (by simp)
        obtain ⟨sb, hsb⟩ := hR.some_g (i := j) (by rw [HRL.out]; exact hjt)
        have hsg := HSG.out
        rw [hsb, Option.map_some] at hsg
        subst hsg
        have f0 := hR.at hsb hr (show 0 < 5 by omega) (v := .bool r.live) rfl
        have f1 := hR.at hsb hr (show 1 < 5 by omega) (v := .int .u64 r.base) rfl
        have f2 := hR.at hsb hr (show 2 < 5 by omega) (v := .int .i64 r.perm) rfl
        have f3 := hR.at hsb hr (show 3 < 5 by omega) (v := .slice (some ⟨r.bb, 0, none⟩) r.bytes.length r.bcap) rfl
        have f4 := hR.at hsb hr (show 4 < 5 by omega) (v := .slice (some ⟨r.sb, 0, none⟩) r.set.length r.scap) rfl
        rw [Nat.add_zero] at f0
        obtain ⟨e2, e3⟩ := HC.out _ HK.out.1
        have e2' := fun o => ((Touch.refl [] wr).alloc o).cell e2 (by simp)
        have hro := hR.ok r (List.mem_of_getElem? hr)
        have g1 := hro.base0
        have g2 := hro.size1
        have g3 := hro.size2
        have g4 := hro.fits
        have HP := toHid (fun w0 => rplace_any w0 k q hk8 (by omega))
        have HNo : Hid (Mem.rbusyR r (placeI k q) V = false → Hid (Touch [] wb (wr.alloc (.cells #[.bool r.live, .int .u64 r.base, .int .i64 r.perm, .slice (some ⟨r.bb, 0, none⟩) r.bytes.length r.bcap, .slice (some ⟨r.sb, 0, none⟩) r.set.length r.scap] 82)) ∧ ∀ (i : Nat) (r : Mem.RReg), i < j + 1 → s.all[i]? = some r → Mem.rbusyR r (placeI k q) V = false)) := fun hb => ⟨HK.out.1.alloc _, fun i r' hi hr' => by
         by_cases e : i = j
         ·subst e
          rw [hr] at hr'
          injection hr' with hr'
          rw [← hr']
          exact hb
         ·exact HK.out.2 i r' (by omega) hr'⟩
        have HYes : Hid (Mem.rbusyR r (placeI k q) V = true → RTNewPost w s ds (.returned (.tuple #[.pointer none, .int .i64 12])) (wr.alloc (.cells #[.bool r.live, .int .u64 r.base, .int .i64 r.perm, .slice (some ⟨r.bb, 0, none⟩) r.bytes.length r.bcap, .slice (some ⟨r.sb, 0, none⟩) r.set.length r.scap] 82))) := fun hb => Or.inr (Or.inl ⟨HM.out.1, (fun hf => by
         obtain ⟨hdk, hV, hMx, _⟩ := HDK.out
         have h9 := hf k d (by rw [HL.out]; exact hlt) hdk q (by rw [hMx]; omega)
         rw [hV, rbusy_at hr hb] at h9
         cases h9), rfl, hTw.alloc _⟩)
        have hpl0 : 0 ≤ placeI k q := by unfold placeI; omega
        have hpl1 : placeI k q + 64 ≤ 18446744073709551615 := by unfold placeI; omega
        have hbR : Mem.rbusyR r (placeI k q) V = (r.live && decide (r.base < placeI k q + V ∧ placeI k q < r.base + (r.bytes.length : Int))) := rfl
        rw [hbR] at HNo HYes
        generalize placeI k q = pl at *
        generalize r.live = lv at *
        generalize r.base = ba at *
        generalize r.bytes.length = bl at *
        generalize r.perm = pm at *
        generalize r.bb = rbb at *
        generalize r.bcap = rbc at *
        generalize r.sb = rsb at *
        generalize r.set.length = rsl at *
        generalize r.scap = rsc at *
        have w1 : IntKind.u64.wrap (bl : Int) = bl := by rw [IntKind.wrap_u64]; omega
        have w2 : IntKind.u64.wrap (V : Int) = V := by rw [IntKind.wrap_u64]; omega
        clear hr hTw hR hsb hro hbR HK HJT HJF
        cases lv with
        | false =>
         have hb : (false && decide (ba < pl + V ∧ pl < ba + (bl : Int))) = false := rfl
         go_wp2_with fail
         refine Calls.mono (HP.out _) ?_
         rintro e w' ⟨rfl, rfl⟩
         go_wp2
         exact ⟨⟨j + 1, by omega, by go_num, HNo.out hb⟩, by simp [intOf]; omega⟩
        | true =>
         by_cases h1 : ba ≤ pl
         ·have w3 : IntKind.u64.wrap (pl - ba) = pl - ba := by rw [IntKind.wrap_u64]; omega
          have h1d : decide (ba ≤ pl) = true := decide_eq_true h1
          have h1e : decide (pl < ba) = false := decide_eq_false (by omega)
          by_cases h2 : pl - ba < bl
          ·have hb : (true && decide (ba < pl + V ∧ pl < ba + (bl : Int))) = true := by rw [decide_eq_true (by omega)]; rfl
           have h2d : decide (pl - ba < (bl : Int)) = true := decide_eq_true h2
           have HF := toHid (HYes.out hb)
           go_wp2_with fail
           refine Calls.mono (HP.out _) ?_
           rintro e w' ⟨rfl, rfl⟩
           go_wp2
           go_ret2
           exact HF.out
          ·have hb : (true && decide (ba < pl + V ∧ pl < ba + (bl : Int))) = false := by rw [decide_eq_false (by omega)]; rfl
           have h2d : decide (pl - ba < (bl : Int)) = false := decide_eq_false h2
           go_wp2_with fail
           refine Calls.mono (HP.out _) ?_
           rintro e w' ⟨rfl, rfl⟩
           go_wp2
           exact ⟨⟨j + 1, by omega, by go_num, HNo.out hb⟩, by simp [intOf]; omega⟩
         ·have w3 : IntKind.u64.wrap (ba - pl) = ba - pl := by rw [IntKind.wrap_u64]; omega
          have h1d : decide (ba ≤ pl) = false := decide_eq_false h1
          have h1e : decide (pl < ba) = true := decide_eq_true (by omega)
          by_cases h2 : ba - pl < V
          ·have hb : (true && decide (ba < pl + V ∧ pl < ba + (bl : Int))) = true := by rw [decide_eq_true (by omega)]; rfl
           have h2d : decide (ba - pl < (V : Int)) = true := decide_eq_true h2
           have HF := toHid (HYes.out hb)
           go_wp2_with fail
           refine Calls.mono (HP.out _) ?_
           rintro e w' ⟨rfl, rfl⟩
           go_wp2
           go_ret2
           exact HF.out
          ·have hb : (true && decide (ba < pl + V ∧ pl < ba + (bl : Int))) = false := by rw [decide_eq_false (by omega)]; rfl
           have h2d : decide (ba - pl < (V : Int)) = false := decide_eq_false h2
           go_wp2_with fail
           refine Calls.mono (HP.out _) ?_
           rintro e w' ⟨rfl, rfl⟩
           go_wp2
           exact ⟨⟨j + 1, by omega, by go_num, HNo.out hb⟩, by simp [intOf]; omega⟩
       ·obtain rfl : j = R := by omega
        have HNx : Hid (Touch [] wb wr ∧ ∀ u : Nat, u < q + 1 → Mem.rbusy s.all (placeI k u) V = false) := ⟨HK.out.1, fun u hu => by
         by_cases e : u = q
         ·subst e
          exact rbusy_no (fun i r hr => HK.out.2 i r (by have := (List.getElem?_eq_some_iff.1 hr).1; have := HRL.out; omega) hr)
         ·exact HJF.out u (by omega)⟩
        clear HK HC HJT HJF
        go_wp2
        exact ⟨⟨q + 1, by omega, by go_num, HNx⟩, by simp [intOf]; omega⟩
     ·obtain rfl : q = M := by omega
      have HNx : Hid (Touch [] w wr ∧ FreeR ds s.all (k + 1)) := ⟨HTB.out.trans HJ.out.1 (by simp), fun i d' hi hd u hu => by
       by_cases e : i = k
       ·subst e
        obtain ⟨hdk, hV, hM, _⟩ := HDK.out
        rw [hdk] at hd
        injection hd with hd
        subst hd
        rw [hV]
        exact HJ.out.2 u (by omega)
       ·exact HDK.out.2.2.2 i d' (by omega) hd u hu⟩
      clear HC HJ
      go_wp2
      exact ⟨⟨k + 1, by omega, by go_num, HNx⟩, by simp [intOf]; omega⟩
   ·obtain rfl : k = L := by omega
    have hTw := HI.out.1
    have HFR : Hid (FreeR ds s.all ds.length) := by rw [HL.out]; exact HI.out.2
    have hR := HH.out.1.touch hTw (by simp)
    have hB := Blk.newA wr #[.pointer (some ⟨s.m, 0, none⟩), .slice none 0 0] _ 100 rfl
    have hta : Touch [] wr (wr.alloc (.cells #[.pointer (some ⟨s.m, 0, none⟩), .slice none 0 0] 100)) := (Touch.refl [] wr).alloc _
    have HO0 : Hid (∃ x s', ROut w (wr.alloc (.cells #[.pointer (some ⟨s.m, 0, none⟩), .slice none 0 0] 100)) s s' x wr.heap.size ds 0) := by
     have hs9 := hTw.size
     have hrl := hR.lt
     refine ⟨⟨wr.heap.size, s.m, none, 0, []⟩, s, ⟨⟨hB, ?_, ?_, ?_, ?_, ?_, ?_, by simp⟩, hR.touch hta (by simp), rfl, ?_, ?_⟩, rfl, rfl, rfl, ?_, rfl, fun b hb => Or.inl hb, (hTw.trans hta (by simp)).nil, rfl⟩
     ·exact ⟨rfl, Nat.le_refl _, Nat.zero_le _, rfl⟩
     ·intro m hm; cases hm
     ·intro m hm; cases hm
     ·simp [RT.top]
     ·intro m hm; cases hm
     ·intro i j mi mj hi; simp at hi
     ·intro b hb hx
      simp [RT.blocks, RT.top] at hb
      have := hrl b hx
      omega
     ·intro i j id m hm; simp at hm
     ·intro b hb
      simp [RT.blocks, RT.top] at hb
      omega
    clear hR hB hta HI hTw
    go_wp2_with fail
    generalize wr.heap.size = T at *
    go_loopw [91] (fun t w' => ∃ j : Nat, j ≤ k ∧ t = .int .i64 j ∧ Hid (∃ x s', ROut w w' s s' x T ds j)) (fun t _ => k - (intOf t).toNat)
    case atStart => exact ⟨0, by omega, rfl, HO0.out⟩
    case round =>
     obtain ⟨j, hj, rfl, HI⟩ := hrel
     clear HO0
     by_cases hlt2 : j < k
     ·obtain ⟨x, s1, hO⟩ := HI.out
      have hda := HD.out.over hO.touch HOUT.out
      obtain ⟨b, off, rfl, hc⟩ := hda.at_ (by omega)
      obtain ⟨d, hdk⟩ : ∃ d, ds[j]? = some d := ⟨_, List.getElem?_eq_getElem (by rw [HL.out]; exact hlt2)⟩
      have c0 := hc j d hdk 0 _ rfl
      have c1 := hc j d hdk 1 _ rfl
      have c2 := hc j d hdk 2 _ rfl
      have c3 := hc j d hdk 3 _ rfl
      rw [Nat.add_zero] at c0
      have hdo := HM.out.2 d (List.mem_of_getElem? hdk)
      have hv1 := hdo.2.2.1
      have hv2 := hdo.2.2.2.1
      have hm1 := hdo.2.2.2.2.1
      have hm2 := hdo.2.2.2.2.2.1
      have hmt : ((d.max.toNat : Nat) : Int) = d.max := Int.toNat_of_nonneg (by omega)
      have hNB := Blk.newA wr #[.int .i64 d.kind, .int .i64 d.key, .int .i64 d.val, .int .i64 d.max] _ 36 rfl
      have HNB := toHid hNB
      have HN : Hid (∀ w0, Calls Tryz.prog 50 #[.int .i64 d.kind, .int .i64 d.key, .int .i64 d.max] w0 (NewAPost w0 d.kind d.key d.max.toNat)) := fun w0 => by
       have h9 := rnewA_any w0 d.kind d.key d.max.toNat (by rw [hmt]; exact hdo.2.2.2.2)
       rw [hmt] at h9
       exact h9
      have HO := toHid (And.intro hO (And.intro hdk (And.intro hdo hmt)))
      have hj8 : j < 8 := by omega
      clear hda hc hdk hdo hNB HI hO
      go_wp2_with fail
      refine Calls.mono (HN.out _) ?_
      rintro e w2 ⟨ix, rfl, hix, hixp, hixb, hixt⟩
      have HRH := toHid (RHalf.start HO.out.1 hix hixp hixb hixt)
      have hD2 := hixt.blk HNB.out (by simp)
      have d0 := hD2.cell (i := 0) rfl
      have d1 := hD2.cell (i := 1) rfl
      have d2 := hD2.cell (i := 2) rfl
      have d3 := hD2.cell (i := 3) rfl
      clear hix hixp hixb hixt hD2 c0 c1 c2 c3 HN HNB
      go_wp2_with fail
      generalize hw3 : w2.alloc (.cells #[.int .i64 d.kind, .int .i64 d.key, .int .i64 d.val, .int .i64 d.max, .pointer (some ⟨ix.r, 0, none⟩), .slice none 0 0] 117) = w3 at *
      clear hw3 d0 d1 d2 d3
      generalize wr.heap.size = DB at *
      generalize w2.heap.size = OB at *
      obtain ⟨M, hMx⟩ : ∃ M : Nat, d.max = M := Int.eq_ofNat_of_zero_le (by omega)
      obtain ⟨V, hV⟩ : ∃ V : Nat, d.val = V := Int.eq_ofNat_of_zero_le (by omega)
      have HMV := toHid (And.intro hMx hV)
      have hM64 : M ≤ 64 := by omega
      have hV1 : 1 ≤ V := by omega
      have hV64 : V ≤ 64 := by omega
      clear hv1 hv2 hm1 hm2 hmt hMx hV
      go_loopw [18] (fun t w' => ∃ q : Nat, q ≤ M ∧ t = .int .i64 q ∧ Hid (∃ s2 idb idc ids, ids.length = q ∧ RHalf w w' s s2 x ix DB OB idb idc ids d j (plcs ds j ++ rowP j d.val q))) (fun t _ => M - (intOf t).toNat)
      case atStart => exact ⟨0, by omega, rfl, s1, none, 0, [], rfl, by rw [show rowP j d.val 0 = [] from rfl, List.append_nil]; exact HRH.out⟩
      case round =>
       obtain ⟨q, hq, rfl, HJ⟩ := hrel
       clear HRH
       obtain ⟨s2, idb, idc, ids, hidl, hH⟩ := HJ.out
       have d2 : wr.cell? ⟨DB, 2, none⟩ = some (.int .i64 d.val) := hH.dbx.cell rfl
       have d3 : wr.cell? ⟨DB, 3, none⟩ = some (.int .i64 d.max) := hH.dbx.cell rfl
       rw [HMV.out.1] at d3
       by_cases hqt : q < M
       ·have hfree := hH.free HFR.out (by rw [HL.out]; exact hL8) HM.out.2 HO.out.2.1 (by rw [HMV.out.1]; omega) HH.out.2
        have hHd : RHalf w wr.drew s s2 x ix DB OB idb idc ids d j (plcs ds j ++ rowP j d.val q) := ⟨hH.both.still ((Touch.refl [] wr).drew), hH.box.drew, hH.dbx.drew, hH.row.touch ((Touch.refl [] wr).drew) (by simp), hH.ixa.touch ((Touch.refl [] wr).drew) (by simp), hH.p, hH.idok, hH.a1, hH.a2, hH.a3, hH.a4, hH.xown, hH.m, hH.own, hH.touch.trans ((Touch.refl [] wr).drew) (by simp), hH.adds⟩
        have hpl0 : 0 ≤ placeI j q := by unfold placeI; omega
        have hpl1 : placeI j q ≤ 18446744073709551615 := by unfold placeI; omega
        have HA := toHid (Mem.radd_any hHd.both.mem (placeI j q) d.val 3 hpl0 hpl1 hfree.2)
        rw [hH.m] at HA
        have HP := toHid (fun w0 => rplace_any w0 j q hj8 (by omega))
        have e2 : wr.drew.cell? ⟨DB, 2, none⟩ = some (.int .i64 d.val) := hHd.dbx.cell rfl
        have HSS : Hid (∀ w', Touch s2.blocks wr.drew w' → w'.cell? ⟨DB, 2, none⟩ = some (.int .i64 d.val)) := fun w' ht => ht.cell e2 hH.a4
        have HAD : Hid (∀ e w3, Mem.RAddPost' wr.drew s2 (placeI j q) d.val 3 e w3 → e = .returned (.tuple #[.int .i64 (s2.all.length : Int), .int .i64 0]) ∧ Touch s2.blocks wr.drew w3 ∧ ∃ g' cap' w4, (Builtin.append_ #[112, 112] 112 #[slV idb ids.length idc, .slice (some ⟨w3.heap.size, 0, none⟩) 1 1]).run Tryz.prog (w3.alloc (.cells #[.int .i64 (s2.all.length : Int)] 3)) = .ok (slV g' (ids.length + 1) cap') w4 ∧
          w3.cell? ⟨OB, 5, none⟩ = some (slV idb ids.length idc) ∧ w4.frozen? ⟨OB, 5, none⟩ = false ∧ w4.cell? ⟨OB, 5, none⟩ = some (slV idb ids.length idc) ∧ Hid (∃ s2 idb idc ids, ids.length = q + 1 ∧ RHalf w (w4.setCell ⟨OB, 5, none⟩ (slV g' (q + 1) cap')) s s2 x ix DB OB idb idc ids d j (plcs ds j ++ rowP j d.val (q + 1)))) := fun e w3 hp => by
         obtain ⟨he, ht, s3, r, h3, hall, r1, r2, r3, r4⟩ := hHd.add hp hfree.1 (by have := HMV.out.2; omega)
         obtain ⟨g', cap', w4, p1, p2, p3, p4⟩ := h3.pushId (by omega) s2.all.length ⟨r, by rw [hall]; simp, r1, by rw [r2, hidl], r3, r4⟩
         refine ⟨he, ht, g', cap', w4, p1, h3.box.cell rfl, p3, p2, s3, g', cap', ids ++ [s2.all.length], by simp [hidl], ?_⟩
         rw [rowP_succ, ← List.append_assoc]
         rw [hidl] at p4
         exact p4
        clear hfree hHd hH e2 d2 HJ hpl0 hpl1
        generalize placeI j q = pl at *
        generalize hdv : d.val = dv at *
        generalize s2.all.length = AL at *
        generalize s2.blocks = SB at *
        go_wp2_with fail
        refine wp_region_held_drew (S := fun w' => w'.cell? ⟨DB, 2, none⟩ = some (.int .i64 dv)) (by kernel_rfl) ?_ (fun hHeld => ?_)
        ·exact HSS.out _ (Touch.refl _ _)
        refine tk 0 (v := ?_) rfl ?_ ?_
        rotate_left
        ·(intro w hSw; (try dsimp only at hSw); go_simp; try with_reducible rfl)
        simp only [Act.put, AP]
        refine tk 1 (v := ?_) rfl ?_ ?_
        rotate_left
        ·(intro w hSw; (try dsimp only at hSw); go_simp; try with_reducible rfl)
        simp only [Act.put, AP]
        refine tk 2 (v := ?_) rfl ?_ ?_
        rotate_left
        ·(intro w hSw; (try dsimp only at hSw); go_simp; try with_reducible rfl)
        simp only [Act.put, AP]
        refine tk 4 (v := ?_) rfl ?_ ?_
        rotate_left
        ·(intro w hSw; (try dsimp only at hSw); go_simp; try with_reducible rfl)
        simp only [Act.put, AP]
        refine tk 5 (v := ?_) rfl ?_ ?_
        rotate_left
        ·(intro w hSw; (try dsimp only at hSw); go_simp; try with_reducible rfl)
        simp only [Act.put, AP]
        refine wpAnyH_ready (rs := [3]) (by kernel_rfl) (by simp) ?_
        refine AllReadyH.cons rfl (fun K hK => ?_) AllReadyH.nil
        simp only [AP]
        go_simp
        refine Calls.mono (HP.out _) ?_; rintro e w4 ⟨rfl, rfl⟩
        go_wp2_with fail
        refine hK.out _ _ ?_ (fun hHeld => ?_)
        ·exact HSS.out _ (Touch.refl _ _)
        clear hK K
        try simp only [Act.put, AP]
        refine wpAnyH_ready (rs := [6]) (by kernel_rfl) (by simp) ?_
        refine AllReadyH.cons rfl (fun K hK => ?_) AllReadyH.nil
        simp only [AP]
        go_simp
        refine Calls.mono HA.out ?_; intro e w4 hp; obtain ⟨rfl, htx, g', cap', w5, hr5, hc5, hf5, hd5, hE5⟩ := HAD.out _ _ hp; have HTX := toHid htx; have HR5 := toHid hr5; have HC5 := toHid (And.intro hc5 (And.intro hf5 hd5)); have HE5 := toHid hE5; clear hp htx hr5 hc5 hf5 hd5 hE5
        go_wp2_with fail
        refine hK.out _ _ ?_ (fun hHeld => ?_)
        ·exact HSS.out _ HTX.out
        clear hK K
        try simp only [Act.put, AP]
        refine tk 7 (v := ?_) rfl ?_ ?_
        rotate_left
        ·(intro w hSw; (try dsimp only at hSw); go_simp; try with_reducible rfl)
        simp only [Act.put, AP]
        refine tk 8 (v := ?_) rfl ?_ ?_
        rotate_left
        ·(intro w hSw; (try dsimp only at hSw); go_simp; try with_reducible rfl)
        simp only [Act.put, AP]
        refine tk 9 (v := ?_) rfl ?_ ?_
        rotate_left
        ·(intro w hSw; (try dsimp only at hSw); go_simp; try with_reducible rfl)
        simp only [Act.put, AP]
        refine wpAnyH_ready (rs := [10]) (by kernel_rfl) (by simp) ?_
        refine AllReadyH.cons rfl (fun K hK => ?_) AllReadyH.nil
        simp only [AP]
        go_simp
        refine hK.out _ _ ?_ (fun hHeld => ?_)
        ·exact hHeld
        clear hK K
        try simp only [Act.put, AP]
        refine wpAnyH_ready (rs := [11]) (by kernel_rfl) (by simp) ?_
        refine AllReadyH.cons rfl (fun K hK => ?_) AllReadyH.nil
        simp only [AP]
        go_simp
        refine hK.out _ _ ?_ (fun hHeld => ?_)
        ·exact hHeld
        clear hK K
        try simp only [Act.put, AP]
        refine wpAnyH_done (by kernel_rfl) ?_ _
        clear hHeld HSS HA HAD HTX HP
        rw [hidl] at HR5 HC5
        obtain ⟨hc5, hf5, hd5⟩ := HC5.out
        unfold slV at *
        generalize (idb.map fun b => (⟨b, 0, none⟩ : Addr)) = og at *
        generalize (g'.map fun b => (⟨b, 0, none⟩ : Addr)) = og' at *
        clear HC5
        go_wp2_with (first | (at_builtin; refine Lib.wpList_append_run _ rfl _ _ _ _ rfl _ _ rfl rfl _ _ HR5.out ?_))
        exact ⟨⟨q + 1, by omega, by go_num, HE5.out⟩, by simp [intOf]; omega⟩
       ·obtain rfl : q = M := by omega
        subst hidl
        have hH2 : RHalf w wr s s2 x ix DB OB idb idc ids d j (plcs ds (j + 1)) := by
         rw [plcs_succ HO.out.2.1, HMV.out.1, Int.toNat_natCast]
         exact hH
        obtain ⟨sg', cap', w4, p1, p2, p3, x', p4⟩ := hH2.done HO.out.1.t HO.out.1.keys HO.out.1.ps HO.out.2.1 hj8 HO.out.2.2.1 (by rw [HMV.out.1])
        have HR4 := toHid p1
        have HN4 := toHid p4
        have hE : ∀ o p v, wr.cell? p = some v → (wr.alloc o).cell? p = some v := fun o p v hp => ((Touch.refl [] wr).alloc o).cell hp (by simp)
        have b0 := hH.box.cell (i := 0) rfl
        have b1 := hH.box.cell (i := 1) rfl
        have b2 := hH.box.cell (i := 2) rfl
        have b3 := hH.box.cell (i := 3) rfl
        have b4 := hH.box.cell (i := 4) rfl
        have b5 := hH.box.cell (i := 5) rfl
        have a0 := fun o => hE o _ _ b0
        have a1 := fun o => hE o _ _ b1
        have a2 := fun o => hE o _ _ b2
        have a3 := fun o => hE o _ _ b3
        have a4 := fun o => hE o _ _ b4
        have a5 := fun o => hE o _ _ b5
        have t1 := hH.both.tab.c1
        rw [HO.out.1.t] at t1
        have at1 := fun o => hE o _ _ t1
        clear hE hH hH2 p1 p4 HJ HO HMV
        unfold slV at *
        generalize (idb.map fun b => (⟨b, 0, none⟩ : Addr)) = og at *
        generalize (x.g.map fun b => (⟨b, 0, none⟩ : Addr)) = xg at *
        generalize x.maps.length = ml at *
        generalize x.cap = xc at *
        generalize ids.length = il at *
        go_wp2_with fail
        go_region_law (refine step_append_known rfl (.tmp 135) (.tmp 137) 98 98 rfl (.slice xg ml xc) (.slice (some ⟨wr.heap.size, 0, none⟩) 1 1) (by simp [Act.eval]) (by simp [Act.eval]) HR4.out ?_)
        all_goals go_wp2
        all_goals exact ⟨⟨j + 1, by omega, by go_num, x', s2, HN4.out⟩, by simp [intOf]; omega⟩
     ·obtain rfl : j = k := by omega
      obtain ⟨x, s1, hO⟩ := HI.out
      have htk : ds.take j = ds := by rw [← HL.out]; exact List.take_length
      have HF : Hid (RTNewPost w s ds (.returned (.tuple #[.pointer (some ⟨T, 0, none⟩), .int .i64 0])) wr) :=
       Or.inr (Or.inr ⟨HM.out.1, HFR.out, x, s1, by rw [hO.t], ⟨hO.both, by rw [hO.keys, htk], by rw [hO.ps, htk], hO.xown, hO.m, hO.own, hO.touch, by rw [HL.out]; exact hO.adds⟩⟩)
      clear hO HI htk
      go_wp2
      go_ret2
      exact HF.out
end Go.Proofs.YtmhhahmjkopjhaaGreat
end
section
namespace Go.Proofs.YtmhhahmjkopjhaaGreat
open Go.RowKit
def getR (ids : List Nat) (all : List Mem.RReg) : Option Nat → Option Mem.RReg × Int
 | some s => (match ids[s]? with
  | some id => all[id]?
  | none => none, 0)
 | none => (none, 14)
def getI (x : RT) (all : List Mem.RReg) (i : Int) (bs : List Int) : (Option Mem.RReg × Int) × List PX :=
 if checkI x i bs.length = 0 then match x.maps[i.toNat]? with
  | some m => (getR m.ids all (m.ix.p.findA bs).1, x.ps.set i.toNat (m.ix.p.findA bs).2)
  | none => ((none, 14), x.ps)
 else ((none, checkI x i bs.length), x.ps)
def regV : Option Mem.RReg → Value
 | some r => .slice (some ⟨r.bb, 0, none⟩) r.bytes.length r.bcap
 | none => .slice none 0 0
theorem TStep.still {w w' w2 : World} {x x' : RT} {qs : List PX} (st : TStep w w' x x' qs) (ht : Touch [] w' w2) : TStep w w2 x x' qs :=
 ⟨st.at_.still ht, st.ps, st.t, st.mem, st.top, st.fixed, st.keys, st.touch.trans ht (by simp), st.blocks⟩
def GetPost (w : World) (x : RT) (a : (Option Mem.RReg × Int) × List PX) (e : Ending) (w' : World) : Prop := e = .returned (.tuple #[regV a.1.1, .int .i64 a.1.2]) ∧ ∃ x', TStep w w' x x' a.2
theorem rget_any {w : World} {x : RT} {s : Mem.RS} (h : RBoth w x s) (hc : ∀ m ∈ x.maps, m.ix.clock ≤ 1000000000) (i : Int) {sa : Option Addr} {sl : Nat} {bs : List Int} (hk : KeyAt w sa sl bs) (sc : Nat) (hsc : sl ≤ sc) :
  Calls Tryz.prog 36 #[.pointer (some ⟨x.t, 0, none⟩), .int .i64 i, .slice sa sl sc] w (GetPost w x (getI x s.all i bs)) := by
 have H1 := toHid (rlookup_any h.tab hc i hk sc hsc)
 by_cases h0 : checkI x i bs.length = 0
 ·obtain ⟨k, m, rfl, hm, hkey⟩ := check_ok h0
  have hmem := List.mem_of_getElem? hm
  have hps : x.ps[k]? = some m.ix.p := by unfold RT.ps; rw [List.getElem?_map, hm]; rfl
  have hok := h.tab.ok m hmem
  have hl : lookI x k bs = ((match (m.ix.p.findA bs).1 with
   | some s => placeI k (s : Int)
   | none => 0, 0), x.ps.set k (m.ix.p.findA bs).2) := by
   unfold lookI
   rw [if_pos h0, Int.toNat_natCast, hps] <;> rfl
  have hv : getI x s.all k bs = (getR m.ids s.all (m.ix.p.findA bs).1, x.ps.set k (m.ix.p.findA bs).2) := by
   unfold getI
   rw [if_pos h0, Int.toNat_natCast, hm]
  rw [hl] at H1
  rw [hv]
  have hkl : k < x.maps.length := (List.getElem?_eq_some_iff.1 hm).1
  have hk8 : k < 8 := by have := h.tab.many; omega
  have HS64 : Hid (∀ s, (m.ix.p.findA bs).1 = some s → s < 64 ∧ s < m.ids.length) := fun s hs => by
   have h1 := findA_lt hs
   have h2 := hok.good.m2
   have h3 := hok.idn
   have h4 : m.ix.p.slots.length = m.ix.slots.length := by simp [RX.p]
   omega
  have HH := toHid (And.intro h hm)
  generalize m.ix.p.findA bs = fq at *
  obtain ⟨fo, q⟩ := fq
  clear h hk h0 hmem hps hv hkey hm hkl hc hl hok
  go_enter Tryz.func36, Tryz.ntmps36
  go_wp2_with fail
  refine Calls.mono H1.out ?_
  rintro e w2 ⟨rfl, x1, st⟩
  have HX := toHid st
  have hR := HH.out.1.step st
  obtain ⟨m1, hm1, hids, hval⟩ := st.map' HH.out.2
  have ht1 := st.t
  clear st H1
  cases fo with
  | none =>
   clear hR hm1 hids hval
   dsimp only [getR, regV]
   go_wp2
   go_ret2
   exact ⟨rfl, x1, HX.out⟩
  | some sN =>
   obtain ⟨hs64, hsl⟩ := HS64.out sN rfl
   obtain ⟨id, hid⟩ : ∃ id, m.ids[sN]? = some id := ⟨_, List.getElem?_eq_getElem hsl⟩
   obtain ⟨r, hr, hr1, hr2, hr3, hr4⟩ := HH.out.1.ids k sN id m HH.out.2 hid
   have hg : getR m.ids s.all (some sN) = (some r, 0) := by unfold getR; dsimp only; rw [hid]; dsimp only; rw [hr]
   have HF : Hid (∀ n, GetPost w x (getR m.ids s.all (some sN), x.ps.set k q) (.returned (.tuple #[.slice (some ⟨r.bb, 0, none⟩) r.bytes.length r.bcap, .int .i64 0])) (w2.drewN n)) := fun n => by
    rw [hg]
    exact ⟨rfl, x1, HX.out.still (((Touch.refl [] w2).drewN n))⟩
   dsimp only
   obtain ⟨gb1, hg1, hcell1⟩ := hR.tab.at_ hm1
   have e5 := hcell1 5 _ (by omega) rfl
   have e0 := hR.tab.c0
   have e1 := hR.tab.c1
   have hids1 := (hR.tab.maps m1 (List.mem_of_getElem? hm1)).ids
   obtain ⟨ib, hib⟩ : ∃ ib, m1.idb = some ib := by
    cases hq : m1.idb with
    | none =>
     rw [hq] at hids1
     have q1 := hids1.2.1
     have q2 : m1.idc = 0 := hids1.2.2.2
     rw [hids] at q1
     omega
    | some ib => exact ⟨ib, rfl⟩
   have e6 : w2.cell? ⟨ib, sN, none⟩ = some (.int .i64 (id : Int)) := by
    rw [hib] at hids1
    obtain ⟨_, _, _, rest, hB, _⟩ := hids1
    refine hB.cell ?_
    rw [List.getElem?_append_left (by rw [List.length_map, hids]; exact hsl), List.getElem?_map, hids, hid]
    rfl
   have hil : id < s.all.length := (List.getElem?_eq_some_iff.1 hr).1
   obtain ⟨sb, hsb⟩ := hR.mem.some_g hil
   have f0 := hR.mem.c0
   have f3 := hR.mem.at hsb hr (show 3 < 5 by omega) (v := .slice (some ⟨r.bb, 0, none⟩) r.bytes.length r.bcap) rfl
   have hkl1 : (k : Int) < x1.maps.length := by have := (List.getElem?_eq_some_iff.1 hm1).1; omega
   rw [hR.at_, ht1] at e0
   rw [hg1, ht1] at e1
   rw [hib] at e5
   rw [hsb] at f0
   unfold slV at e1 e5 f0
   rw [Option.map_some] at e1 e5 f0
   have hI : (sN : Int) < m1.ids.length := by rw [hids]; omega
   have hA : (id : Int) < s.all.length := by omega
   have hp0 : (placeI k sN == 0) = false := by unfold placeI; simp; omega
   have hp1 : (placeI k sN).tdiv 4096 = 33554432 + k * 1048576 + sN := by unfold placeI; rw [Int.tdiv_eq_ediv_of_nonneg (by omega)]; omega
   have hp2 : (33554432 + (k : Int) * 1048576 + sN).tmod 4096 = sN := by rw [Int.tmod_eq_emod_of_nonneg (by omega)]; omega
   have hx1 : IntKind.i64.wrap (sN : Int) = sN := by rw [IntKind.wrap_i64]; omega
   have hx2 : IntKind.u64.wrap (sN : Int) = sN := by rw [IntKind.wrap_u64]; omega
   have hx3 : IntKind.u64.wrap (33554432 + (k : Int) * 1048576 + sN) = 33554432 + (k : Int) * 1048576 + sN := by rw [IntKind.wrap_u64]; omega
   generalize placeI k sN = pl at *
   generalize x1.maps.length = L at *
   generalize m1.ids.length = I1 at *
   generalize s.all.length = A1 at *
   generalize r.bytes.length = R1 at *
   generalize r.bcap = R2 at *
   generalize r.bb = R3 at *
   clear hR hm1 hids hval hg hr hid hr1 hr2 hr3 hr4 hids1 hib hcell1 hil hsb hg1 hsl HS64 ht1
   go_wp2
   go_quiet (fail)
   go_wp2
   go_ret2
   exact HF.out nq
 ·have hv : getI x s.all i bs = ((none, checkI x i bs.length), x.ps) := if_neg h0
  have hl : lookI x i bs = ((0, checkI x i bs.length), x.ps) := if_neg h0
  rw [hl] at H1
  rw [hv]
  have hne : (checkI x i bs.length != 0) = true := by simpa using h0
  generalize checkI x i bs.length = ce at *
  clear h hk h0 hv hc
  go_enter Tryz.func36, Tryz.ntmps36
  go_wp2_with fail
  refine Calls.mono H1.out ?_
  rintro e w ⟨rfl, hx⟩
  go_wp2
  go_ret2
  exact ⟨rfl, hx⟩
end Go.Proofs.YtmhhahmjkopjhaaGreat
end
section
namespace Go.Proofs.YtmhhahmjkopjhaaGreat
open Go.RowKit
def valOf (ids : List Nat) (all : List Mem.RReg) (j : Nat) : List Int := match ids[j]? with
 | some id => (match all[id]? with
  | some r => r.bytes
  | none => [])
 | none => []
def dumpTo (slots : List (Option (List Int))) (ids : List Nat) (all : List Mem.RReg) (n : Nat) : List (List Int × List Int) :=
 (List.range n).filterMap fun j => match slots.getD j none with
  | some b => some (b, valOf ids all j)
  | none => none
theorem dumpTo_none {slots : List (Option (List Int))} {ids : List Nat} {all : List Mem.RReg} {j : Nat} (h : slots.getD j none = none) : dumpTo slots ids all (j + 1) = dumpTo slots ids all j := by
 unfold dumpTo
 rw [List.range_succ, List.filterMap_append]
 rw [List.filterMap_cons, h]
 simp
theorem dumpTo_some {slots : List (Option (List Int))} {ids : List Nat} {all : List Mem.RReg} {j : Nat} {b : List Int} (h : slots.getD j none = some b) : dumpTo slots ids all (j + 1) = dumpTo slots ids all j ++ [(b, valOf ids all j)] := by
 unfold dumpTo
 rw [List.range_succ, List.filterMap_append]
 rw [List.filterMap_cons, h]
 simp
theorem dumpTo_len (slots : List (Option (List Int))) (ids : List Nat) (all : List Mem.RReg) (n : Nat) : (dumpTo slots ids all n).length ≤ n := by
 unfold dumpTo
 have := List.length_filterMap_le (fun j => match slots.getD j none with
  | some b => some (b, valOf ids all j)
  | none => none) (List.range n)
 rwa [List.length_range] at this
def RMap.dump (m : RMap) (all : List Mem.RReg) : List (List Int × List Int) := dumpTo m.ix.p.slots m.ids all m.ix.slots.length
def DumpI (w w' : World) (slots : List (Option (List Int))) (ids : List Nat) (all : List Mem.RReg) (j : Nat) (v : Value) : Prop :=
 ∃ g cap l, v = slV g l.length cap ∧ PLs w w' g cap l ∧ l.map PR.bs = dumpTo slots ids all j ∧ Touch [] w w'
theorem DumpI.push {w wr w2 : World} {slots : List (Option (List Int))} {ids : List Nat} {all : List Mem.RReg} {j : Nat} {g : Option Nat} {cap : Nat} {l : List PR} (h : PLs w wr g cap l) (hbs : l.map PR.bs = dumpTo slots ids all j) (htw : Touch [] w wr) (ht : Touch [] wr w2) (hj : j ≤ 1000)
  {p : PR} (hs : slots.getD j none = some p.k.bs) (hvv : valOf ids all j = p.v.bs) (hk : p.k.Bs w2) (hv : p.v.Bs w2) (hk0 : wr.heap.size ≤ p.k.b) (hv0 : wr.heap.size ≤ p.v.b) :
  ∃ g' cap' w', (Builtin.append_ #[43, 43] 43 #[slV g l.length cap, .slice (some ⟨w2.heap.size, 0, none⟩) 1 1]).run Tryz.prog (w2.alloc (.cells #[p.k.v, p.v.v] 111)) = .ok (slV g' (l.length + 1) cap') w' ∧ DumpI w w' slots ids all (j + 1) (slV g' (l.length + 1) cap') := by
 have hll : l.length ≤ j := by have := dumpTo_len slots ids all j; rw [← hbs, List.length_map] at this; exact this
 have hsz := htw.size
 have hgl : ∀ b, g = some b → b < wr.heap.size := fun b hb => by
  have := h.row.2.2.2
  rw [hb] at this
  obtain ⟨_, hB, _⟩ := this
  exact hB.lt
 obtain ⟨g', cap', w', h1, h2, h3⟩ := (h.touch ht (by simp)).push (htw.trans ht (by simp)) p hk hv (by omega) (by omega) (fun e => by have := hgl _ e; omega) (fun e => by have := hgl _ e; omega) (by omega)
 exact ⟨g', cap', w', h1, g', cap', l ++ [p], by simp, h2, by rw [List.map_append, hbs, dumpTo_some hs, hvv]; rfl, h3⟩
theorem blk_newE {w : World} {n : Nat} (hn : n = w.heap.size) : Blk (w.alloc (.cells #[] 5)) n [] 5 := hn ▸ Blk.newA w #[] [] 5 rfl
theorem KS.Bs.ofReg {w : World} {s : Mem.RS} (h : Mem.RefAt w s) {id : Nat} {r : Mem.RReg} (hr : s.all[id]? = some r) : (⟨r.bb, r.bytes.length, r.bytes⟩ : KS).Bs w := by
 have hmem := List.mem_of_getElem? hr
 obtain ⟨rest, hB⟩ := (h.regs r hmem).bytes
 have ho := h.ok r hmem
 exact ⟨⟨rest, hB.toF⟩, ho.byte, ho.size2, ho.size1, Nat.le_refl _⟩
theorem rdump_any {w : World} {x : RT} {s : Mem.RS} (h : RBoth w x s) {k : Nat} {m : RMap} (hm : x.maps[k]? = some m) :
  Calls Tryz.prog 16 #[.pointer (some ⟨x.t, 0, none⟩), .int .i64 (k : Int)] w fun e w' => (∃ v, e = .returned v ∧ PL w w' v (m.dump s.all)) ∧ Touch [] w w' := by
 have hmem := List.mem_of_getElem? hm
 have hkl : (k : Int) < x.maps.length := by have := (List.getElem?_eq_some_iff.1 hm).1; omega
 obtain ⟨gb, hg, hcell⟩ := h.tab.at_ hm
 have d4 := hcell 4 _ (by omega) rfl
 have c1 := h.tab.c1
 have e3 := (h.tab.maps m hmem).ix.c3
 have hn : m.ix.slots.length ≤ 64 := by have h2 := (h.tab.ok m hmem).good.m2; have h4 : m.ix.p.slots.length = m.ix.slots.length := (by simp [RX.p]); omega
 rw [hg] at c1
 unfold slV at c1 e3
 rw [Option.map_some] at c1
 have HH := toHid (And.intro h (And.intro hm (And.intro hmem hg)))
 have hdump : m.dump s.all = dumpTo m.ix.p.slots m.ids s.all m.ix.slots.length := rfl
 rw [hdump]
 generalize hsg : (m.ix.g.map fun b => (⟨b, 0, none⟩ : Addr)) = sg at *
 generalize hln : m.ix.slots.length = n at *
 generalize hL : x.maps.length = L at *
 have HL := toHid hln
 have HG := toHid hsg
 have HLL := toHid hL
 clear h hm hmem hg hcell hdump hsg hln hL
 go_enter Tryz.func16, Tryz.ntmps16
 go_wp2_with fail
 clear c1 d4 e3
 go_loopw [5, 20] (fun o t w' => ∃ j : Nat, j ≤ n ∧ t = .int .i64 j ∧ Hid (DumpI w w' m.ix.p.slots m.ids s.all j o)) (fun _ t _ => n - (intOf t).toNat)
 case atStart =>
  refine ⟨0, by omega, rfl, none, 0, [], rfl, ?_, rfl, Touch.refl _ _⟩
  exact ⟨⟨rfl, Nat.le_refl _, by unfold maxLen; omega, rfl⟩, (fun b hb => nomatch hb), (fun p hp => nomatch hp)⟩
 case round =>
  obtain ⟨j, hj, rfl, HI⟩ := hrel
  by_cases hlt : j < n
  ·obtain ⟨g, cap, l, rfl, hPL, hbs, ht⟩ := HI.out
   obtain ⟨hh, hm, hmem, hg⟩ := HH.out
   have hR := hh.still ht
   have hget : m.ix.slots[j]? = some (m.ix.slots.getD j none) := by rw [List.getD_eq_getElem?_getD, List.getElem?_eq_getElem (by rw [HL.out]; exact hlt)]; rfl
   obtain ⟨b, hb, hc⟩ := (hR.tab.maps m hmem).ix.slot hget
   have hpg : m.ix.p.slots.getD j none = (m.ix.slots.getD j none).map KS.bs := by
    rw [List.getD_eq_getElem?_getD]
    show ((m.ix.slots.map (Option.map KS.bs))[j]?).getD none = _
    rw [List.getElem?_map, hget]
    rfl
   have hsg := HG.out
   rw [hb, Option.map_some] at hsg
   subst hsg
   cases hs : m.ix.slots.getD j none with
   | none =>
    rw [hs] at hc hpg
    unfold slotV at hc
    have HN : Hid (DumpI w wr m.ix.p.slots m.ids s.all (j + 1) (slV g l.length cap)) := ⟨g, cap, l, rfl, hPL, by rw [dumpTo_none hpg, hbs], ht⟩
    generalize slV g l.length cap = o at *
    clear hR hget hb hpg hs hPL hbs ht HI hh hm hmem hg
    go_wp2
    exact ⟨⟨j + 1, by omega, by go_num, HN⟩, by simp [intOf]; omega⟩
   | some ks =>
    rw [hs] at hc hpg
    unfold slotV KS.v at hc
    have hkA := ((hR.tab.maps m hmem).ix.keys ks (by rw [hs] at hget; exact List.mem_of_getElem? hget)).toBs
    have hsl : j < m.ids.length := by rw [(hh.tab.ok m hmem).idn, HL.out]; exact hlt
    obtain ⟨id, hid⟩ : ∃ id, m.ids[j]? = some id := ⟨_, List.getElem?_eq_getElem hsl⟩
    obtain ⟨r, hr, hr1, hr2, hr3, hr4⟩ := hh.ids k j id m hm hid
    have hvv : valOf m.ids s.all j = r.bytes := by unfold valOf; rw [hid]; dsimp only; rw [hr]
    obtain ⟨gb1, hg1, hcell1⟩ := hh.tab.at_ hm
    obtain rfl : gb1 = gb := by rw [hg] at hg1; injection hg1 with hg1; exact hg1.symm
    have q5 := hcell1 5 _ (by omega) rfl
    have q0 := hh.tab.c0
    have q1 := hh.tab.c1
    have hids1 := (hh.tab.maps m hmem).ids
    obtain ⟨ib, hib⟩ : ∃ ib, m.idb = some ib := by
     cases hq : m.idb with
     | none =>
      rw [hq] at hids1
      have q1 := hids1.2.1
      have q2 : m.idc = 0 := hids1.2.2.2
      omega
     | some ib => exact ⟨ib, rfl⟩
    have q6 : w.cell? ⟨ib, j, none⟩ = some (.int .i64 (id : Int)) := by
     rw [hib] at hids1
     obtain ⟨_, _, _, rest, hB, _⟩ := hids1
     refine hB.cell ?_
     rw [List.getElem?_append_left (by rw [List.length_map]; exact hsl), List.getElem?_map, hid]
     rfl
    have hil : id < s.all.length := (List.getElem?_eq_some_iff.1 hr).1
    obtain ⟨sb, hsb⟩ := hh.mem.some_g hil
    have f0 := hh.mem.c0
    have f3 := hh.mem.at hsb hr (show 3 < 5 by omega) (v := .slice (some ⟨r.bb, 0, none⟩) r.bytes.length r.bcap) rfl
    rw [hh.at_] at q0
    rw [hg1] at q1
    rw [hib] at q5
    rw [hsb] at f0
    unfold slV at q1 q5 f0
    rw [Option.map_some] at q1 q5 f0
    have hI : (j : Int) < m.ids.length := by omega
    have hA : (id : Int) < s.all.length := by omega
    have hvB := KS.Bs.ofReg hR.mem hr
    have HKV := toHid (And.intro hkA (And.intro hvB (And.intro hpg hvv)))
    have HPL := toHid (And.intro hPL (And.intro hbs ht))
    rw [HLL.out] at q1
    generalize m.ids.length = I1 at *
    generalize s.all.length = A1 at *
    generalize hR1 : r.bytes.length = R1 at *
    have HR1 := toHid hR1
    generalize r.bcap = R2 at *
    generalize r.bb = rb at *
    have HSW : Hid (∀ w', Touch [] w w' → w'.cell? ⟨x.t, 0, none⟩ = some (.pointer (some ⟨s.m, 0, none⟩)) ∧ w'.cell? ⟨s.m, 0, none⟩ = some (.slice (some ⟨sb, 0, none⟩) A1 s.cap) ∧ w'.cell? ⟨x.t, 1, none⟩ = some (.slice (some ⟨gb1, 0, none⟩) L x.cap) ∧ w'.cell? ⟨gb1, k * 6 + 5, none⟩ = some (.slice (some ⟨ib, 0, none⟩) I1 m.idc) ∧ w'.cell? ⟨ib, j, none⟩ = some (.int .i64 (id : Int)) ∧ w'.cell? ⟨sb, id * 5 + 3, none⟩ = some (.slice (some ⟨rb, 0, none⟩) R1 R2)) :=
     fun w' ht => ⟨ht.cell q0 (by simp), ht.cell f0 (by simp), ht.cell q1 (by simp), ht.cell q5 (by simp), ht.cell q6 (by simp), ht.cell f3 (by simp)⟩
    have HSS := toHid (fun w' (ht' : Touch [] wr w') => HSW.out w' (ht.trans ht' (by simp)))
    clear hR hget hb hpg hs hPL hbs ht HI hh hm hmem hg hkA hsl hid hr hr1 hr2 hr3 hr4 hvv hg1 hcell1 q5 q0 q1 hids1 hib q6 hil hsb f0 f3 hvB hR1
    go_upto_region 6 with fail
    refine wp_region_held_drew (S := fun w' => w'.cell? ⟨x.t, 0, none⟩ = some (.pointer (some ⟨s.m, 0, none⟩)) ∧ w'.cell? ⟨s.m, 0, none⟩ = some (.slice (some ⟨sb, 0, none⟩) A1 s.cap) ∧ w'.cell? ⟨x.t, 1, none⟩ = some (.slice (some ⟨gb1, 0, none⟩) L x.cap) ∧ w'.cell? ⟨gb1, k * 6 + 5, none⟩ = some (.slice (some ⟨ib, 0, none⟩) I1 m.idc) ∧ w'.cell? ⟨ib, j, none⟩ = some (.int .i64 (id : Int)) ∧ w'.cell? ⟨sb, id * 5 + 3, none⟩ = some (.slice (some ⟨rb, 0, none⟩) R1 R2)) (by kernel_rfl) ?_ (fun hHeld => ?_)
    ·exact HSS.out _ ((Touch.refl [] wr).drew)
    refine tk 0 (v := ?_) rfl ?_ ?_
    rotate_left
    ·(intro w hSw; (try dsimp only at hSw); go_simp; try with_reducible rfl)
    simp only [Act.put, AP]
    refine tk 2 (v := ?_) rfl ?_ ?_
    rotate_left
    ·(intro w hSw; (try dsimp only at hSw); go_simp; try with_reducible rfl)
    simp only [Act.put, AP]
    refine tk 5 (v := ?_) rfl ?_ ?_
    rotate_left
    ·(intro w hSw; (try dsimp only at hSw); go_simp; try with_reducible rfl)
    simp only [Act.put, AP]
    refine tk 6 (v := ?_) rfl ?_ ?_
    rotate_left
    ·(intro w hSw; (try dsimp only at hSw); go_simp; try with_reducible rfl)
    simp only [Act.put, AP]
    refine tk 7 (v := ?_) rfl ?_ ?_
    rotate_left
    ·(intro w hSw; (try dsimp only at hSw); go_simp; try with_reducible rfl)
    simp only [Act.put, AP]
    refine tk 8 (v := ?_) rfl ?_ ?_
    rotate_left
    ·(intro w hSw; (try dsimp only at hSw); go_simp; try with_reducible rfl)
    simp only [Act.put, AP]
    refine tk 9 (v := ?_) rfl ?_ ?_
    rotate_left
    ·(intro w hSw; (try dsimp only at hSw); go_simp; try with_reducible rfl)
    simp only [Act.put, AP]
    refine tk 10 (v := ?_) rfl ?_ ?_
    rotate_left
    ·(intro w hSw; (try dsimp only at hSw); go_simp; try with_reducible rfl)
    simp only [Act.put, AP]
    refine tk 11 (v := ?_) rfl ?_ ?_
    rotate_left
    ·(intro w hSw; (try dsimp only at hSw); go_simp; try with_reducible rfl)
    simp only [Act.put, AP]
    refine tk 12 (v := ?_) rfl ?_ ?_
    rotate_left
    ·(intro w hSw; (try dsimp only at hSw); go_simp; try with_reducible rfl)
    simp only [Act.put, AP]
    refine tk 13 (v := ?_) rfl ?_ ?_
    rotate_left
    ·(intro w hSw; (try dsimp only at hSw); go_simp; try with_reducible rfl)
    simp only [Act.put, AP]
    refine tk 14 (v := ?_) rfl ?_ ?_
    rotate_left
    ·(intro w hSw; (try dsimp only at hSw); go_simp; try with_reducible rfl)
    simp only [Act.put, AP]
    refine tk 15 (v := ?_) rfl ?_ ?_
    rotate_left
    ·(intro w hSw; (try dsimp only at hSw); go_simp; try with_reducible rfl)
    simp only [Act.put, AP]
    refine tk 16 (v := ?_) rfl ?_ ?_
    rotate_left
    ·(intro w hSw; (try dsimp only at hSw); go_simp; try with_reducible rfl)
    simp only [Act.put, AP]
    refine tk 17 (v := ?_) rfl ?_ ?_
    rotate_left
    ·(intro w hSw; (try dsimp only at hSw); go_simp; try with_reducible rfl)
    simp only [Act.put, AP]
    refine tk 18 (v := ?_) rfl ?_ ?_
    rotate_left
    ·(intro w hSw; (try dsimp only at hSw); go_simp; try with_reducible rfl)
    simp only [Act.put, AP]
    refine tk 19 (v := ?_) rfl ?_ ?_
    rotate_left
    ·(intro w hSw; (try dsimp only at hSw); go_simp; try with_reducible rfl)
    simp only [Act.put, AP]
    refine tk 20 (v := ?_) rfl ?_ ?_
    rotate_left
    ·(intro w hSw; (try dsimp only at hSw); go_simp; try with_reducible rfl)
    simp only [Act.put, AP]
    refine tk 21 (v := ?_) rfl ?_ ?_
    rotate_left
    ·(intro w hSw; (try dsimp only at hSw); go_simp; try with_reducible rfl)
    simp only [Act.put, AP]
    refine tk 22 (v := ?_) rfl ?_ ?_
    rotate_left
    ·(intro w hSw; (try dsimp only at hSw); go_simp; try with_reducible rfl)
    simp only [Act.put, AP]
    refine tk 23 (v := ?_) rfl ?_ ?_
    rotate_left
    ·(intro w hSw; (try dsimp only at hSw); go_simp; try with_reducible rfl)
    simp only [Act.put, AP]
    refine tk 24 (v := ?_) rfl ?_ ?_
    rotate_left
    ·(intro w hSw; (try dsimp only at hSw); go_simp; try with_reducible rfl)
    simp only [Act.put, AP]
    refine tk 25 (v := ?_) rfl ?_ ?_
    rotate_left
    ·(intro w hSw; (try dsimp only at hSw); go_simp; try with_reducible rfl)
    simp only [Act.put, AP]
    have HVB : Hid (∀ u, Touch [] wr u → (⟨rb, r.bytes.length, r.bytes⟩ : KS).Bs u) := fun u hu => by
     have h9 := HKV.out.2.1
     rw [← HR1.out] at h9
     exact h9.touch hu (by simp)
    have HKB : Hid (∀ u, Touch [] wr u → (⟨ks.b, ks.bs.length, ks.bs⟩ : KS).Bs u) := fun u hu => HKV.out.1.tight.touch hu (by simp)
    have hz0 : wr.drew.heap.size = wr.heap.size := rfl
    refine wpAnyH_ready (rs := [1, 4]) (by kernel_rfl) (by simp) ?_
    refine (AllReadyH.cons rfl (fun K hK => ?_) (AllReadyH.cons rfl (fun K hK => ?_) AllReadyH.nil))
    ·simp only [AP]
     go_simp
     refine hK.out _ _ ?_ (fun hHeld => ?_)
     ·exact HSS.out _ (((Touch.refl [] wr).drew).alloc _)
     clear hK K
     try simp only [Act.put, AP]
     refine wpAnyH_ready (rs := [3, 4]) (by kernel_rfl) (by simp) ?_
     refine (AllReadyH.cons rfl (fun K hK => ?_) (AllReadyH.cons rfl (fun K hK => ?_) AllReadyH.nil))
     ·have hTu : Touch [] wr (wr.drew.alloc (.cells #[] 5)) := ((Touch.refl [] wr).drew).alloc _
      obtain ⟨g1, cap1, w1, hr1, hA1, ht1, hg1⟩ := bs_append (c9 := ks.cap) (HKB.out _ hTu) (blk_newE (n := wr.heap.size) rfl)
      have hT1 : Touch [] wr w1 := hTu.trans ht1 (fun y hy => Or.inr (by simp at hy; omega))
      have hk1 : wr.heap.size ≤ g1 := by rw [World.size_alloc, hz0] at hg1; omega
      have hlt1 := hA1.lt
      have hTv : Touch [] wr (w1.alloc (.cells #[] 5)) := hT1.alloc _
      have hEv : Blk (w1.alloc (.cells #[] 5)) w1.heap.size [] 5 := blk_newE rfl
      have hE2 : wr.heap.size ≤ w1.heap.size := hT1.size
      have hg2 : g1 ≠ w1.heap.size := by have hlt1 : g1 < w1.heap.size := hlt1; omega
      have hKv := hA1.touch ((Touch.refl [] w1).alloc (.cells #[] 5)) (by simp)
      have HT1 := toHid hT1
      have HRK := toHid hr1
      clear hTu hT1 hr1 hA1 ht1 hg1 hlt1
      obtain ⟨g2, cap2, w2, hr2, hA2, ht2, hg2'⟩ := bs_append (c9 := R2) (HVB.out _ hTv) hEv
      have hTw : Touch [] wr w2 := hTv.trans ht2 (fun y hy => Or.inr (by simp at hy; omega))
      have hsv := hTv.size
      have hK2 := hKv.touch ht2 (by simpa using hg2)
      obtain ⟨g3, cap3, w3, hr3, hD⟩ := DumpI.push HPL.out.1 HPL.out.2.1 HPL.out.2.2 hTw (by omega) (p := ⟨⟨g1, cap1, ks.bs⟩, ⟨g2, cap2, r.bytes⟩⟩) HKV.out.2.2.1 HKV.out.2.2.2 hK2 hA2 hk1 (by show wr.heap.size ≤ g2; omega)
      have HD := toHid hD
      have HT2 := toHid hTw
      have HR2 := toHid hr2
      simp only [KS.v] at hr3
      have HR3 := toHid hr3
      rw [HR1.out] at HR2 HR3
      clear hD hTw hr2 hr3 hA2 ht2 hg2' hsv hK2 hTv hEv hKv hk1 hg2
      refine step_append_known rfl (.tmp 28) (.tmp 29) 39 39 rfl (.slice (some ⟨wr.heap.size, 0, none⟩) 0 0) (.slice (some ⟨ks.b, 0, none⟩) ks.bs.length ks.cap) (by simp [Act.eval]) (by simp [Act.eval]) HRK.out ?_
      refine hK.out _ _ ?_ (fun hHeld => ?_)
      ·exact HSS.out _ HT1.out
      clear hK K
      try simp only [Act.put, AP]
      refine wpAnyH_ready (rs := [4]) (by kernel_rfl) (by simp) ?_
      refine (AllReadyH.cons rfl (fun K hK => ?_) AllReadyH.nil)
      simp only [AP]
      go_simp
      refine hK.out _ _ ?_ (fun hHeld => ?_)
      ·exact HSS.out _ (HT1.out.alloc _)
      clear hK K
      try simp only [Act.put, AP]
      refine wpAnyH_ready (rs := [26]) (by kernel_rfl) (by simp) ?_
      refine (AllReadyH.cons rfl (fun K hK => ?_) AllReadyH.nil)
      refine step_append_known rfl (.tmp 31) (.tmp 52) 39 39 rfl (.slice (some ⟨w1.heap.size, 0, none⟩) 0 0) (.slice (some ⟨rb, 0, none⟩) R1 R2) (by simp [Act.eval]) (by simp [Act.eval]) HR2.out ?_
      refine hK.out _ _ ?_ (fun hHeld => ?_)
      ·exact HSS.out _ HT2.out
      clear hK K
      try simp only [Act.put, AP]
      refine tk 27 (v := ?_) rfl ?_ ?_
      rotate_left
      ·(intro w hSw; (try dsimp only at hSw); go_simp; try with_reducible rfl)
      simp only [Act.put, AP]
      refine wpAnyH_ready (rs := [28]) (by kernel_rfl) (by simp) ?_
      refine (AllReadyH.cons rfl (fun K hK => ?_) AllReadyH.nil)
      simp only [AP]
      go_simp
      refine hK.out _ _ ?_ (fun hHeld => ?_)
      ·exact HSS.out _ (HT2.out.alloc _)
      clear hK K
      try simp only [Act.put, AP]
      refine wpAnyH_ready (rs := [29]) (by kernel_rfl) (by simp) ?_
      refine (AllReadyH.cons rfl (fun K hK => ?_) AllReadyH.nil)
      refine step_append_known rfl (.tmp 27) (.tmp 55) 43 43 rfl (slV g l.length cap) (.slice (some ⟨w2.heap.size, 0, none⟩) 1 1) (by simp [Act.eval]) (by simp [Act.eval]) HR3.out ?_
      refine hK.out _ _ ?_ (fun hHeld => ?_)
      ·exact HSW.out _ (by obtain ⟨_, _, _, _, _, _, h9⟩ := HD.out; exact h9)
      clear hK K
      try simp only [Act.put, AP]
      refine tk 30 (v := ?_) rfl ?_ ?_
      rotate_left
      ·(intro w hSw; (try dsimp only at hSw); go_simp; try with_reducible rfl)
      simp only [Act.put, AP]
      refine wpAnyH_done (by kernel_rfl) ?_ _
      go_wp2
      exact ⟨⟨j + 1, by omega, by go_num, HD⟩, by simp [intOf]; omega⟩
     ·simp only [AP]
      go_simp
      refine hK.out _ _ ?_ (fun hHeld => ?_)
      ·exact HSS.out _ ((((Touch.refl [] wr).drew).alloc _).alloc _)
      clear hK K
      try simp only [Act.put, AP]
      have hTu : Touch [] wr ((wr.drew.alloc (.cells #[] 5)).alloc (.cells #[] 5)) := (((Touch.refl [] wr).drew).alloc _).alloc _
      have hB0 : Blk ((wr.drew.alloc (.cells #[] 5)).alloc (.cells #[] 5)) wr.heap.size [] 5 := (blk_newE rfl : Blk (wr.drew.alloc (.cells #[] 5)) wr.heap.size [] 5).alloc _
      have hB1 : Blk ((wr.drew.alloc (.cells #[] 5)).alloc (.cells #[] 5)) (wr.heap.size + 1) [] 5 := blk_newE (by rw [World.size_alloc]; rfl)
      obtain ⟨g1, cap1, w1, hr1, hA1, ht1, hg1⟩ := bs_append (c9 := ks.cap) (HKB.out _ hTu) (E := wr.heap.size) (by assumption)
      have hTv : Touch [] wr w1 := hTu.trans ht1 (fun y hy => Or.inr (by simp at hy; omega))
      rw [World.size_alloc, World.size_alloc, hz0] at hg1
      have hk1 : wr.heap.size ≤ g1 := by omega
      have hEv : Blk w1 (wr.heap.size + 1) [] 5 := ht1.blk (by assumption) (by simp)
      have hg2 : g1 ≠ wr.heap.size + 1 := by omega
      have hKv := hA1
      have HT1 := toHid hTv
      have HRK := toHid hr1
      clear hTu hr1 hA1 ht1 hg1 hB0 hB1
      obtain ⟨g2, cap2, w2, hr2, hA2, ht2, hg2'⟩ := bs_append (c9 := R2) (HVB.out _ hTv) hEv
      have hTw : Touch [] wr w2 := hTv.trans ht2 (fun y hy => Or.inr (by simp at hy; omega))
      have hsv := hTv.size
      have hK2 := hKv.touch ht2 (by simpa using hg2)
      obtain ⟨g3, cap3, w3, hr3, hD⟩ := DumpI.push HPL.out.1 HPL.out.2.1 HPL.out.2.2 hTw (by omega) (p := ⟨⟨g1, cap1, ks.bs⟩, ⟨g2, cap2, r.bytes⟩⟩) HKV.out.2.2.1 HKV.out.2.2.2 hK2 hA2 hk1 (by show wr.heap.size ≤ g2; omega)
      have HD := toHid hD
      have HT2 := toHid hTw
      have HR2 := toHid hr2
      simp only [KS.v] at hr3
      have HR3 := toHid hr3
      rw [HR1.out] at HR2 HR3
      clear hD hTw hr2 hr3 hA2 ht2 hg2' hsv hK2 hTv hEv hKv hk1 hg2
      refine wpAnyH_ready (rs := [3]) (by kernel_rfl) (by simp) ?_
      refine (AllReadyH.cons rfl (fun K hK => ?_) AllReadyH.nil)
      refine step_append_known rfl (.tmp 28) (.tmp 29) 39 39 rfl (.slice (some ⟨wr.heap.size, 0, none⟩) 0 0) (.slice (some ⟨ks.b, 0, none⟩) ks.bs.length ks.cap) (by simp [Act.eval]) (by simp [Act.eval]) HRK.out ?_
      refine hK.out _ _ ?_ (fun hHeld => ?_)
      ·exact HSS.out _ HT1.out
      clear hK K
      try simp only [Act.put, AP]
      refine wpAnyH_ready (rs := [26]) (by kernel_rfl) (by simp) ?_
      refine (AllReadyH.cons rfl (fun K hK => ?_) AllReadyH.nil)
      refine step_append_known rfl (.tmp 31) (.tmp 52) 39 39 rfl (.slice (some ⟨wr.heap.size + 1, 0, none⟩) 0 0) (.slice (some ⟨rb, 0, none⟩) R1 R2) (by simp [Act.eval]) (by simp [Act.eval]) HR2.out ?_
      refine hK.out _ _ ?_ (fun hHeld => ?_)
      ·exact HSS.out _ HT2.out
      clear hK K
      try simp only [Act.put, AP]
      refine tk 27 (v := ?_) rfl ?_ ?_
      rotate_left
      ·(intro w hSw; (try dsimp only at hSw); go_simp; try with_reducible rfl)
      simp only [Act.put, AP]
      refine wpAnyH_ready (rs := [28]) (by kernel_rfl) (by simp) ?_
      refine (AllReadyH.cons rfl (fun K hK => ?_) AllReadyH.nil)
      simp only [AP]
      go_simp
      refine hK.out _ _ ?_ (fun hHeld => ?_)
      ·exact HSS.out _ (HT2.out.alloc _)
      clear hK K
      try simp only [Act.put, AP]
      refine wpAnyH_ready (rs := [29]) (by kernel_rfl) (by simp) ?_
      refine (AllReadyH.cons rfl (fun K hK => ?_) AllReadyH.nil)
      refine step_append_known rfl (.tmp 27) (.tmp 55) 43 43 rfl (slV g l.length cap) (.slice (some ⟨w2.heap.size, 0, none⟩) 1 1) (by simp [Act.eval]) (by simp [Act.eval]) HR3.out ?_
      refine hK.out _ _ ?_ (fun hHeld => ?_)
      ·exact HSW.out _ (by obtain ⟨_, _, _, _, _, _, h9⟩ := HD.out; exact h9)
      clear hK K
      try simp only [Act.put, AP]
      refine tk 30 (v := ?_) rfl ?_ ?_
      rotate_left
      ·(intro w hSw; (try dsimp only at hSw); go_simp; try with_reducible rfl)
      simp only [Act.put, AP]
      refine wpAnyH_done (by kernel_rfl) ?_ _
      go_wp2
      exact ⟨⟨j + 1, by omega, by go_num, HD⟩, by simp [intOf]; omega⟩
    ·simp only [AP]
     go_simp
     refine hK.out _ _ ?_ (fun hHeld => ?_)
     ·exact HSS.out _ (((Touch.refl [] wr).drew).alloc _)
     clear hK K
     try simp only [Act.put, AP]
     refine wpAnyH_ready (rs := [1]) (by kernel_rfl) (by simp) ?_
     refine (AllReadyH.cons rfl (fun K hK => ?_) AllReadyH.nil)
     simp only [AP]
     go_simp
     refine hK.out _ _ ?_ (fun hHeld => ?_)
     ·exact HSS.out _ ((((Touch.refl [] wr).drew).alloc _).alloc _)
     clear hK K
     try simp only [Act.put, AP]
     have hTu : Touch [] wr ((wr.drew.alloc (.cells #[] 5)).alloc (.cells #[] 5)) := (((Touch.refl [] wr).drew).alloc _).alloc _
     have hB0 : Blk ((wr.drew.alloc (.cells #[] 5)).alloc (.cells #[] 5)) wr.heap.size [] 5 := (blk_newE rfl : Blk (wr.drew.alloc (.cells #[] 5)) wr.heap.size [] 5).alloc _
     have hB1 : Blk ((wr.drew.alloc (.cells #[] 5)).alloc (.cells #[] 5)) (wr.heap.size + 1) [] 5 := blk_newE (by rw [World.size_alloc]; rfl)
     obtain ⟨g1, cap1, w1, hr1, hA1, ht1, hg1⟩ := bs_append (c9 := ks.cap) (HKB.out _ hTu) (E := wr.heap.size + 1) (by assumption)
     have hTv : Touch [] wr w1 := hTu.trans ht1 (fun y hy => Or.inr (by simp at hy; omega))
     rw [World.size_alloc, World.size_alloc, hz0] at hg1
     have hk1 : wr.heap.size ≤ g1 := by omega
     have hEv : Blk w1 (wr.heap.size) [] 5 := ht1.blk (by assumption) (by simp)
     have hg2 : g1 ≠ wr.heap.size := by omega
     have hKv := hA1
     have HT1 := toHid hTv
     have HRK := toHid hr1
     clear hTu hr1 hA1 ht1 hg1 hB0 hB1
     obtain ⟨g2, cap2, w2, hr2, hA2, ht2, hg2'⟩ := bs_append (c9 := R2) (HVB.out _ hTv) hEv
     have hTw : Touch [] wr w2 := hTv.trans ht2 (fun y hy => Or.inr (by simp at hy; omega))
     have hsv := hTv.size
     have hK2 := hKv.touch ht2 (by simpa using hg2)
     obtain ⟨g3, cap3, w3, hr3, hD⟩ := DumpI.push HPL.out.1 HPL.out.2.1 HPL.out.2.2 hTw (by omega) (p := ⟨⟨g1, cap1, ks.bs⟩, ⟨g2, cap2, r.bytes⟩⟩) HKV.out.2.2.1 HKV.out.2.2.2 hK2 hA2 hk1 (by show wr.heap.size ≤ g2; omega)
     have HD := toHid hD
     have HT2 := toHid hTw
     have HR2 := toHid hr2
     simp only [KS.v] at hr3
     have HR3 := toHid hr3
     rw [HR1.out] at HR2 HR3
     clear hD hTw hr2 hr3 hA2 ht2 hg2' hsv hK2 hTv hEv hKv hk1 hg2
     refine wpAnyH_ready (rs := [3]) (by kernel_rfl) (by simp) ?_
     refine (AllReadyH.cons rfl (fun K hK => ?_) AllReadyH.nil)
     refine step_append_known rfl (.tmp 28) (.tmp 29) 39 39 rfl (.slice (some ⟨wr.heap.size + 1, 0, none⟩) 0 0) (.slice (some ⟨ks.b, 0, none⟩) ks.bs.length ks.cap) (by simp [Act.eval]) (by simp [Act.eval]) HRK.out ?_
     refine hK.out _ _ ?_ (fun hHeld => ?_)
     ·exact HSS.out _ HT1.out
     clear hK K
     try simp only [Act.put, AP]
     refine wpAnyH_ready (rs := [26]) (by kernel_rfl) (by simp) ?_
     refine (AllReadyH.cons rfl (fun K hK => ?_) AllReadyH.nil)
     refine step_append_known rfl (.tmp 31) (.tmp 52) 39 39 rfl (.slice (some ⟨wr.heap.size, 0, none⟩) 0 0) (.slice (some ⟨rb, 0, none⟩) R1 R2) (by simp [Act.eval]) (by simp [Act.eval]) HR2.out ?_
     refine hK.out _ _ ?_ (fun hHeld => ?_)
     ·exact HSS.out _ HT2.out
     clear hK K
     try simp only [Act.put, AP]
     refine tk 27 (v := ?_) rfl ?_ ?_
     rotate_left
     ·(intro w hSw; (try dsimp only at hSw); go_simp; try with_reducible rfl)
     simp only [Act.put, AP]
     refine wpAnyH_ready (rs := [28]) (by kernel_rfl) (by simp) ?_
     refine (AllReadyH.cons rfl (fun K hK => ?_) AllReadyH.nil)
     simp only [AP]
     go_simp
     refine hK.out _ _ ?_ (fun hHeld => ?_)
     ·exact HSS.out _ (HT2.out.alloc _)
     clear hK K
     try simp only [Act.put, AP]
     refine wpAnyH_ready (rs := [29]) (by kernel_rfl) (by simp) ?_
     refine (AllReadyH.cons rfl (fun K hK => ?_) AllReadyH.nil)
     refine step_append_known rfl (.tmp 27) (.tmp 55) 43 43 rfl (slV g l.length cap) (.slice (some ⟨w2.heap.size, 0, none⟩) 1 1) (by simp [Act.eval]) (by simp [Act.eval]) HR3.out ?_
     refine hK.out _ _ ?_ (fun hHeld => ?_)
     ·exact HSW.out _ (by obtain ⟨_, _, _, _, _, _, h9⟩ := HD.out; exact h9)
     clear hK K
     try simp only [Act.put, AP]
     refine tk 30 (v := ?_) rfl ?_ ?_
     rotate_left
     ·(intro w hSw; (try dsimp only at hSw); go_simp; try with_reducible rfl)
     simp only [Act.put, AP]
     refine wpAnyH_done (by kernel_rfl) ?_ _
     go_wp2
     exact ⟨⟨j + 1, by omega, by go_num, HD⟩, by simp [intOf]; omega⟩
  ·obtain rfl : j = n := by omega
   obtain ⟨g, cap, l, rfl, hPL, hbs, ht⟩ := HI.out
   have HF : Hid (PL w wr (slV g l.length cap) (dumpTo m.ix.p.slots m.ids s.all j) ∧ Touch [] w wr) := ⟨⟨g, cap, l, rfl, hPL, hbs⟩, ht⟩
   generalize slV g l.length cap = o at *
   clear hPL hbs ht HI
   go_wp2
   go_ret
   exact ⟨⟨_, rfl, HF.out.1⟩, HF.out.2⟩
end Go.Proofs.YtmhhahmjkopjhaaGreat
end
section
namespace Go.Proofs.YtmhhahmjkopjhaaGreat
open Go.RowKit
structure Duo (w0 w : World) (x : PT) (s : Mem.MS) (y : RT) (u : Mem.RS) (c : Int) : Prop where
 p : PBoth w x s
 r : RBoth w y u
 rel : Mem.Rel s.rs s.next u.all
 qs : x.qs = y.ps
 ds : x.ds.map MDef.four = y.maps.map (fun m => (m.kind, m.key, m.val, m.max))
 apart : ∀ b, b ∈ x.blocks ∨ b ∈ s.blocks → b ∉ y.blocks ∧ b ∉ u.blocks
 own : ∀ b, b ∈ x.blocks ∨ b ∈ s.blocks → w0.heap.size ≤ b
 own' : ∀ b, b ∈ y.blocks ∨ b ∈ u.blocks → w0.heap.size ≤ b
 touch : Touch [] w0 w
 clock : ∀ q ∈ y.ps, q.clock ≤ c
theorem Duo.still {w0 w w' : World} {x : PT} {s : Mem.MS} {y : RT} {u : Mem.RS} {c : Int} (h : Duo w0 w x s y u c) (ht : Touch [] w w') : Duo w0 w' x s y u c :=
 ⟨h.p.still ht, h.r.still ht, h.rel, h.qs, h.ds, h.apart, h.own, h.own', h.touch.trans ht (by simp), h.clock⟩
theorem Duo.maps {w0 w : World} {x : PT} {s : Mem.MS} {y : RT} {u : Mem.RS} {c : Int} (h : Duo w0 w x s y u c) {k : Nat} {m : PMap} (hm : x.maps[k]? = some m) : ∃ m', y.maps[k]? = some m' ∧ m.q = m'.ix.p ∧ m.d.key = m'.key ∧ m.d.val = m'.val := by
 have h1 := congrArg (fun l => l[k]?) h.qs
 have h2 := congrArg (fun l => l[k]?) h.ds
 unfold PT.qs RT.ps at h1
 unfold PT.ds at h2
 simp only [List.getElem?_map, hm, Option.map_some] at h1 h2
 cases hq : y.maps[k]? with
 | none => rw [hq] at h1; cases h1
 | some m' =>
  rw [hq] at h1 h2
  simp only [Option.map_some, Option.some.injEq] at h1 h2
  unfold MDef.four at h2
  simp only [Prod.mk.injEq] at h2
  exact ⟨m', rfl, h1, h2.2.1, h2.2.2.1⟩
theorem Duo.len {w0 w : World} {x : PT} {s : Mem.MS} {y : RT} {u : Mem.RS} {c : Int} (h : Duo w0 w x s y u c) : x.maps.length = y.maps.length := by
 have h1 := congrArg List.length h.qs
 unfold PT.qs RT.ps at h1
 rwa [List.length_map, List.length_map] at h1
theorem Duo.check {w0 w : World} {x : PT} {s : Mem.MS} {y : RT} {u : Mem.RS} {c : Int} (h : Duo w0 w x s y u c) (i : Int) (n : Nat) : chkP x.ds i n = checkI y i n := by
 unfold chkP checkI PT.ds
 rw [List.length_map, h.len]
 by_cases hi : 0 ≤ i ∧ i < y.maps.length
 ·rw [if_pos hi, if_pos hi, List.getElem?_map]
  obtain ⟨m, hm⟩ : ∃ m, x.maps[i.toNat]? = some m := ⟨_, List.getElem?_eq_getElem (by have := h.len; omega)⟩
  obtain ⟨m', hm', _, hk, _⟩ := h.maps hm
  rw [hm, hm']
  dsimp only [Option.map_some]
  rw [hk]
 ·rw [if_neg hi, if_neg hi]
theorem Duo.look {w0 w : World} {x : PT} {s : Mem.MS} {y : RT} {u : Mem.RS} {c : Int} (h : Duo w0 w x s y u c) (i : Int) (bs : List Int) : lookP x i bs = lookI y i bs := by
 unfold lookP lookI
 rw [h.check, h.qs] <;> rfl
theorem Duo.del {w0 w : World} {x : PT} {s : Mem.MS} {y : RT} {u : Mem.RS} {c : Int} (h : Duo w0 w x s y u c) (i : Int) (bs : List Int) : delP x i bs = delI y i bs := by
 unfold delP delI
 rw [h.check, h.qs] <;> rfl
theorem Duo.clocks {w0 w : World} {x : PT} {s : Mem.MS} {y : RT} {u : Mem.RS} {c : Int} (h : Duo w0 w x s y u c) (hc : c ≤ 1000000000) : ∀ m ∈ y.maps, m.ix.clock ≤ 1000000000 := fun m hm => by
 have h1 := h.clock m.ix.p (List.mem_map.2 ⟨m, hm, rfl⟩)
 have h2 : m.ix.p.clock = m.ix.clock := rfl
 omega
theorem Duo.place {w0 w : World} {x : PT} {s : Mem.MS} {y : RT} {u : Mem.RS} {c : Int} (h : Duo w0 w x s y u c) {k sl : Nat} {m : PMap} (hm : x.maps[k]? = some m) (hs : sl < m.q.slots.length) :
  ∃ m' id r rp, y.maps[k]? = some m' ∧ m'.ids[sl]? = some id ∧ u.all[id]? = some r ∧ r.live = true ∧ rp ∈ s.rs ∧ rp.id = (id : Int) ∧ Mem.Twin rp r ∧ rp.base = plI k sl ∧ (rp.bytes.length : Int) = m.d.val ∧ rp.perm = 3 := by
 obtain ⟨m', hm', hq, _, hv⟩ := h.maps hm
 have hok := h.r.tab.ok m' (List.mem_of_getElem? hm')
 have hsl : sl < m'.ids.length := by
  rw [hok.idn]
  rw [hq] at hs
  simpa [RX.p] using hs
 obtain ⟨id, hid⟩ : ∃ id, m'.ids[sl]? = some id := ⟨_, List.getElem?_eq_getElem hsl⟩
 obtain ⟨r, hr, hl, hb, hn, hp⟩ := h.r.ids k sl id m' hm' hid
 obtain ⟨rp, hrp, hri, ht⟩ := h.rel.back id r hr hl
 exact ⟨m', id, r, rp, hm', hid, hr, hl, hrp, hri, ht, by rw [← ht.base, hb]; rfl, by rw [← ht.bytes, hn, hv], by rw [← ht.perm, hp]⟩
theorem Duo.served {w0 w : World} {x : PT} {s : Mem.MS} {y : RT} {u : Mem.RS} {c : Int} (h : Duo w0 w x s y u c) {k : Nat} {m : PMap} (hm : x.maps[k]? = some m) : Served s.rs k m.d.val m.q.slots.length := fun sl hs => by
 obtain ⟨m', id, r, rp, _, _, _, _, h5, _, _, h8, h9, h10⟩ := h.place hm hs
 obtain ⟨e1, e2⟩ := MemAt.read_at h.p.mem h5 h10
 rw [h8, h9] at e1 e2
 rw [e1, e2]
 exact ⟨rfl, h9, (h.p.mem.ok rp h5).byte⟩
theorem Duo.bytes {w0 w : World} {x : PT} {s : Mem.MS} {y : RT} {u : Mem.RS} {c : Int} (h : Duo w0 w x s y u c) {k sl : Nat} {m : PMap} {m' : RMap} (hm : x.maps[k]? = some m) (hm' : y.maps[k]? = some m') (hs : sl < m.q.slots.length) :
  ∃ id r, m'.ids[sl]? = some id ∧ u.all[id]? = some r ∧ Mem.readE s.rs (plI k sl) m.d.val = 0 ∧ Mem.readV s.rs (plI k sl) m.d.val = r.bytes := by
 obtain ⟨m2, id, r, rp, h1, h2, h3, _, h5, _, h7, h8, h9, h10⟩ := h.place hm hs
 rw [hm'] at h1
 injection h1 with h1
 subst h1
 obtain ⟨e1, e2⟩ := MemAt.read_at h.p.mem h5 h10
 rw [h8, h9] at e1 e2
 exact ⟨id, r, h2, h3, e1, by rw [e2, h7.bytes]⟩
theorem filterMap_same {α β : Type} {f g : α → Option β} : ∀ {l : List α}, (∀ a ∈ l, f a = g a) → l.filterMap f = l.filterMap g
 | [], _ => rfl
 | a :: l, h => by
  rw [List.filterMap_cons, List.filterMap_cons, h a (by simp), filterMap_same (l := l) (fun b hb => h b (by simp [hb]))]
theorem Duo.dump {w0 w : World} {x : PT} {s : Mem.MS} {y : RT} {u : Mem.RS} {c : Int} (h : Duo w0 w x s y u c) {k : Nat} {m : PMap} {m' : RMap} (hm : x.maps[k]? = some m) (hm' : y.maps[k]? = some m') : m.dump k s.rs = m'.dump u.all := by
 obtain ⟨m2, h1, hq, _, _⟩ := h.maps hm
 rw [hm'] at h1
 injection h1 with h1
 subst h1
 unfold PMap.dump RMap.dump heldP dumpTo
 have hl : m'.ix.slots.length = m.q.slots.length := by rw [hq]; simp [RX.p]
 rw [hl, ← hq]
 refine filterMap_same fun j hj => ?_
 have hj := List.mem_range.1 hj
 obtain ⟨id, r, e1, e2, _, e4⟩ := h.bytes hm hm' hj
 cases m.q.slots.getD j none with
 | none => rfl
 | some b =>
  dsimp only
  unfold valOf
  rw [e1]
  dsimp only
  rw [e2, e4]
theorem clock_set {qs : List PX} {c : Int} (h : ∀ q ∈ qs, q.clock ≤ c) {i : Nat} {q q' : PX} (hq : qs[i]? = some q) (hk : PKept q q') : ∀ p ∈ qs.set i q', p.clock ≤ c + 1 := fun p hp => by
 rcases List.mem_or_eq_of_mem_set hp with hp | rfl
 ·have := h p hp
  omega
 ·have := h q (List.mem_of_getElem? hq)
  have := hk.clock1
  omega
theorem Duo.step {w0 w w2 w3 : World} {x x' : PT} {s : Mem.MS} {y y' : RT} {u : Mem.RS} {c : Int} {qs : List PX} (h : Duo w0 w x s y u c) (st : PStep w w2 x x' qs) (st' : TStep w2 w3 y y' qs) (hc : ∀ q ∈ qs, q.clock ≤ c + 1) : Duo w0 w3 x' s y' u (c + 1) := by
 have hp2 := h.p.step st
 have hyB : ∀ b ∈ y.blocks, b ∉ x.blocks := fun b hb hx => (h.apart b (Or.inl hx)).1 hb
 have huB : ∀ b ∈ u.blocks, b ∉ x.blocks := fun b hb hx => (h.apart b (Or.inl hx)).2 hb
 have hr2 : RBoth w2 y u := ⟨h.r.tab.touch st.touch hyB, h.r.mem.touch st.touch huB, h.r.at_, h.r.apart, h.r.ids⟩
 have hr3 := hr2.step st'
 have hyl := h.r.tab.lt
 have hul := h.r.mem.lt
 have hxl := hp2.tab.lt
 have hsl := hp2.mem.lt
 have hx' : ∀ b, b ∈ x'.blocks ∨ b ∈ s.blocks → (b ∈ x.blocks ∨ b ∈ s.blocks) ∨ w.heap.size ≤ b := fun b hb => by
  rcases hb with hb | hb
  ·rcases st.blocks b hb with h1 | h1
   ·exact Or.inl (Or.inl h1)
   ·exact Or.inr h1
  ·exact Or.inl (Or.inr hb)
 have hlt : ∀ b, b ∈ x'.blocks ∨ b ∈ s.blocks → b < w2.heap.size := fun b hb => by
  rcases hb with hb | hb
  ·exact hxl b hb
  ·exact hsl b hb
 have hap : ∀ b, b ∈ x'.blocks ∨ b ∈ s.blocks → b ∉ y.blocks ∧ b ∉ u.blocks := fun b hb => by
  rcases hx' b hb with h1 | h1
  ·exact h.apart b h1
  ·exact ⟨fun hx => by have := hyl b hx; omega, fun hx => by have := hul b hx; omega⟩
 have hs0 := h.touch.size
 have hs2 := st.touch.size
 refine ⟨⟨hp2.tab.touch st'.touch (fun b hb hx => (hap b (Or.inl hb)).1 hx), hp2.mem.touch st'.touch (fun b hb hx => (hap b (Or.inr hb)).1 hx), hp2.at_, hp2.apart⟩, hr3, h.rel, by rw [st.qs, st'.ps], by rw [st.ds, st'.keys, h.ds], fun b hb => ?_, fun b hb => ?_, fun b hb => ?_, ?_, by rw [st'.ps]; exact hc⟩
 ·refine ⟨fun hx => ?_, (hap b hb).2⟩
  rcases st'.blocks b hx with h1 | h1
  ·exact (hap b hb).1 h1
  ·have := hlt b hb; omega
 ·rcases hx' b hb with h1 | h1
  ·exact h.own b h1
  ·omega
 ·rcases hb with hb | hb
  ·rcases st'.blocks b hb with h1 | h1
   ·exact h.own' b (Or.inl h1)
   ·omega
  ·exact h.own' b (Or.inr hb)
 ·exact (h.touch.trans st.touch (fun b hb => Or.inr (h.own b (Or.inl hb)))).trans st'.touch (fun b hb => Or.inr (h.own' b (Or.inl hb)))
end Go.Proofs.YtmhhahmjkopjhaaGreat
end
section
namespace Go.Proofs.YtmhhahmjkopjhaaGreat.Mem
open Go.RowKit
structure Pair (w0 w : World) (s : MS) (t : RS) : Prop where
 mem : MemAt w s
 ref : RefAt w t
 apart : ∀ x ∈ s.blocks, x ∉ t.blocks
 own : ∀ x ∈ s.blocks, w0.heap.size ≤ x
 own' : ∀ x ∈ t.blocks, w0.heap.size ≤ x
 touch : Touch [] w0 w
theorem Pair.still {w0 w w' : World} {s : MS} {t : RS} (h : Pair w0 w s t) (ht : Touch [] w w') : Pair w0 w' s t :=
 ⟨h.mem.touch ht (by simp), h.ref.touch ht (by simp), h.apart, h.own, h.own', h.touch.trans ht (by simp)⟩
theorem Pair.goM {w0 w w' : World} {s s' : MS} {t : RS} (h : Pair w0 w s t) (hm : MemAt w' s') (ht : Touch s.blocks w w') (hb : ∀ x ∈ s'.blocks, x ∈ s.blocks ∨ w.heap.size ≤ x) : Pair w0 w' s' t where
 mem := hm
 ref := h.ref.touch ht (fun x hx hs => h.apart x hs hx)
 apart := fun x hx => by
  rcases hb x hx with hx | hx
  ·exact h.apart x hx
  ·intro hy
   have := h.ref.lt x hy
   omega
 own := fun x hx => by
  rcases hb x hx with hx | hx
  ·exact h.own x hx
  ·exact Nat.le_trans h.touch.size hx
 own' := h.own'
 touch := h.touch.trans ht (fun x hx => Or.inr (h.own x hx))
theorem Pair.goR {w0 w w' : World} {s : MS} {t t' : RS} (h : Pair w0 w s t) (hr : RefAt w' t') (ht : Touch t.blocks w w') (hb : ∀ x ∈ t'.blocks, x ∈ t.blocks ∨ w.heap.size ≤ x) : Pair w0 w' s t' where
 mem := h.mem.touch ht (fun x hx hs => h.apart x hx hs)
 ref := hr
 apart := fun x hx hy => by
  rcases hb x hy with hy | hy
  ·exact h.apart x hx hy
  ·have := h.mem.lt x hx
   omega
 own := h.own
 own' := fun x hx => by
  rcases hb x hx with hx | hx
  ·exact h.own' x hx
  ·exact Nat.le_trans h.touch.size hx
 touch := h.touch.trans ht (fun x hx => Or.inr (h.own' x hx))
def OnePost (w0 : World) (s : MS) (t : RS) (e : Ending) (w' : World) : Prop :=
 e = .returned (.bool true) ∧ ∃ s' t', Pair w0 w' s' t' ∧ Rel s'.rs s'.next t'.all ∧ s'.m = s.m ∧ t'.m = t.m ∧ t'.all.length ≤ t.all.length + 1
def opV (k0 a0 n0 m0 v0 : Int) (sa : Option Addr) (sl sc : Nat) : Value := .agg #[.int .i64 k0, .int .u64 a0, .int .i64 n0, .int .i64 m0, .int .u64 v0, .slice sa sl sc]
end Go.Proofs.YtmhhahmjkopjhaaGreat.Mem
end
section
namespace Go.Proofs.YtmhhahmjkopjhaaGreat
open Go.RowKit
theorem Duo.upd {w0 w w2 w3 : World} {x x' : PT} {s : Mem.MS} {y y' : RT} {u : Mem.RS} {c : Int} {qs : List PX} {rs : List Mem.Reg} {all : List Mem.RReg} (h : Duo w0 w x s y u c) (st : PUSt w w2 x x' s qs rs) (st' : USt w2 w3 y y' u qs all) (hr : Mem.Rel rs s.next all) (hc : ∀ q ∈ qs, q.clock ≤ c + 1) :
  Duo w0 w3 x' { s with rs := rs } y' { u with all := all } (c + 1) := by
 have hyl := h.r.tab.lt
 have hul := h.r.mem.lt
 have hxl := st.both.tab.lt
 have hsl := st.both.mem.lt
 have hx' : ∀ b, b ∈ x'.blocks ∨ b ∈ ({ s with rs := rs } : Mem.MS).blocks → (b ∈ x.blocks ∨ b ∈ s.blocks) ∨ w.heap.size ≤ b := fun b hb => by
  rcases hb with hb | hb
  ·rcases st.blocks b hb with h1 | h1
   ·exact Or.inl (Or.inl h1)
   ·exact Or.inr h1
  ·rw [st.sblk] at hb
   exact Or.inl (Or.inr hb)
 have hlt : ∀ b, b ∈ x'.blocks ∨ b ∈ ({ s with rs := rs } : Mem.MS).blocks → b < w2.heap.size := fun b hb => by
  rcases hb with hb | hb
  ·exact hxl b hb
  ·exact hsl b hb
 have hap : ∀ b, b ∈ x'.blocks ∨ b ∈ ({ s with rs := rs } : Mem.MS).blocks → b ∉ y.blocks ∧ b ∉ u.blocks := fun b hb => by
  rcases hx' b hb with h1 | h1
  ·exact h.apart b h1
  ·exact ⟨fun hx => by have := hyl b hx; omega, fun hx => by have := hul b hx; omega⟩
 have hs0 := h.touch.size
 have hs2 := st.touch.size
 have hnot : ∀ b, b ∈ x'.blocks ∨ b ∈ ({ s with rs := rs } : Mem.MS).blocks → b ∉ y.blocks ++ u.blocks := fun b hb hx => by
  rcases List.mem_append.1 hx with hx | hx
  ·exact (hap b hb).1 hx
  ·exact (hap b hb).2 hx
 refine ⟨⟨st.both.tab.touch st'.touch (fun b hb => hnot b (Or.inl hb)), st.both.mem.touch st'.touch (fun b hb => hnot b (Or.inr hb)), st.both.at_, st.both.apart⟩, st'.both, hr, by rw [st.qs, st'.ps], by rw [st.ds, st'.keys, h.ds], fun b hb => ?_, fun b hb => ?_, fun b hb => ?_, ?_, by rw [st'.ps]; exact hc⟩
 ·refine ⟨fun hx => ?_, fun hx => ?_⟩
  ·rcases st'.blocks b hx with h1 | h1
   ·exact (hap b hb).1 h1
   ·have := hlt b hb; omega
  ·rw [st'.sblk] at hx
   exact (hap b hb).2 hx
 ·rcases hx' b hb with h1 | h1
  ·exact h.own b h1
  ·omega
 ·rcases hb with hb | hb
  ·rcases st'.blocks b hb with h1 | h1
   ·exact h.own' b (Or.inl h1)
   ·omega
  ·rw [st'.sblk] at hb
   exact h.own' b (Or.inr hb)
 ·refine (h.touch.trans st.touch (fun b hb => Or.inr (h.own b ?_))).trans st'.touch (fun b hb => Or.inr (h.own' b ?_))
  ·rcases List.mem_append.1 hb with hb | hb
   ·exact Or.inl hb
   ·exact Or.inr hb
  ·rcases List.mem_append.1 hb with hb | hb
   ·exact Or.inl hb
   ·exact Or.inr hb
theorem Duo.perm {w0 w : World} {x : PT} {s : Mem.MS} {y : RT} {u : Mem.RS} {c : Int} (h : Duo w0 w x s y u c) : ∀ r ∈ s.rs, 0 ≤ r.perm ∧ r.perm ≤ 7 := fun r hr => ⟨(h.p.mem.ok r hr).perm0, (h.p.mem.ok r hr).perm1⟩
theorem le_up {qs : List PX} {c : Int} (h : ∀ q ∈ qs, q.clock ≤ c) : ∀ q ∈ qs, q.clock ≤ c + 1 := fun q hq => by have := h q hq; omega
theorem Duo.look_clock {w0 w : World} {x : PT} {s : Mem.MS} {y : RT} {u : Mem.RS} {c : Int} (h : Duo w0 w x s y u c) (i : Int) (bs : List Int) : ∀ q ∈ (lookP x i bs).2, q.clock ≤ c + 1 := by
 have hcl : ∀ q ∈ x.qs, q.clock ≤ c := by rw [h.qs]; exact h.clock
 unfold lookP
 split
 ·cases hq : x.qs[i.toNat]? with
  | none => exact le_up hcl
  | some q =>
   obtain ⟨m, hm, rfl⟩ : ∃ m, x.maps[i.toNat]? = some m ∧ m.q = q := by
    unfold PT.qs at hq
    rw [List.getElem?_map] at hq
    cases hm : x.maps[i.toNat]? with
    | none => rw [hm] at hq; cases hq
    | some m => rw [hm] at hq; exact ⟨m, rfl, by simpa using hq⟩
   exact clock_set hcl hq ((h.p.tab.maps m (List.mem_of_getElem? hm)).good.findA bs).2
 ·exact le_up hcl
theorem Duo.del_clock {w0 w : World} {x : PT} {s : Mem.MS} {y : RT} {u : Mem.RS} {c : Int} (h : Duo w0 w x s y u c) (i : Int) (bs : List Int) : ∀ q ∈ (delP x i bs).2, q.clock ≤ c + 1 := by
 have hcl : ∀ q ∈ x.qs, q.clock ≤ c := by rw [h.qs]; exact h.clock
 unfold delP
 split
 ·cases hq : x.qs[i.toNat]? with
  | none => exact le_up hcl
  | some q =>
   obtain ⟨m, hm, rfl⟩ : ∃ m, x.maps[i.toNat]? = some m ∧ m.q = q := by
    unfold PT.qs at hq
    rw [List.getElem?_map] at hq
    cases hm : x.maps[i.toNat]? with
    | none => rw [hm] at hq; cases hq
    | some m => rw [hm] at hq; exact ⟨m, rfl, by simpa using hq⟩
   exact clock_set hcl hq ((h.p.tab.maps m (List.mem_of_getElem? hm)).good.delA bs).2
 ·exact le_up hcl
theorem Duo.upd_eq {w0 w : World} {x : PT} {s : Mem.MS} {y : RT} {u : Mem.RS} {c : Int} (h : Duo w0 w x s y u c) (i : Int) (bs vs : List Int) (fl : Int) :
  updE s.rs vs (updP x i bs vs fl) = (updI y u.all i bs vs fl).1 ∧ (updP x i bs vs fl).2.1 = (updI y u.all i bs vs fl).2.1 ∧ Mem.Rel (updRs s.rs vs (updP x i bs vs fl)) s.next (updI y u.all i bs vs fl).2.2 ∧ ∀ q ∈ (updP x i bs vs fl).2.1, q.clock ≤ c + 1 := by
 have hcl : ∀ q ∈ x.qs, q.clock ≤ c := by rw [h.qs]; exact h.clock
 have hck := h.check i bs.length
 by_cases h0 : chkP x.ds i bs.length = 0
 ·obtain ⟨k, m, rfl, hm, _⟩ := chk_ok h0
  obtain ⟨m', hm', hq, _, hv⟩ := h.maps hm
  have e1 : updP x k bs vs fl = if (vs.length : Int) = m.d.val then
    (if (m.q.putA bs fl).1.2.2 = 0 then (0, x.qs.set k (m.q.putA bs fl).2, some (plI k (m.q.putA bs fl).1.1))
    else ((m.q.putA bs fl).1.2.2, x.qs.set k (m.q.putA bs fl).2, none))
   else (2, x.qs, none) := by
   unfold updP
   rw [if_pos h0, Int.toNat_natCast, hm]
  have e2 : updI y u.all k bs vs fl = if (vs.length : Int) = m'.val then
    (if (m'.ix.p.putA bs fl).1.2.2 = 0 then (0, y.ps.set k (m'.ix.p.putA bs fl).2, updAll m'.ids u.all (m'.ix.p.putA bs fl).1.1 vs)
    else ((m'.ix.p.putA bs fl).1.2.2, y.ps.set k (m'.ix.p.putA bs fl).2, u.all))
   else (2, y.ps, u.all) := by
   unfold updI
   rw [if_pos (by rw [← hck]; exact h0), Int.toNat_natCast, hm']
  have hqk : x.qs[k]? = some m.q := by unfold PT.qs; rw [List.getElem?_map, hm]; rfl
  have hgood := (h.p.tab.maps m (List.mem_of_getElem? hm)).good
  have hcl2 := clock_set hcl hqk (hgood.putA bs fl).2
  rw [e1, e2, ← hv, ← hq, ← h.qs]
  by_cases hvv : (vs.length : Int) = m.d.val
  ·rw [if_pos hvv, if_pos hvv]
   by_cases he : (m.q.putA bs fl).1.2.2 = 0
   ·rw [if_pos he, if_pos he]
    obtain ⟨sN, hs1, hs2⟩ := pput_slot hgood he
    obtain ⟨m2, id, r, rp, p1, p2, p3, p4, p5, p6, p7, p8, p9, p10⟩ := h.place hm hs2
    rw [hm'] at p1
    injection p1 with p1
    subst p1
    obtain ⟨q1, q2⟩ := MemAt.write_at h.p.mem p5 p10 (vs := vs) (by omega)
    rw [hs1]
    refine ⟨?_, rfl, ?_, hcl2⟩
    ·show Mem.writeE s.rs (plI k sN) vs = 0
     rw [← p8]
     exact q1
    ·show Mem.Rel (Mem.writeRs s.rs (plI k sN) vs) s.next (updAll m'.ids u.all (sN : Int) vs)
     rw [← p8, q2, p6]
     unfold updAll
     rw [Int.toNat_natCast, p2]
     dsimp only
     rw [p3]
     exact h.rel.lay p3 p4 (by rw [p7.bytes]; omega)
   ·rw [if_neg he, if_neg he]
    exact ⟨rfl, rfl, h.rel, hcl2⟩
  ·rw [if_neg hvv, if_neg hvv]
   exact ⟨rfl, rfl, h.rel, le_up hcl⟩
 ·have e1 : updP x i bs vs fl = (chkP x.ds i bs.length, x.qs, none) := if_neg h0
  have e2 : updI y u.all i bs vs fl = (checkI y i bs.length, y.ps, u.all) := if_neg (by rw [← hck]; exact h0)
  rw [e1, e2, ← hck, ← h.qs]
  exact ⟨rfl, rfl, h.rel, le_up hcl⟩
theorem Duo.get_eq {w0 w : World} {x : PT} {s : Mem.MS} {y : RT} {u : Mem.RS} {c : Int} (h : Duo w0 w x s y u c) (i : Int) (bs : List Int) :
  (getP x s.rs i bs).1.2 = (getI y u.all i bs).1.2 ∧ (getP x s.rs i bs).2 = (getI y u.all i bs).2 ∧ (getP x s.rs i bs).2 = (lookP x i bs).2 ∧
   ((getP x s.rs i bs).1.1 = [] ∧ (getI y u.all i bs).1.1 = none ∨ ∃ (id : Nat) (r : Mem.RReg), u.all[id]? = some r ∧ (getI y u.all i bs).1.1 = some r ∧ (getP x s.rs i bs).1.1 = r.bytes) := by
 have hck := h.check i bs.length
 by_cases h0 : chkP x.ds i bs.length = 0
 ·obtain ⟨k, m, rfl, hm, _⟩ := chk_ok h0
  obtain ⟨m', hm', hq, _, hv⟩ := h.maps hm
  have hqk : x.qs[k]? = some m.q := by unfold PT.qs; rw [List.getElem?_map, hm]; rfl
  have e1 : getP x s.rs k bs = ((match (m.q.findA bs).1 with
   | some sl => (Mem.readV s.rs (plI k (sl : Int)) m.d.val, Mem.readE s.rs (plI k (sl : Int)) m.d.val)
   | none => ([], 14)), x.qs.set k (m.q.findA bs).2) := by
   unfold getP
   rw [if_pos h0, Int.toNat_natCast, hm] <;> rfl
  have e2 : getI y u.all k bs = (getR m'.ids u.all (m'.ix.p.findA bs).1, y.ps.set k (m'.ix.p.findA bs).2) := by
   unfold getI
   rw [if_pos (by rw [← hck]; exact h0), Int.toNat_natCast, hm']
  have e3 : (lookP x k bs).2 = x.qs.set k (m.q.findA bs).2 := by
   unfold lookP
   rw [if_pos h0, Int.toNat_natCast, hqk]
  rw [e1, e2, e3, ← hq, ← h.qs]
  cases hf : (m.q.findA bs).1 with
  | none =>
   unfold getR
   exact ⟨rfl, rfl, rfl, Or.inl ⟨rfl, rfl⟩⟩
  | some sl =>
   obtain ⟨id, r, p1, p2, p3, p4⟩ := h.bytes hm hm' (pfind_lt hf)
   unfold getR
   dsimp only
   rw [p1]
   dsimp only
   rw [p2, p3, p4]
   exact ⟨rfl, rfl, rfl, Or.inr ⟨id, r, p2, rfl, rfl⟩⟩
 ·have e1 : getP x s.rs i bs = (([], chkP x.ds i bs.length), x.qs) := if_neg h0
  have e2 : getI y u.all i bs = ((none, checkI y i bs.length), y.ps) := if_neg (by rw [← hck]; exact h0)
  have e3 : (lookP x i bs).2 = x.qs := by unfold lookP; rw [if_neg h0]
  rw [e1, e2, e3, ← hck, ← h.qs]
  exact ⟨rfl, rfl, rfl, Or.inl ⟨rfl, rfl⟩⟩
theorem rwrite_keeps {all : List Mem.RReg} {addr : Int} {bs : List Int} (_ha : 0 ≤ addr) {id : Nat} {r : Mem.RReg} (hr : all[id]? = some r) : ∃ r', (Mem.rwriteAll all addr bs)[id]? = some r' ∧ r'.live = r.live ∧ r'.base = r.base ∧ r'.bytes.length = r.bytes.length ∧ r'.perm = r.perm := by
 unfold Mem.rwriteAll
 split
 ·exact ⟨r, hr, rfl, rfl, rfl, rfl⟩
 ·cases hc : Mem.accI all addr bs.length Mem.canW with
  | none => exact ⟨r, hr, rfl, rfl, rfl, rfl⟩
  | some i =>
   dsimp only
   by_cases e : i = id
   ·subst e
    have hlt := (List.getElem?_eq_some_iff.1 hr).1
    rw [List.getElem?_set_self hlt]
    have hd : all.getD i Mem.RReg.zero = r := by rw [List.getD_eq_getElem?_getD, hr]; rfl
    rw [hd]
    refine ⟨_, rfl, rfl, rfl, ?_, rfl⟩
    unfold Mem.accI at hc
    cases hf : all.findIdx? (Mem.rhasB · addr) with
    | none => rw [hf] at hc; cases hc
    | some j =>
     rw [hf] at hc
     dsimp only at hc
     split at hc
     ·rename_i hcc
      injection hc with hc
      subst hc
      rw [hd] at hcc
      rw [List.findIdx?_eq_some_iff_getElem] at hf
      obtain ⟨hj, hb, _⟩ := hf
      rw [List.getElem?_eq_getElem hj] at hr
      injection hr with hr
      rw [hr] at hb
      unfold Mem.rhasB at hb
      rw [Bool.and_eq_true, decide_eq_true_eq] at hb
      exact Mem.laidTo_len _ _ _ _ (Nat.le_refl _) (by omega)
     ·cases hc
   ·rw [List.getElem?_set_ne e]
    exact ⟨r, hr, rfl, rfl, rfl, rfl⟩
theorem rstore_keeps {all : List Mem.RReg} {addr n v : Int} (ha : 0 ≤ addr) {id : Nat} {r : Mem.RReg} (hr : all[id]? = some r) : ∃ r', (Mem.rstoreAll all addr n v)[id]? = some r' ∧ r'.live = r.live ∧ r'.base = r.base ∧ r'.bytes.length = r.bytes.length ∧ r'.perm = r.perm := by
 unfold Mem.rstoreAll
 split
 ·exact rwrite_keeps ha hr
 ·exact ⟨r, hr, rfl, rfl, rfl, rfl⟩
theorem RBoth.store {w w2 : World} {y : RT} {u : Mem.RS} (h : RBoth w y u) {addr n v : Int} (ha : 0 ≤ addr) (st : Mem.RefStep w u (Mem.rstoreAll u.all addr n v) w2) : USt w w2 y y u y.ps (Mem.rstoreAll u.all addr n v) := by
 obtain ⟨hA, hb, ht⟩ := st
 refine ⟨⟨h.tab.touch ht (fun b hx hy => h.apart b hx hy), hA, h.at_, fun b hx => by rw [hb]; exact h.apart b hx, fun i j id m hm hj => ?_⟩, rfl, rfl, rfl, rfl, hb, ht.mono (fun b hx => Or.inl (List.mem_append_right _ hx)), fun b hx => Or.inl hx⟩
 obtain ⟨r, q1, q2, q3, q4, q5⟩ := h.ids i j id m hm hj
 obtain ⟨r', p1, p2, p3, p4, p5⟩ := rstore_keeps (n := n) (v := v) ha q1
 exact ⟨r', p1, by rw [p2, q2], by rw [p3, q3], by rw [p4]; exact q4, by rw [p5, q5]⟩
theorem PBoth.store {w w2 : World} {x : PT} {s : Mem.MS} (h : PBoth w x s) {addr n v : Int} (hm : Mem.MemAt w2 { s with rs := Mem.storeRs s.rs addr n v }) (hb : ({ s with rs := Mem.storeRs s.rs addr n v } : Mem.MS).blocks = s.blocks) (ht : Touch s.blocks w w2) : PUSt w w2 x x s x.qs (Mem.storeRs s.rs addr n v) :=
 ⟨h.over hm rfl (fun _b hx => Or.inl (hb ▸ hx)) ht, rfl, rfl, rfl, hb, ht.mono (fun _b hx => Or.inl (List.mem_append_right _ hx)), fun _b hx => Or.inl hx⟩
end Go.Proofs.YtmhhahmjkopjhaaGreat
end
section
namespace Go.Proofs.YtmhhahmjkopjhaaGreat.Mem
open Go.RowKit
end Go.Proofs.YtmhhahmjkopjhaaGreat.Mem
end
section
namespace Go.Proofs.YtmhhahmjkopjhaaGreat.Mem
open Go.RowKit
def MS.new (m : Nat) : MS := ⟨m, none, 0, [], 0⟩
theorem memAt_new (w : World) : MemAt (w.alloc (.cells #[.slice none 0 0, .int .i64 0] 79)) (MS.new w.heap.size) where
 self := Blk.newA w #[.slice none 0 0, .int .i64 0] _ 79 rfl
 row := ⟨rfl, by simp [MS.new], by simp [MS.new], rfl⟩
 regs := fun r hr => by cases hr
 ok := fun r hr => by cases hr
 apart := by simp [MS.blocks, MS.new]
 sorted := List.Pairwise.nil
 ids := List.Pairwise.nil
 idlt := fun r hr => by cases hr
 many := by simp [MS.new]
theorem newM_any (w : World) : Calls Tryz.prog 26 #[] w fun e w' => e = .returned (.pointer (some ⟨w.heap.size, 0, none⟩)) ∧ MemAt w' (MS.new w.heap.size) ∧ Touch [] w w' :=
 (new_any w).mono (fun e w' ⟨h1, h2⟩ => ⟨h1, by rw [h2]; exact memAt_new w, by rw [h2]; exact (Touch.refl _ w).alloc _⟩)
end Go.Proofs.YtmhhahmjkopjhaaGreat.Mem
end
section
namespace Go.Proofs.YtmhhahmjkopjhaaGreat
open Go.RowKit
theorem pair_new {w0 w : World} (m : Nat) (hM : Mem.MemAt w (Mem.MS.new m)) (ht : Touch [] w0 w) (hm : w0.heap.size ≤ m) : Mem.Pair w0 (w.alloc (.cells #[.slice none 0 0] 69)) (Mem.MS.new m) ⟨w.heap.size, none, 0, []⟩ where
 mem := hM.touch ((Touch.refl [] w).alloc _) (by simp)
 ref :=
  {self := Blk.newA w #[.slice none 0 0] _ 69 rfl
   row := ⟨rfl, Nat.le_refl _, Nat.zero_le _, rfl⟩
   regs := fun r hr => by cases hr
   ok := fun r hr => by cases hr
   apart := by simp [Mem.RS.blocks]
   many := by simp }
 apart := fun x hx hy => by
  have := hM.lt x hx
  simp [Mem.RS.blocks] at hy
  omega
 own := fun x hx => by
  simp [Mem.MS.blocks, Mem.MS.new] at hx
  omega
 own' := fun x hx => by
  simp [Mem.RS.blocks] at hx
  have := ht.size
  omega
 touch := ht.alloc _
def BothPost (w0 : World) (ds : List MDef) (e : Ending) (w' : World) : Prop :=
 (∃ s u why, why ≠ 0 ∧ e = .returned (.tuple #[.pointer none, .pointer (some ⟨s.m, 0, none⟩), .int .i64 why, .pointer none, .pointer (some ⟨u.m, 0, none⟩), .int .i64 why]) ∧ Mem.Pair w0 w' s u ∧ Mem.Rel s.rs s.next u.all) ∨
 (∃ x s y u, e = .returned (.tuple #[.pointer (some ⟨x.t, 0, none⟩), .pointer (some ⟨s.m, 0, none⟩), .int .i64 0, .pointer (some ⟨y.t, 0, none⟩), .pointer (some ⟨u.m, 0, none⟩), .int .i64 0]) ∧ Duo w0 w' x s y u 0 ∧ x.ds = ds ∧ ds.length ≤ 8 ∧ s.next ≤ 600)
theorem may_facts {ds : List MDef} (h : mayI ds = true) : ds.length ≤ 8 ∧ (∀ d ∈ ds, d.Ok) ∧ ∀ d ∈ ds, 1 ≤ d.max ∧ d.max ≤ 64 ∧ 1 ≤ d.val := by
 unfold mayI at h
 rw [decide_eq_true_iff] at h
 exact ⟨h.1, h.2, fun d hd => by have h9 := h.2 d hd; exact ⟨h9.2.2.2.2.1, h9.2.2.2.2.2.1, h9.2.2.1⟩⟩
theorem room_same {ds : List MDef} {rs : List Mem.Reg} {next : Nat} {all : List Mem.RReg} (hr : Mem.Rel rs next all) (hl : rs.length ≤ 1) (hm : mayI ds = true) : roomOk ds rs ↔ FreeR ds all ds.length := by
 obtain ⟨h1, _, h3⟩ := may_facts hm
 have hb := maxSum_bd ds (fun d hd => by have := h3 d hd; omega)
 constructor
 ·intro h i d hi hd s hs
  rw [hr.busy]
  exact h.1 i d hi hd s hs
 ·intro h
  refine ⟨fun i d hi hd s hs => ?_, by omega⟩
  rw [← hr.busy]
  exact h i d hi hd s hs
theorem duo_new {w0 w w3 w4 : World} {s s' : Mem.MS} {u u' : Mem.RS} {x : PT} {y : RT} {ds : List MDef} (hP : Mem.Pair w0 w s u) (hr : Mem.Rel s.rs s.next u.all) (h1 : PNewAt w w3 x s s' ds) (h2 : RNewAt2 w3 w4 y u u' ds) : Duo w0 w4 x s' y u' 0 := by
 have hsz := h1.touch.size
 have hsz0 := hP.touch.size
 have hul := hP.ref.lt
 have hxl := h1.both.tab.lt
 have hsl := h1.both.mem.lt
 have hn : ∀ b, b ∈ x.blocks ∨ b ∈ s'.blocks → b ∉ u.blocks := fun b hb hx => by
  have h9 := hul b hx
  rcases hb with hb | hb
  ·have := h1.own b hb; omega
  ·rcases h1.mown b hb with h8 | h8
   ·exact hP.apart b h8 hx
   ·omega
 have hlt : ∀ b, b ∈ x.blocks ∨ b ∈ s'.blocks → b < w3.heap.size := fun b hb => by
  rcases hb with hb | hb
  ·exact hxl b hb
  ·exact hsl b hb
 refine ⟨⟨h1.both.tab.touch h2.touch (fun b hb => hn b (Or.inl hb)), h1.both.mem.touch h2.touch (fun b hb => hn b (Or.inr hb)), h1.both.at_, h1.both.apart⟩, h2.both, Rel.adds h1.adds h2.adds hr, by rw [h1.qs, h2.ps], by rw [h1.ds, h2.keys], fun b hb => ⟨fun hx => ?_, fun hx => ?_⟩, fun b hb => ?_, fun b hb => ?_, ?_, fun q hq => ?_⟩
 ·have h9 := h2.own b hx
  have := hlt b hb
  omega
 ·rcases h2.mown b hx with h9 | h9
  ·exact hn b hb h9
  ·have := hlt b hb
   omega
 ·rcases hb with hb | hb
  ·have := h1.own b hb; omega
  ·rcases h1.mown b hb with h8 | h8
   ·exact hP.own b h8
   ·omega
 ·rcases hb with hb | hb
  ·have := h2.own b hb; omega
  ·rcases h2.mown b hb with h8 | h8
   ·exact hP.own' b h8
   ·omega
 ·exact (hP.touch.trans h1.touch (fun b hb => Or.inr (hP.own b hb))).trans h2.touch (fun b hb => Or.inr (hP.own' b hb))
 ·rw [h2.ps] at hq
  obtain ⟨d, _, rfl⟩ := List.mem_map.1 hq
  exact Int.le_refl 0
theorem add_both {w0 w1 w2 w3 : World} {m rm : Nat} {s2 : Mem.MS} {t3 : Mem.RS} {tk : Int} (hP : Mem.Pair w0 w2 s2 ⟨rm, none, 0, []⟩) (hs : Mem.Own w1 (Mem.MS.new m) s2)
  (hbad : Mem.addE (Mem.MS.new m).rs tk 8 3 ≠ 0 → s2 = Mem.MS.new m) (hgood : Mem.addE (Mem.MS.new m).rs tk 8 3 = 0 → s2.next = (Mem.MS.new m).next + 1 ∧ ∃ i r, i ≤ (Mem.MS.new m).rs.length ∧ s2.rs = (Mem.MS.new m).rs.take i ++ r :: (Mem.MS.new m).rs.drop i ∧ Mem.NewReg r (Mem.MS.new m).next tk 8 3)
  (hR3 : Mem.RefAt w3 t3) (ht3 : Touch (⟨rm, none, 0, []⟩ : Mem.RS).blocks w2 w3) (hm3 : t3.m = rm) (hb3 : ∀ x ∈ t3.blocks, x ∈ (⟨rm, none, 0, []⟩ : Mem.RS).blocks ∨ w2.heap.size ≤ x) (hbad3 : Mem.raddE [] tk 8 3 ≠ 0 → t3.all = [])
  (hgood3 : Mem.raddE [] tk 8 3 = 0 → ∃ r, t3.all = [] ++ [r] ∧ r.live = true ∧ r.base = tk ∧ r.perm = 3 ∧ r.bytes = List.replicate (8 : Int).toNat 0 ∧ r.set = List.replicate (8 : Int).toNat (decide ((3 : Int) < 4))) :
  Mem.Pair w0 w3 s2 t3 ∧ Mem.Rel s2.rs s2.next t3.all ∧ s2.rs.length ≤ 1 ∧ s2.next ≤ 1 ∧ t3.all.length ≤ 1 ∧ s2.m = m ∧ t3.m = rm := by
 have hE := Mem.Rel.empty.addE (by simp) tk 8 3
 refine ⟨hP.goR hR3 ht3 hb3, ?_, ?_, ?_, ?_, hs.1, hm3⟩
 ·by_cases h0 : Mem.addE (Mem.MS.new m).rs tk 8 3 = 0
  ·obtain ⟨hn, i, r, _, hrs, hnew⟩ := hgood h0
   obtain ⟨x, hx, hl, hxb, hxp, hxby, hxs⟩ := hgood3 (hE.trans h0)
   rw [hn, hrs, hx]
   exact Mem.Rel.empty.add hnew.hid (Mem.Twin.new hnew (hP.mem.ok r (by rw [hrs]; simp)) hl hxb hxp hxby hxs)
  ·rw [hbad h0, hbad3 (by rw [hE]; exact h0)]
   exact Mem.Rel.empty
 ·by_cases h0 : Mem.addE (Mem.MS.new m).rs tk 8 3 = 0
  ·obtain ⟨hn, i, r, _, hrs, hnew⟩ := hgood h0
   rw [hrs]
   simp [Mem.MS.new]
  ·rw [hbad h0]
   simp [Mem.MS.new]
 ·by_cases h0 : Mem.addE (Mem.MS.new m).rs tk 8 3 = 0
  ·rw [(hgood h0).1]
   exact Nat.le_refl _
  ·rw [hbad h0]
   exact Nat.zero_le _
 ·by_cases h0 : Mem.addE (Mem.MS.new m).rs tk 8 3 = 0
  ·obtain ⟨x, hx, _⟩ := hgood3 (hE.trans h0)
   rw [hx]
   exact Nat.le_refl _
  ·rw [hbad3 (by rw [hE]; exact h0)]
   exact Nat.zero_le _
theorem DefsAt.old {w : World} {sa : Option Addr} {n : Nat} {ds : List MDef} (h : DefsAt w sa n ds) {b off : Nat} (e : sa = some ⟨b, off, none⟩) (h1 : 1 ≤ n) : b < w.heap.size := by
 obtain ⟨b', off', e', hc⟩ := h.at_ h1
 rw [e] at e'
 injection e' with e'
 injection e' with e1
 have e1 : b = b' := e1
 rw [e1]
 have hl := h.len
 exact World.block_lt_of_cell? _ _ (hc 0 ds[0] (List.getElem?_eq_getElem (by omega)) 0 _ rfl)
theorem both_any {w : World} {sa : Option Addr} {n sc : Nat} {ds : List MDef} (hd : DefsAt w sa n ds) (tk : Int) (t0 : 0 ≤ tk) (t1 : tk ≤ 18446744073709551615) :
  Calls Tryz.prog 8 #[.slice sa n sc, .int .u64 tk] w (BothPost w ds) := by
 have HD := toHid hd
 clear hd
 go_enter Tryz.func8, Tryz.ntmps8
 go_wp2_with fail
 refine (Mem.newM_any _).mono ?_
 rintro e w2 ⟨rfl, hm, ht⟩
 have HP := toHid (pair_new w.heap.size hm ht (Nat.le_refl _))
 have H1 := toHid (Mem.add_any HP.out.mem tk 8 3 t0 t1 (by show 0 < 4611686018427387904; omega))
 clear hm ht
 go_wp2_with fail
 refine H1.out.mono ?_
 rintro e w3 ⟨rfl, ht3, s2, hM2, hO2, hbad, hgood⟩
 have hP3 := HP.out.goM hM2 ht3 hO2.2
 have H2 := toHid (Mem.radd_any hP3.ref tk 8 3 t0 t1 (by show 0 < 1000; omega))
 have HY := toHid (And.intro hP3 (And.intro hO2 (And.intro hbad hgood)))
 generalize (if Mem.addE (Mem.MS.new w.heap.size).rs tk 8 3 = 0 then ((Mem.MS.new w.heap.size).next : Int) else 0) = q1
 generalize Mem.addE (Mem.MS.new w.heap.size).rs tk 8 3 = q2
 clear hP3 hM2 ht3 hO2 hbad hgood H1 HP
 go_wp2_with fail
 refine H2.out.mono ?_
 rintro e w4 ⟨rfl, ht4, t3, hR3, hm3, hb3, hbad3, hgood3⟩
 have HQ := toHid (add_both HY.out.1 HY.out.2.1 HY.out.2.2.1 HY.out.2.2.2 hR3 ht4 hm3 hb3 hbad3 hgood3)
 clear hR3 ht4 hm3 hb3 hbad3 hgood3 HY H2
 generalize (if Mem.raddE ({ m := w2.heap.size, g := none, cap := 0, all := [] } : Mem.RS).all tk 8 3 = 0 then ((({ m := w2.heap.size, g := none, cap := 0, all := [] } : Mem.RS).all.length : Nat) : Int) else 0) = q3
 generalize Mem.raddE ({ m := w2.heap.size, g := none, cap := 0, all := [] } : Mem.RS).all tk 8 3 = q4
 have hs2 := HQ.out.2.2.2.2.2.1
 have hu3 := HQ.out.2.2.2.2.2.2
 have hd4 := HD.out.touch HQ.out.1.touch
 have H1 := toHid (pnew_any HQ.out.1.mem (by have := HQ.out.2.2.2.1; omega) (sc := sc) hd4)
 rw [hs2] at H1
 have HRS := toHid (room_same (ds := ds) HQ.out.2.1 HQ.out.2.2.1)
 clear hs2 hd4
 go_wp2_with fail
 refine H1.out.mono ?_
 rintro e w5 hp
 have HPP := toHid hp
 clear hp H1
 rcases HPP.out with ⟨hno, rfl, ht5⟩ | ⟨hyes, hno, rfl, ht5⟩ | ⟨hyes, hroom, x, s', rfl, hN⟩
 ·have hP5 := HQ.out.1.still ht5
  have H2 := toHid (rtnew_any hP5.ref (by have := HQ.out.2.2.2.2.1; omega) (sc := sc) (HD.out.touch hP5.touch) (fun b off e h1 hx => by
   have := HD.out.old e h1
   have := HQ.out.1.own' b hx
   omega))
  rw [hu3] at H2
  have HF := toHid hP5
  clear hP5 ht5 HPP
  go_wp2_with fail
  refine H2.out.mono ?_
  rintro e w6 hp
  obtain ⟨rfl, ht6⟩ : e = .returned (.tuple #[.pointer none, .int .i64 2]) ∧ Touch [] w5 w6 := by
   rcases hp with ⟨_, h1, h2⟩ | ⟨h1, _⟩ | ⟨h1, _⟩
   ·exact ⟨h1, h2⟩
   ·rw [hno] at h1; cases h1
   ·rw [hno] at h1; cases h1
  have HG : Hid (BothPost w ds (.returned (.tuple #[.pointer none, .pointer (some ⟨w.heap.size, 0, none⟩), .int .i64 2, .pointer none, .pointer (some ⟨w2.heap.size, 0, none⟩), .int .i64 2])) w6) := Or.inl ⟨s2, t3, 2, by decide, by rw [HQ.out.2.2.2.2.2.1, hu3], HF.out.still ht6, HQ.out.2.1⟩
  clear ht6 hp H2
  go_wp2
  exact bodyPost_ret (by simp [results, Tryz.results8, go_sem]; try rfl) rfl HG.out
 ·have hP5 := HQ.out.1.still ht5
  have H2 := toHid (rtnew_any hP5.ref (by have := HQ.out.2.2.2.2.1; omega) (sc := sc) (HD.out.touch hP5.touch) (fun b off e h1 hx => by
   have := HD.out.old e h1
   have := HQ.out.1.own' b hx
   omega))
  rw [hu3] at H2
  have HF := toHid hP5
  have HNO := toHid (And.intro hyes hno)
  clear hP5 ht5 HPP hno hyes
  go_wp2_with fail
  refine H2.out.mono ?_
  rintro e w6 hp
  obtain ⟨rfl, ht6⟩ : e = .returned (.tuple #[.pointer none, .int .i64 12]) ∧ Touch [] w5 w6 := by
   rcases hp with ⟨h1, _⟩ | ⟨_, _, h1, h2⟩ | ⟨_, h1, _⟩
   ·rw [HNO.out.1] at h1; cases h1
   ·exact ⟨h1, h2⟩
   ·exact absurd ((HRS.out HNO.out.1).2 h1) HNO.out.2
  have HG : Hid (BothPost w ds (.returned (.tuple #[.pointer none, .pointer (some ⟨w.heap.size, 0, none⟩), .int .i64 12, .pointer none, .pointer (some ⟨w2.heap.size, 0, none⟩), .int .i64 12])) w6) := Or.inl ⟨s2, t3, 12, by decide, by rw [HQ.out.2.2.2.2.2.1, hu3], HF.out.still ht6, HQ.out.2.1⟩
  clear ht6 hp H2
  go_wp2
  exact bodyPost_ret (by simp [results, Tryz.results8, go_sem]; try rfl) rfl HG.out
 ·have hR5 : Mem.RefAt w5 t3 := HQ.out.1.ref.touch hN.touch (fun b hb hx => HQ.out.1.apart b hx hb)
  have hT5 : Touch [] w w5 := HQ.out.1.touch.trans hN.touch (fun b hb => Or.inr (HQ.out.1.own b hb))
  have H2 := toHid (rtnew_any hR5 (by have := HQ.out.2.2.2.2.1; omega) (sc := sc) (HD.out.touch hT5) (fun b off e h1 hx => by
   have := HD.out.old e h1
   have := HQ.out.1.own' b hx
   omega))
  rw [hu3] at H2
  have HF := toHid (And.intro hyes (And.intro hroom hN))
  clear hR5 hT5 HPP hyes hroom hN
  go_wp2_with fail
  refine H2.out.mono ?_
  rintro e w6 hp
  obtain ⟨y, u', rfl, hN2⟩ : ∃ y u', e = .returned (.tuple #[.pointer (some ⟨y.t, 0, none⟩), .int .i64 0]) ∧ RNewAt2 w5 w6 y t3 u' ds := by
   rcases hp with ⟨h1, _⟩ | ⟨_, h1, _⟩ | ⟨_, _, y, u', h1, h2⟩
   ·rw [HF.out.1] at h1; cases h1
   ·exact absurd ((HRS.out HF.out.1).1 HF.out.2.1) h1
   ·exact ⟨y, u', h1, h2⟩
  have HG : Hid (BothPost w ds (.returned (.tuple #[.pointer (some ⟨x.t, 0, none⟩), .pointer (some ⟨w.heap.size, 0, none⟩), .int .i64 0, .pointer (some ⟨y.t, 0, none⟩), .pointer (some ⟨w2.heap.size, 0, none⟩), .int .i64 0])) w6) := Or.inr ⟨x, s', y, u', by rw [HF.out.2.2.m, HQ.out.2.2.2.2.2.1, hN2.m, hu3], duo_new HQ.out.1 HQ.out.2.1 HF.out.2.2 hN2, HF.out.2.2.ds, (may_facts HF.out.1).1, by
   have h1 := HF.out.2.2.adds.facts.2.1
   have h2 := may_facts HF.out.1
   have h3 := plcs_len (ds := ds) (k := ds.length) (Nat.le_refl _) (fun d hd => by have := h2.2.2 d hd; omega)
   rw [List.take_length] at h3
   have h4 := maxSum_bd ds (fun d hd => by have := h2.2.2 d hd; omega)
   have h5 := HQ.out.2.2.2.1
   dsimp only at h1
   omega⟩
  clear hN2 hp H2 HF
  go_wp2
  exact bodyPost_ret (by simp [results, Tryz.results8, go_sem]; try rfl) rfl HG.out
end Go.Proofs.YtmhhahmjkopjhaaGreat
end
section
namespace Go.Proofs.YtmhhahmjkopjhaaGreat
open Go.RowKit
structure OpT where
 k : Int
 mp : Int
 ka : Option Addr
 kl : Nat
 kc : Nat
 kb : List Int
 va : Option Addr
 vl : Nat
 vc : Nat
 vb : List Int
 fl : Int
structure OpT.Ok (w : World) (o : OpT) : Prop where
 k0 : -9223372036854775808 ≤ o.k
 k1 : o.k ≤ 9223372036854775807
 m0 : -9223372036854775808 ≤ o.mp
 m1 : o.mp ≤ 9223372036854775807
 f0 : 0 ≤ o.fl
 f1 : o.fl ≤ 18446744073709551615
 key : KeyAt w o.ka o.kl o.kb
 val : KeyAt w o.va o.vl o.vb
 kcap : o.kl ≤ o.kc
def OpT.cells (o : OpT) : List Value := [.int .i64 o.k, .int .i64 o.mp, .slice o.ka o.kl o.kc, .slice o.va o.vl o.vc, .int .u64 o.fl]
def opT (o : OpT) : Value := .agg #[.int .i64 o.k, .int .i64 o.mp, .slice o.ka o.kl o.kc, .slice o.va o.vl o.vc, .int .u64 o.fl]
theorem KeyAt.old {w : World} {sa : Option Addr} {sl : Nat} {bs : List Int} (h : KeyAt w sa sl bs) {b off : Nat} (e : sa = some ⟨b, off, none⟩) (h1 : 1 ≤ bs.length) : b < w.heap.size := by
 obtain ⟨b', off', e', hc⟩ := h.2.2.2 h1
 rw [e] at e'
 injection e' with e'
 injection e' with e1
 have e1 : b = b' := e1
 rw [e1]
 exact World.block_lt_of_cell? _ _ (hc 0 (by omega))
end Go.Proofs.YtmhhahmjkopjhaaGreat
end
section
namespace Go.Proofs.YtmhhahmjkopjhaaGreat
open Go.RowKit
def OnePost (w0 : World) (x : PT) (s : Mem.MS) (y : RT) (u : Mem.RS) (c : Int) (e : Ending) (w' : World) : Prop :=
 e = .returned (.bool true) ∧ ∃ x' s' y' u', Duo w0 w' x' s' y' u' (c + 1) ∧ x'.t = x.t ∧ (s'.m, s'.next) = (s.m, s.next) ∧ y'.t = y.t ∧ u'.m = u.m ∧ x'.ds = x.ds
theorem kind6 (k0 : Int) : ∃ q : Nat, q < 6 ∧ (IntKind.u64.wrap k0).tmod 6 = q := by
 rw [IntKind.wrap_u64, Int.tmod_eq_emod_of_nonneg (by omega)]
 exact ⟨(k0 % 18446744073709551616 % 6).toNat, by omega, by omega⟩
theorem Duo.box {w0 w : World} {x : PT} {s : Mem.MS} {y : RT} {u : Mem.RS} {c : Int} (h : Duo w0 w x s y u c) : w.heap.size ∉ x.blocks ∧ w.heap.size ∉ s.blocks ∧ w.heap.size ∉ y.blocks ∧ w.heap.size ∉ u.blocks :=
 ⟨fun hx => by have := h.p.tab.lt _ hx; omega, fun hx => by have := h.p.mem.lt _ hx; omega, fun hx => by have := h.r.tab.lt _ hx; omega, fun hx => by have := h.r.mem.lt _ hx; omega⟩
theorem one_look {w0 w : World} {x : PT} {s : Mem.MS} {y : RT} {u : Mem.RS} {c : Int} (h : Duo w0 w x s y u c) (hc : c < 1000000000) (o : OpT) (ok : o.Ok w0) (hk : (IntKind.u64.wrap o.k).tmod 6 = 0) :
  Calls Tryz.prog 13 #[.pointer (some ⟨x.t, 0, none⟩), .pointer (some ⟨s.m, 0, none⟩), .pointer (some ⟨y.t, 0, none⟩), .pointer (some ⟨u.m, 0, none⟩), opT o] w (OnePost w0 x s y u c) := by
 have hta : Touch [] w (w.alloc (.cells o.cells.toArray 41)) := (Touch.refl [] w).alloc _
 have hD := h.still hta
 have hkey := ok.key.touch hD.touch
 have H1 := toHid (plookup_any hD.p.tab o.mp hkey o.kc ok.kcap)
 have hB := Blk.newA w o.cells.toArray _ 41 rfl
 have HX := toHid (And.intro hD (And.intro ok (And.intro hB (And.intro h.box (And.intro hc (And.intro (h.look o.mp o.kb) (h.look_clock o.mp o.kb)))))))
 unfold opT
 unfold OpT.cells at *
 generalize hlp : lookP x o.mp o.kb = lp at *
 clear h hD hkey ok hB hta hlp
 go_enter Tryz.func13, Tryz.ntmps13
 go_wp2_with fail
 refine Calls.mono H1.out ?_
 rintro e w2 ⟨rfl, x1, st⟩
 obtain ⟨hD, ok, hB, hbx, hc, heq, hcl⟩ := HX.out
 have hb2 := st.touch.blk hB hbx.1
 have e1 := hb2.cell (i := 1) rfl
 have e2 := hb2.cell (i := 2) rfl
 have hyB : ∀ b ∈ y.blocks, b ∉ x.blocks := fun b hb hx => (hD.apart b (Or.inl hx)).1 hb
 have hr2 := hD.r.tab.touch st.touch hyB
 have hkey2 := (ok.key.touch hD.touch).over st.touch (fun b off e h1 hx => by have := ok.key.old e h1; have := hD.own b (Or.inl hx); omega)
 have H2 := toHid (rlookup_any hr2 (hD.clocks (by omega)) o.mp hkey2 o.kc ok.kcap)
 rw [← heq] at H2
 have HS := toHid st
 clear hD ok hB hbx hc heq hcl st hb2 hyB hr2 hkey2 H1
 go_wp2_with fail
 refine Calls.mono H2.out ?_
 rintro e w3 ⟨rfl, y1, st'⟩
 have HF := toHid (HX.out.1.step HS.out st' HX.out.2.2.2.2.2.2)
 have HE : Hid (x1.t = x.t ∧ y1.t = y.t ∧ x1.ds = x.ds) := ⟨HS.out.t, st'.t, HS.out.ds⟩
 obtain ⟨⟨a1, a2⟩, qs⟩ := lp
 clear st' e1 e2 H2
 go_wp2
 go_ret
 exact ⟨by simp, x1, s, y1, u, HF.out, HE.out.1, rfl, HE.out.2.1, rfl, HE.out.2.2⟩
theorem one_del {w0 w : World} {x : PT} {s : Mem.MS} {y : RT} {u : Mem.RS} {c : Int} (h : Duo w0 w x s y u c) (hc : c < 1000000000) (o : OpT) (ok : o.Ok w0) (hk : (IntKind.u64.wrap o.k).tmod 6 = 2) :
  Calls Tryz.prog 13 #[.pointer (some ⟨x.t, 0, none⟩), .pointer (some ⟨s.m, 0, none⟩), .pointer (some ⟨y.t, 0, none⟩), .pointer (some ⟨u.m, 0, none⟩), opT o] w (OnePost w0 x s y u c) := by
 have hta : Touch [] w (w.alloc (.cells o.cells.toArray 41)) := (Touch.refl [] w).alloc _
 have hD := h.still hta
 have hB := Blk.newA w o.cells.toArray _ 41 rfl
 have hTd : Touch [] w (w.alloc (.cells o.cells.toArray 41)).drew := hta.drew
 have hDd := h.still hTd
 have hkey := ok.key.touch hDd.touch
 have H1 := toHid (pdelete_any hDd.p.tab o.mp hkey o.kc ok.kcap)
 have HX := toHid (And.intro hDd (And.intro ok (And.intro hB.drew (And.intro h.box (And.intro hc (And.intro (h.del o.mp o.kb) (h.del_clock o.mp o.kb)))))))
 unfold opT
 unfold OpT.cells at *
 generalize hlp : delP x o.mp o.kb = lp at *
 clear h hD hDd hkey ok hB hta hTd hlp
 have HSS : Hid (∀ S w', Touch S (w.alloc (.cells #[.int .i64 o.k, .int .i64 o.mp, .slice o.ka o.kl o.kc, .slice o.va o.vl o.vc, .int .u64 o.fl] 41)).drew w' → w.heap.size ∉ S → w'.cell? ⟨w.heap.size, 1, none⟩ = some (.int .i64 o.mp) ∧ w'.cell? ⟨w.heap.size, 2, none⟩ = some (.slice o.ka o.kl o.kc)) := fun S w' ht hn => by
  have h9 := ht.blk HX.out.2.2.1 hn
  exact ⟨h9.cell rfl, h9.cell rfl⟩
 go_enter Tryz.func13, Tryz.ntmps13
 go_wp2_with fail
 refine wp_region_held_drew (S := fun w' => w'.cell? ⟨w.heap.size, 1, none⟩ = some (.int .i64 o.mp) ∧ w'.cell? ⟨w.heap.size, 2, none⟩ = some (.slice o.ka o.kl o.kc)) (by kernel_rfl) ?_ (fun hHeld => ?_)
 ·exact HSS.out [] _ (Touch.refl _ _) (by simp)
 refine tk 0 (v := ?_) rfl ?_ ?_
 rotate_left
 ·(intro w hSw; (try dsimp only at hSw); go_simp; try with_reducible rfl)
 simp only [Act.put, AP]
 refine tk 1 (v := ?_) rfl ?_ ?_
 rotate_left
 ·(intro w hSw; (try dsimp only at hSw); go_simp; try with_reducible rfl)
 simp only [Act.put, AP]
 refine tk 2 (v := ?_) rfl ?_ ?_
 rotate_left
 ·(intro w hSw; (try dsimp only at hSw); go_simp; try with_reducible rfl)
 simp only [Act.put, AP]
 refine tk 3 (v := ?_) rfl ?_ ?_
 rotate_left
 ·(intro w hSw; (try dsimp only at hSw); go_simp; try with_reducible rfl)
 simp only [Act.put, AP]
 refine tk 4 (v := ?_) rfl ?_ ?_
 rotate_left
 ·(intro w hSw; (try dsimp only at hSw); go_simp; try with_reducible rfl)
 simp only [Act.put, AP]
 refine tk 6 (v := ?_) rfl ?_ ?_
 rotate_left
 ·(intro w hSw; (try dsimp only at hSw); go_simp; try with_reducible rfl)
 simp only [Act.put, AP]
 refine tk 7 (v := ?_) rfl ?_ ?_
 rotate_left
 ·(intro w hSw; (try dsimp only at hSw); go_simp; try with_reducible rfl)
 simp only [Act.put, AP]
 refine tk 8 (v := ?_) rfl ?_ ?_
 rotate_left
 ·(intro w hSw; (try dsimp only at hSw); go_simp; try with_reducible rfl)
 simp only [Act.put, AP]
 refine tk 9 (v := ?_) rfl ?_ ?_
 rotate_left
 ·(intro w hSw; (try dsimp only at hSw); go_simp; try with_reducible rfl)
 simp only [Act.put, AP]
 refine tk 10 (v := ?_) rfl ?_ ?_
 rotate_left
 ·(intro w hSw; (try dsimp only at hSw); go_simp; try with_reducible rfl)
 simp only [Act.put, AP]
 refine wpAnyH_ready (rs := [5]) (by kernel_rfl) (by simp) ?_
 refine AllReadyH.cons rfl (fun K hK => ?_) AllReadyH.nil
 simp only [AP]
 go_simp
 refine Calls.mono H1.out ?_; rintro e w2 ⟨rfl, x1, st⟩; have HS := toHid st; clear st
 go_wp2_with fail
 refine hK.out _ _ ?_ (fun hHeld => ?_)
 ·exact HSS.out _ _ HS.out.touch HX.out.2.2.2.1.1
 clear hK K
 try simp only [Act.put, AP]
 refine wpAnyH_ready (rs := [11]) (by kernel_rfl) (by simp) ?_
 refine AllReadyH.cons rfl (fun K hK => ?_) AllReadyH.nil
 simp only [AP]
 go_simp
 refine Calls.mono (by obtain ⟨hD, ok, hB, hbx, hc, heq, hcl⟩ := HX.out; have hr2 := hD.r.tab.touch HS.out.touch (fun b hb hx => (hD.apart b (Or.inl hx)).1 hb); have hkey2 := (ok.key.touch hD.touch).over HS.out.touch (fun b off e h1 hx => by have := ok.key.old e h1; have := hD.own b (Or.inl hx); omega); have h9 := rtdelete_any hr2 (hD.clocks (by omega)) o.mp hkey2 o.kc ok.kcap; rw [← heq] at h9; exact h9) ?_; rintro e w3 ⟨rfl, y1, st'⟩; have HF := toHid (HX.out.1.step HS.out st' HX.out.2.2.2.2.2.2); have HE : Hid (x1.t = x.t ∧ y1.t = y.t ∧ x1.ds = x.ds) := ⟨HS.out.t, st'.t, HS.out.ds⟩; have HT3 := toHid st'.touch; clear st'
 go_wp2_with fail
 refine hK.out _ _ ?_ (fun hHeld => ?_)
 ·exact HSS.out (x.blocks ++ y.blocks) _ ((HS.out.touch.mono (S' := x.blocks ++ y.blocks) (fun b hb => Or.inl (List.mem_append_left _ hb))).trans HT3.out (fun b hb => Or.inl (List.mem_append_right _ hb))) (fun hx => by rcases List.mem_append.1 hx with hx | hx; exact HX.out.2.2.2.1.1 hx; exact HX.out.2.2.2.1.2.2.1 hx)
 clear hK K
 try simp only [Act.put, AP]
 refine tk 12 (v := ?_) rfl ?_ ?_
 rotate_left
 ·(intro w hSw; (try dsimp only at hSw); go_simp; try with_reducible rfl)
 simp only [Act.put, AP]
 refine wpAnyH_ready (rs := [13]) (by kernel_rfl) (by simp) ?_
 refine AllReadyH.cons rfl (fun K hK => ?_) AllReadyH.nil
 simp only [AP]
 go_simp
 refine hK.out _ _ ?_ (fun hHeld => ?_)
 ·exact hHeld
 clear hK K
 try simp only [Act.put, AP]
 refine wpAnyH_done (by kernel_rfl) ?_ _
 clear hHeld HSS
 obtain ⟨a1, qs⟩ := lp
 go_wp2
 go_ret
 exact ⟨by simp, x1, s, y1, u, HF.out, HE.out.1, rfl, HE.out.2.1, rfl, HE.out.2.2⟩
end Go.Proofs.YtmhhahmjkopjhaaGreat
end
section
namespace Go.Proofs.YtmhhahmjkopjhaaGreat
open Go.RowKit
theorem one_upd {w0 w : World} {x : PT} {s : Mem.MS} {y : RT} {u : Mem.RS} {c : Int} (h : Duo w0 w x s y u c) (hc : c < 1000000000) (o : OpT) (ok : o.Ok w0) (hk : (IntKind.u64.wrap o.k).tmod 6 = 1) :
  Calls Tryz.prog 13 #[.pointer (some ⟨x.t, 0, none⟩), .pointer (some ⟨s.m, 0, none⟩), .pointer (some ⟨y.t, 0, none⟩), .pointer (some ⟨u.m, 0, none⟩), opT o] w (OnePost w0 x s y u c) := by
 have hta : Touch [] w (w.alloc (.cells o.cells.toArray 41)) := (Touch.refl [] w).alloc _
 have hD := h.still hta
 have hB := Blk.newA w o.cells.toArray _ 41 rfl
 have hTd : Touch [] w (w.alloc (.cells o.cells.toArray 41)).drew := hta.drew
 have hDd := h.still hTd
 have hkey := ok.key.touch hDd.touch
 have hval := ok.val.touch hDd.touch
 have H1 := toHid (pupdate_any hDd.p o.mp hkey o.kc ok.kcap (fun b off e h1 hx => by have := ok.key.old e h1; have := hDd.own b (Or.inl hx); omega) hval o.vc (fun b off e h1 hx => by have := ok.val.old e h1; have := hDd.own b (Or.inl hx); omega) o.fl ok.f0)
 obtain ⟨q1, q2, q3, q4⟩ := hDd.upd_eq o.mp o.kb o.vb o.fl
 have HX := toHid (And.intro hDd (And.intro ok (And.intro hB.drew (And.intro h.box (And.intro hc (And.intro q2 (And.intro q3 q4)))))))
 unfold PUpdPost at H1
 rw [q1] at H1
 unfold opT
 unfold OpT.cells at *
 generalize hpa : updP x o.mp o.kb o.vb o.fl = pa at *
 generalize hra : updI y u.all o.mp o.kb o.vb o.fl = ra at *
 have HRA := toHid hra
 have HB := toHid h.box
 clear h hD hDd hkey hval ok hB hta hTd hpa q1 q2 q3 q4 hra
 have HSS : Hid (∀ S w', Touch S (w.alloc (.cells #[.int .i64 o.k, .int .i64 o.mp, .slice o.ka o.kl o.kc, .slice o.va o.vl o.vc, .int .u64 o.fl] 41)).drew w' → w.heap.size ∉ S → w'.cell? ⟨w.heap.size, 1, none⟩ = some (.int .i64 o.mp) ∧ w'.cell? ⟨w.heap.size, 2, none⟩ = some (.slice o.ka o.kl o.kc) ∧ w'.cell? ⟨w.heap.size, 3, none⟩ = some (.slice o.va o.vl o.vc) ∧ w'.cell? ⟨w.heap.size, 4, none⟩ = some (.int .u64 o.fl)) := fun S w' ht hn => by
  have h9 := ht.blk HX.out.2.2.1 hn
  exact ⟨h9.cell rfl, h9.cell rfl, h9.cell rfl, h9.cell rfl⟩
 have HN1 : Hid (w.heap.size ∉ x.blocks ++ s.blocks) := fun hx => by
  rcases List.mem_append.1 hx with hx | hx
  ·exact HB.out.1 hx
  ·exact HB.out.2.1 hx
 have HN2 : Hid (w.heap.size ∉ (x.blocks ++ s.blocks) ++ (y.blocks ++ u.blocks)) := fun hx => by
  rcases List.mem_append.1 hx with hx | hx
  ·exact HN1.out hx
  ·rcases List.mem_append.1 hx with hx | hx
   ·exact HB.out.2.2.1 hx
   ·exact HB.out.2.2.2 hx
 have H2 : Hid (∀ w2 x1, PUSt (w.alloc (.cells #[.int .i64 o.k, .int .i64 o.mp, .slice o.ka o.kl o.kc, .slice o.va o.vl o.vc, .int .u64 o.fl] 41)).drew w2 x x1 s pa.2.1 (updRs s.rs o.vb pa) → Calls Tryz.prog 34 #[.pointer (some ⟨y.t, 0, none⟩), .int .i64 o.mp, .slice o.ka o.kl o.kc, .slice o.va o.vl o.vc, .int .u64 o.fl] w2 (UpdPost w2 y u ra)) := fun w2 x1 st => by
  obtain ⟨hD, ok, _⟩ := HX.out
  have hno : ∀ b, b ∈ y.blocks ∨ b ∈ u.blocks → b ∉ x.blocks ++ s.blocks := fun b hb hx => by
   rcases List.mem_append.1 hx with hx | hx
   ·rcases hb with hb | hb
    ·exact (hD.apart b (Or.inl hx)).1 hb
    ·exact (hD.apart b (Or.inl hx)).2 hb
   ·rcases hb with hb | hb
    ·exact (hD.apart b (Or.inr hx)).1 hb
    ·exact (hD.apart b (Or.inr hx)).2 hb
  have hold : ∀ b, b < w0.heap.size → b ∉ x.blocks ++ s.blocks := fun b hb hx => by
   rcases List.mem_append.1 hx with hx | hx
   ·have := hD.own b (Or.inl hx); omega
   ·have := hD.own b (Or.inr hx); omega
  have hr2 : RBoth w2 y u := ⟨hD.r.tab.touch st.touch (fun b hb => hno b (Or.inl hb)), hD.r.mem.touch st.touch (fun b hb => hno b (Or.inr hb)), hD.r.at_, hD.r.apart, hD.r.ids⟩
  have hkey2 := (ok.key.touch hD.touch).over st.touch (fun b off e h1 => hold b (ok.key.old e h1))
  have hval2 := (ok.val.touch hD.touch).over st.touch (fun b off e h1 => hold b (ok.val.old e h1))
  have h9 := rupdate_any hr2 (hD.clocks (by have := HX.out.2.2.2.2.1; omega)) o.mp hkey2 o.kc ok.kcap (fun h1 b off e hx => by have := ok.key.old e h1; have := hD.own' b (Or.inl hx); omega) hval2 o.vc (fun b off e h1 => ⟨fun hx => by have := ok.val.old e h1; have := hD.own' b (Or.inl hx); omega, fun hx => by have := ok.val.old e h1; have := hD.own' b (Or.inr hx); omega⟩) o.fl ok.f0
  rw [HRA.out] at h9
  exact h9
 go_enter Tryz.func13, Tryz.ntmps13
 go_wp2_with fail
 refine wp_region_held_drew (S := fun w' => w'.cell? ⟨w.heap.size, 1, none⟩ = some (.int .i64 o.mp) ∧ w'.cell? ⟨w.heap.size, 2, none⟩ = some (.slice o.ka o.kl o.kc) ∧ w'.cell? ⟨w.heap.size, 3, none⟩ = some (.slice o.va o.vl o.vc) ∧ w'.cell? ⟨w.heap.size, 4, none⟩ = some (.int .u64 o.fl)) (by kernel_rfl) ?_ (fun hHeld => ?_)
 ·exact HSS.out [] _ (Touch.refl _ _) (by simp)
 refine tk 0 (v := ?_) rfl ?_ ?_
 rotate_left
 ·(intro w hSw; (try dsimp only at hSw); go_simp; try with_reducible rfl)
 simp only [Act.put, AP]
 refine tk 1 (v := ?_) rfl ?_ ?_
 rotate_left
 ·(intro w hSw; (try dsimp only at hSw); go_simp; try with_reducible rfl)
 simp only [Act.put, AP]
 refine tk 2 (v := ?_) rfl ?_ ?_
 rotate_left
 ·(intro w hSw; (try dsimp only at hSw); go_simp; try with_reducible rfl)
 simp only [Act.put, AP]
 refine tk 3 (v := ?_) rfl ?_ ?_
 rotate_left
 ·(intro w hSw; (try dsimp only at hSw); go_simp; try with_reducible rfl)
 simp only [Act.put, AP]
 refine tk 4 (v := ?_) rfl ?_ ?_
 rotate_left
 ·(intro w hSw; (try dsimp only at hSw); go_simp; try with_reducible rfl)
 simp only [Act.put, AP]
 refine tk 5 (v := ?_) rfl ?_ ?_
 rotate_left
 ·(intro w hSw; (try dsimp only at hSw); go_simp; try with_reducible rfl)
 simp only [Act.put, AP]
 refine tk 6 (v := ?_) rfl ?_ ?_
 rotate_left
 ·(intro w hSw; (try dsimp only at hSw); go_simp; try with_reducible rfl)
 simp only [Act.put, AP]
 refine tk 7 (v := ?_) rfl ?_ ?_
 rotate_left
 ·(intro w hSw; (try dsimp only at hSw); go_simp; try with_reducible rfl)
 simp only [Act.put, AP]
 refine tk 8 (v := ?_) rfl ?_ ?_
 rotate_left
 ·(intro w hSw; (try dsimp only at hSw); go_simp; try with_reducible rfl)
 simp only [Act.put, AP]
 refine tk 10 (v := ?_) rfl ?_ ?_
 rotate_left
 ·(intro w hSw; (try dsimp only at hSw); go_simp; try with_reducible rfl)
 simp only [Act.put, AP]
 refine tk 11 (v := ?_) rfl ?_ ?_
 rotate_left
 ·(intro w hSw; (try dsimp only at hSw); go_simp; try with_reducible rfl)
 simp only [Act.put, AP]
 refine tk 12 (v := ?_) rfl ?_ ?_
 rotate_left
 ·(intro w hSw; (try dsimp only at hSw); go_simp; try with_reducible rfl)
 simp only [Act.put, AP]
 refine tk 13 (v := ?_) rfl ?_ ?_
 rotate_left
 ·(intro w hSw; (try dsimp only at hSw); go_simp; try with_reducible rfl)
 simp only [Act.put, AP]
 refine tk 14 (v := ?_) rfl ?_ ?_
 rotate_left
 ·(intro w hSw; (try dsimp only at hSw); go_simp; try with_reducible rfl)
 simp only [Act.put, AP]
 refine tk 15 (v := ?_) rfl ?_ ?_
 rotate_left
 ·(intro w hSw; (try dsimp only at hSw); go_simp; try with_reducible rfl)
 simp only [Act.put, AP]
 refine tk 16 (v := ?_) rfl ?_ ?_
 rotate_left
 ·(intro w hSw; (try dsimp only at hSw); go_simp; try with_reducible rfl)
 simp only [Act.put, AP]
 refine tk 17 (v := ?_) rfl ?_ ?_
 rotate_left
 ·(intro w hSw; (try dsimp only at hSw); go_simp; try with_reducible rfl)
 simp only [Act.put, AP]
 refine tk 18 (v := ?_) rfl ?_ ?_
 rotate_left
 ·(intro w hSw; (try dsimp only at hSw); go_simp; try with_reducible rfl)
 simp only [Act.put, AP]
 refine wpAnyH_ready (rs := [9]) (by kernel_rfl) (by simp) ?_
 refine AllReadyH.cons rfl (fun K hK => ?_) AllReadyH.nil
 simp only [AP]
 go_simp
 refine Calls.mono H1.out ?_; rintro e w2 ⟨rfl, x1, st⟩; have HS := toHid st; clear st
 go_wp2_with fail
 refine hK.out _ _ ?_ (fun hHeld => ?_)
 ·exact HSS.out _ _ HS.out.touch HN1.out
 clear hK K
 try simp only [Act.put, AP]
 refine wpAnyH_ready (rs := [19]) (by kernel_rfl) (by simp) ?_
 refine AllReadyH.cons rfl (fun K hK => ?_) AllReadyH.nil
 simp only [AP]
 go_simp
 refine Calls.mono (H2.out _ _ HS.out) ?_; rintro e w3 ⟨rfl, y1, st'⟩; have HF := toHid (HX.out.1.upd HS.out (by have h9 := HX.out.2.2.2.2.2.1; rw [h9]; exact st') HX.out.2.2.2.2.2.2.1 HX.out.2.2.2.2.2.2.2); have HE : Hid (x1.t = x.t ∧ y1.t = y.t ∧ x1.ds = x.ds) := ⟨HS.out.t, st'.t, HS.out.ds⟩; have HT3 := toHid st'.touch; clear st'
 go_wp2_with fail
 refine hK.out _ _ ?_ (fun hHeld => ?_)
 ·exact HSS.out _ _ ((HS.out.touch.mono (S' := (x.blocks ++ s.blocks) ++ (y.blocks ++ u.blocks)) (fun b hb => Or.inl (List.mem_append_left _ hb))).trans HT3.out (fun b hb => Or.inl (List.mem_append_right _ hb))) HN2.out
 clear hK K
 try simp only [Act.put, AP]
 refine tk 20 (v := ?_) rfl ?_ ?_
 rotate_left
 ·(intro w hSw; (try dsimp only at hSw); go_simp; try with_reducible rfl)
 simp only [Act.put, AP]
 refine wpAnyH_ready (rs := [21]) (by kernel_rfl) (by simp) ?_
 refine AllReadyH.cons rfl (fun K hK => ?_) AllReadyH.nil
 simp only [AP]
 go_simp
 refine hK.out _ _ ?_ (fun hHeld => ?_)
 ·exact hHeld
 clear hK K
 try simp only [Act.put, AP]
 refine wpAnyH_done (by kernel_rfl) ?_ _
 clear hHeld HSS
 obtain ⟨a1, qs, all⟩ := ra
 go_wp2
 go_ret
 exact ⟨by simp, x1, _, y1, _, HF.out, HE.out.1, rfl, HE.out.2.1, rfl, HE.out.2.2⟩
end Go.Proofs.YtmhhahmjkopjhaaGreat
end
section
namespace Go.Proofs.YtmhhahmjkopjhaaGreat
open Go.RowKit
theorem one_get {w0 w : World} {x : PT} {s : Mem.MS} {y : RT} {u : Mem.RS} {c : Int} (h : Duo w0 w x s y u c) (hc : c < 1000000000) (o : OpT) (ok : o.Ok w0) (hk : (IntKind.u64.wrap o.k).tmod 6 = 3) :
  Calls Tryz.prog 13 #[.pointer (some ⟨x.t, 0, none⟩), .pointer (some ⟨s.m, 0, none⟩), .pointer (some ⟨y.t, 0, none⟩), .pointer (some ⟨u.m, 0, none⟩), opT o] w (OnePost w0 x s y u c) := by
 have hta : Touch [] w (w.alloc (.cells o.cells.toArray 41)) := (Touch.refl [] w).alloc _
 have hD := h.still hta
 have hB := Blk.newA w o.cells.toArray _ 41 rfl
 have hkey := ok.key.touch hD.touch
 have H1 := toHid (pget_any hD.p o.mp hkey o.kc ok.kcap)
 obtain ⟨q1, q2, q3, q4⟩ := hD.get_eq o.mp o.kb
 have HX := toHid (And.intro hD (And.intro ok (And.intro hB (And.intro h.box (And.intro hc (And.intro q2 (And.intro (by rw [q3]; exact h.look_clock o.mp o.kb : ∀ q ∈ (getP x s.rs o.mp o.kb).2, q.clock ≤ c + 1) q4)))))))
 unfold PGetPost at H1
 rw [q1] at H1
 unfold opT
 unfold OpT.cells at *
 generalize hpa : getP x s.rs o.mp o.kb = pa at *
 generalize hra : getI y u.all o.mp o.kb = ra at *
 have HRA := toHid hra
 clear h hD hkey ok hB hta hpa q1 q2 q3 q4 hra
 go_enter Tryz.func13, Tryz.ntmps13
 go_wp2_with fail
 refine Calls.mono H1.out ?_
 rintro e w2 ⟨v, rfl, hsl, hfr, x1, st⟩
 obtain ⟨hD, ok, hB, hbx, hc, heq, hcl, hby⟩ := HX.out
 have hb2 := st.touch.blk hB hbx.1
 have e1 := hb2.cell (i := 1) rfl
 have e2 := hb2.cell (i := 2) rfl
 have hr2 : RBoth w2 y u := ⟨hD.r.tab.touch st.touch (fun b hb hx => (hD.apart b (Or.inl hx)).1 hb), hD.r.mem.touch st.touch (fun b hb hx => (hD.apart b (Or.inl hx)).2 hb), hD.r.at_, hD.r.apart, hD.r.ids⟩
 have hkey2 := (ok.key.touch hD.touch).over st.touch (fun b off e h1 hx => by have := ok.key.old e h1; have := hD.own b (Or.inl hx); omega)
 have H2 := toHid (rget_any hr2 (hD.clocks (by omega)) o.mp hkey2 o.kc ok.kcap)
 rw [HRA.out] at H2
 have HS := toHid (And.intro st (And.intro hsl (And.intro hr2 hfr)))
 have hvs : ∃ sa sl sc, v = .slice sa sl sc := by
  rcases hsl with ⟨_, rfl⟩ | ⟨_, N, rfl, _⟩ <;> exact ⟨_, _, _, rfl⟩
 obtain ⟨sa, sl, sc, rfl⟩ := hvs
 clear hD ok hB hbx hc heq hcl hby st hb2 hr2 hkey2 H1 hsl hfr
 go_wp2_with fail
 refine Calls.mono H2.out ?_
 rintro e w3 ⟨rfl, y1, st'⟩
 obtain ⟨st, hsl, hr2, hfr⟩ := HS.out
 obtain ⟨hD, ok, hB, hbx, hc, heq, hcl, hby⟩ := HX.out
 have HF := toHid (hD.step st (by rw [heq]; exact st') hcl)
 have HE : Hid (x1.t = x.t ∧ y1.t = y.t ∧ x1.ds = x.ds) := ⟨st.t, st'.t, st.ds⟩
 have hbd : ∀ b ∈ pa.1.1, 0 ≤ b ∧ b ≤ 255 := fun b hb => by
  rcases hby with ⟨h1, _⟩ | ⟨id, r, h1, _, h3⟩
  ·rw [h1] at hb; cases hb
  ·rw [h3] at hb
   exact (hr2.mem.ok r (List.mem_of_getElem? h1)).byte b hb
 have hkp : KeyAt w3 sa sl pa.1.1 := by
  rcases hsl with ⟨hn, hv⟩ | ⟨h1, N, hv, hBN⟩
  ·injection hv with q1 q2
   rw [hn, q1, q2]
   exact ⟨rfl, by simp, by simp, by simp⟩
  ·injection hv with q1 q2
   have hN := hfr N 0 sl sc (by rw [q1])
   have hB3 := st'.touch.blk hBN (fun hx => by have := hD.r.tab.lt N hx; omega)
   have hlen := HX.out.1.touch.size
   refine ⟨q2, hbd, ?_, fun _ => ⟨N, 0, q1, fun j hj => ?_⟩⟩
   ·rcases hby with ⟨h1, _⟩ | ⟨id, r, h1, _, h3⟩
    ·rw [h1]; simp
    ·rw [h3]
     have := (hr2.mem.ok r (List.mem_of_getElem? h1)).size2
     omega
   ·rw [Nat.zero_add]
    refine hB3.cell ?_
    rw [List.getElem?_map, List.getElem?_eq_getElem hj, List.getD_eq_getElem?_getD, List.getElem?_eq_getElem hj]
    rfl
 have hrp : ∃ ra9 rl rc, regV ra.1.1 = .slice ra9 rl rc ∧ KeyAt w3 ra9 rl pa.1.1 := by
  rcases hby with ⟨h1, h2⟩ | ⟨id, r, h1, h2, h3⟩
  ·rw [h2, h1]
   exact ⟨none, 0, 0, rfl, rfl, by simp, by simp, by simp⟩
  ·rw [h2, h3]
   have hR := hr2.step st'
   obtain ⟨rest, hRB⟩ := (hR.mem.regs r (List.mem_of_getElem? h1)).bytes
   have hro := hR.mem.ok r (List.mem_of_getElem? h1)
   refine ⟨_, _, _, rfl, rfl, hro.byte, by have := hro.size2; omega, fun _ => ⟨r.bb, 0, rfl, fun j hj => ?_⟩⟩
   rw [Nat.zero_add]
   refine hRB.cell ?_
   rw [List.getElem?_append_left (by simpa using hj), List.getElem?_map, List.getElem?_eq_getElem hj, List.getD_eq_getElem?_getD, List.getElem?_eq_getElem hj]
   rfl
 obtain ⟨ra9, rl, rc, hrv, hkr⟩ := hrp
 have hc1 := hkp.conv sc
 have hc2 := hkr.conv rc
 rw [hrv]
 generalize strOfNums pa.1.1 = A at *
 obtain ⟨⟨a1, a2⟩, qs⟩ := ra
 clear hD ok hB hbx hc heq hcl hby st st' hsl hr2 hfr hbd hkp hkr H2 HX HS e1 e2 hrv HRA
 go_wp2
 go_ret
 exact ⟨by simp, x1, s, y1, u, HF.out, HE.out.1, rfl, HE.out.2.1, rfl, HE.out.2.2⟩
end Go.Proofs.YtmhhahmjkopjhaaGreat
end
section
namespace Go.Proofs.YtmhhahmjkopjhaaGreat
open Go.RowKit
theorem one_store {w0 w : World} {x : PT} {s : Mem.MS} {y : RT} {u : Mem.RS} {c : Int} (h : Duo w0 w x s y u c) (hc : c < 1000000000) (o : OpT) (ok : o.Ok w0) (hk : (IntKind.u64.wrap o.k).tmod 6 = 5) :
  Calls Tryz.prog 13 #[.pointer (some ⟨x.t, 0, none⟩), .pointer (some ⟨s.m, 0, none⟩), .pointer (some ⟨y.t, 0, none⟩), .pointer (some ⟨u.m, 0, none⟩), opT o] w (OnePost w0 x s y u c) := by
 have hta : Touch [] w (w.alloc (.cells o.cells.toArray 41)) := (Touch.refl [] w).alloc _
 have hD := h.still hta
 have hB := Blk.newA w o.cells.toArray _ 41 rfl
 obtain ⟨i, hi8, hi⟩ : ∃ i : Nat, i < 8 ∧ (IntKind.u64.wrap o.mp).tmod 8 = i := by
  rw [IntKind.wrap_u64, Int.tmod_eq_emod_of_nonneg (by omega)]
  exact ⟨(o.mp % 18446744073709551616 % 8).toNat, by omega, by omega⟩
 obtain ⟨sl, hs64, hsl⟩ : ∃ sl : Nat, sl < 64 ∧ o.fl.tmod 64 = sl := by
  have := ok.f0
  rw [Int.tmod_eq_emod_of_nonneg (by omega)]
  exact ⟨(o.fl % 64).toNat, by omega, by omega⟩
 have w1 : IntKind.i64.wrap (i : Int) = i := by rw [IntKind.wrap_i64]; omega
 have w2 : IntKind.i64.wrap (sl : Int) = sl := by rw [IntKind.wrap_i64]; omega
 have HP := toHid (rplace_any (w.alloc (.cells o.cells.toArray 41)) i sl hi8 hs64)
 have hpl0 : 0 ≤ placeI i sl := by unfold placeI; omega
 have hpl1 : placeI i sl ≤ 18446744073709551615 := by unfold placeI; omega
 have hDd := hD.still ((Touch.refl [] (w.alloc (.cells o.cells.toArray 41))).drew)
 have H1 := toHid (Mem.store_any hDd.p.mem (placeI i sl) 1 o.fl hpl0 hpl1 ok.f0)
 have HX := toHid (And.intro hDd (And.intro ok (And.intro hB.drew (And.intro h.box (And.intro hc (And.intro hpl0 hpl1))))))
 have hE := hDd.rel.storeE hDd.p.mem.sorted hDd.perm (placeI i sl) 1
 have HE := toHid hE
 unfold Mem.StorePost at H1
 unfold opT
 unfold OpT.cells at *
 generalize hpl : placeI i sl = pl at *
 clear h hD hDd ok hB hta hpl hpl0 hpl1 hE
 have HSS : Hid (∀ S w', Touch S (w.alloc (.cells #[.int .i64 o.k, .int .i64 o.mp, .slice o.ka o.kl o.kc, .slice o.va o.vl o.vc, .int .u64 o.fl] 41)).drew w' → w.heap.size ∉ S → w'.cell? ⟨w.heap.size, 4, none⟩ = some (.int .u64 o.fl)) := fun S w' ht hn => by
  have h9 := ht.blk HX.out.2.2.1 hn
  exact h9.cell rfl
 go_enter Tryz.func13, Tryz.ntmps13
 go_wp2_with fail
 refine Calls.mono HP.out ?_
 rintro e w' ⟨rfl, rfl⟩
 go_wp2_with fail
 refine wp_region_held_drew (S := fun w' => w'.cell? ⟨w.heap.size, 4, none⟩ = some (.int .u64 o.fl)) (by kernel_rfl) ?_ (fun hHeld => ?_)
 ·exact HSS.out [] _ (Touch.refl _ _) (by simp)
 refine tk 0 (v := ?_) rfl ?_ ?_
 rotate_left
 ·(intro w hSw; (try dsimp only at hSw); go_simp; try with_reducible rfl)
 simp only [Act.put, AP]
 refine tk 1 (v := ?_) rfl ?_ ?_
 rotate_left
 ·(intro w hSw; (try dsimp only at hSw); go_simp; try with_reducible rfl)
 simp only [Act.put, AP]
 refine tk 2 (v := ?_) rfl ?_ ?_
 rotate_left
 ·(intro w hSw; (try dsimp only at hSw); go_simp; try with_reducible rfl)
 simp only [Act.put, AP]
 refine tk 3 (v := ?_) rfl ?_ ?_
 rotate_left
 ·(intro w hSw; (try dsimp only at hSw); go_simp; try with_reducible rfl)
 simp only [Act.put, AP]
 refine tk 5 (v := ?_) rfl ?_ ?_
 rotate_left
 ·(intro w hSw; (try dsimp only at hSw); go_simp; try with_reducible rfl)
 simp only [Act.put, AP]
 refine tk 6 (v := ?_) rfl ?_ ?_
 rotate_left
 ·(intro w hSw; (try dsimp only at hSw); go_simp; try with_reducible rfl)
 simp only [Act.put, AP]
 refine tk 7 (v := ?_) rfl ?_ ?_
 rotate_left
 ·(intro w hSw; (try dsimp only at hSw); go_simp; try with_reducible rfl)
 simp only [Act.put, AP]
 refine tk 8 (v := ?_) rfl ?_ ?_
 rotate_left
 ·(intro w hSw; (try dsimp only at hSw); go_simp; try with_reducible rfl)
 simp only [Act.put, AP]
 refine wpAnyH_ready (rs := [4]) (by kernel_rfl) (by simp) ?_
 refine AllReadyH.cons rfl (fun K hK => ?_) AllReadyH.nil
 simp only [AP]
 go_simp
 refine Calls.mono H1.out ?_; rintro e w2 ⟨rfl, ht2, hm2, hb2⟩; have HS := toHid (HX.out.1.p.store hm2 hb2 ht2); have HT2 := toHid ht2; clear ht2 hm2 hb2
 go_wp2_with fail
 refine hK.out _ _ ?_ (fun hHeld => ?_)
 ·exact HSS.out _ _ HT2.out HX.out.2.2.2.1.2.1
 clear hK K
 try simp only [Act.put, AP]
 refine wpAnyH_ready (rs := [9]) (by kernel_rfl) (by simp) ?_
 refine AllReadyH.cons rfl (fun K hK => ?_) AllReadyH.nil
 simp only [AP]
 go_simp
 refine Calls.mono (by obtain ⟨hD, ok, hB, hbx, hc, hpl0, hpl1⟩ := HX.out; have hr2 : RBoth _ y u := ⟨hD.r.tab.touch HT2.out (fun b hb hx => (hD.apart b (Or.inr hx)).1 hb), hD.r.mem.touch HT2.out (fun b hb hx => (hD.apart b (Or.inr hx)).2 hb), hD.r.at_, hD.r.apart, hD.r.ids⟩; have h9 := (Mem.rstore_any hr2.mem pl 1 o.fl hpl0 hpl1 ok.f0 ok.f1).mono (fun e w' (hh : _ ∧ _) => And.intro hh.1 (And.intro (hr2.store hpl0 hh.2) hh.2.2.2)); rw [HE.out] at h9; exact h9) ?_; rintro e w3 ⟨rfl, st', ht3⟩; have HF := toHid (HX.out.1.upd HS.out (by have h9 := HX.out.1.qs; rw [h9]; exact st') (HX.out.1.rel.store HX.out.1.p.mem.sorted HX.out.1.perm pl 1 o.fl) (by have h9 := HX.out.1.clock; have h8 := HX.out.1.qs; rw [← h8] at h9; exact le_up h9)); have HT3 := toHid ht3; clear st' ht3
 go_wp2_with fail
 refine hK.out _ _ ?_ (fun hHeld => ?_)
 ·exact HSS.out (s.blocks ++ u.blocks) _ ((HT2.out.mono (S' := s.blocks ++ u.blocks) (fun b hb => Or.inl (List.mem_append_left _ hb))).trans HT3.out (fun b hb => Or.inl (List.mem_append_right _ hb))) (fun hx => by rcases List.mem_append.1 hx with hx | hx; exact HX.out.2.2.2.1.2.1 hx; exact HX.out.2.2.2.1.2.2.2 hx)
 clear hK K
 try simp only [Act.put, AP]
 refine tk 10 (v := ?_) rfl ?_ ?_
 rotate_left
 ·(intro w hSw; (try dsimp only at hSw); go_simp; try with_reducible rfl)
 simp only [Act.put, AP]
 refine wpAnyH_ready (rs := [11]) (by kernel_rfl) (by simp) ?_
 refine AllReadyH.cons rfl (fun K hK => ?_) AllReadyH.nil
 simp only [AP]
 go_simp
 refine hK.out _ _ ?_ (fun hHeld => ?_)
 ·exact hHeld
 clear hK K
 try simp only [Act.put, AP]
 refine wpAnyH_done (by kernel_rfl) ?_ _
 clear hHeld HSS
 generalize Mem.storeE s.rs pl 1 = er at *
 go_wp2
 go_ret
 exact ⟨by simp, x, _, y, _, HF.out, rfl, rfl, rfl, rfl, rfl⟩
end Go.Proofs.YtmhhahmjkopjhaaGreat
end
section
namespace Go.Proofs.YtmhhahmjkopjhaaGreat
open Go.RowKit
theorem one_dump {w0 w : World} {x : PT} {s : Mem.MS} {y : RT} {u : Mem.RS} {c : Int} (h : Duo w0 w x s y u c) (_hc : c < 1000000000) (o : OpT) (ok : o.Ok w0) (hk : (IntKind.u64.wrap o.k).tmod 6 = 4) :
  Calls Tryz.prog 13 #[.pointer (some ⟨x.t, 0, none⟩), .pointer (some ⟨s.m, 0, none⟩), .pointer (some ⟨y.t, 0, none⟩), .pointer (some ⟨u.m, 0, none⟩), opT o] w (OnePost w0 x s y u c) := by
 have hta : Touch [] w (w.alloc (.cells o.cells.toArray 41)) := (Touch.refl [] w).alloc _
 have hD := h.still hta
 have hB := Blk.newA w o.cells.toArray _ 41 rfl
 cases hn : x.nth o.mp with
 | none =>
  have H1 := toHid (pdump_none hD.p.tab hn)
  have hc1 := hD.r.tab.c1
  have hlen := hD.len
  have hout : ¬ (0 ≤ o.mp ∧ o.mp < (y.maps.length : Int)) := fun hh => by
   unfold PT.nth at hn
   rw [if_pos hh.1] at hn
   have := List.getElem?_eq_none_iff.1 hn
   omega
  unfold slV at hc1
  have HX := toHid (And.intro hD (And.intro hB (And.intro ok h.box)))
  unfold opT
  unfold OpT.cells at *
  generalize y.maps.length = L at *
  generalize (y.g.map fun b => (⟨b, 0, none⟩ : Addr)) = yg at *
  clear h hD ok hB hta hn hlen
  go_enter Tryz.func13, Tryz.ntmps13
  go_wp2_with fail
  refine Calls.mono H1.out ?_
  rintro e w2 ⟨rfl, ht2⟩
  have e1 := (ht2.blk HX.out.2.1 (by simp)).cell (i := 1) rfl
  have y1 := ht2.cell hc1 (by simp)
  have HF : Hid (∀ n, Duo w0 (w2.drewN n) x s y u (c + 1)) := fun n => by
   have h9 := HX.out.1.still (ht2.drewN n)
   exact ⟨h9.p, h9.r, h9.rel, h9.qs, h9.ds, h9.apart, h9.own, h9.own', h9.touch, le_up h9.clock⟩
  clear ht2 hc1 H1
  by_cases hneg : o.mp < 0
  ·clear hout
   go_wp2_with fail
   go_quiet (fail)
   go_wp2
   go_ret
   exact ⟨by simp, x, s, y, u, HF.out _, rfl, rfl, rfl, rfl, rfl⟩
  ·have hge : (L : Int) ≤ o.mp := by omega
   clear hout
   go_wp2_with fail
   go_quiet (fail)
   go_wp2
   go_ret
   exact ⟨by simp, x, s, y, u, HF.out _, rfl, rfl, rfl, rfl, rfl⟩
 | some m =>
  obtain ⟨k, hmp, hm⟩ := PT.nth_mem hn
  obtain ⟨m', hm', _⟩ := hD.maps hm
  have H1 := toHid (pdump_any hD.p hm (hD.served hm))
  rw [hD.dump hm hm'] at H1
  have hc1 := hD.r.tab.c1
  have hlt : (k : Int) < y.maps.length := by have := (List.getElem?_eq_some_iff.1 hm').1; omega
  have hdl : (m'.dump u.all).length ≤ 1000 := by
   rw [← hD.dump hm hm']
   unfold PMap.dump heldP
   have h1 := List.length_filterMap_le (fun j => match m.q.slots.getD j none with
    | some b => some (b, Mem.readV s.rs (plI k j) m.d.val)
    | none => none) (List.range m.q.slots.length)
   rw [List.length_range] at h1
   have h2 := (hD.p.tab.maps m (List.mem_of_getElem? hm)).good.m2
   exact Nat.le_trans h1 (by omega)
  unfold slV at hc1
  have HX := toHid (And.intro hD (And.intro hB (And.intro hm' hdl)))
  unfold PDumpPost at H1
  unfold opT
  unfold OpT.cells at *
  rw [hmp] at *
  have hk8 : 0 ≤ (k : Int) := by omega
  generalize hps : m'.dump u.all = ps at *
  have HPS := toHid hps
  clear hps
  generalize y.maps.length = L at *
  generalize (y.g.map fun b => (⟨b, 0, none⟩ : Addr)) = yg at *
  clear h hD ok hB hta hn hm hm' hdl
  go_enter Tryz.func13, Tryz.ntmps13
  go_wp2_with fail
  refine Calls.mono H1.out ?_
  rintro e w2 ⟨⟨v, rfl, hPL⟩, ht2⟩
  have e1 := (ht2.blk HX.out.2.1 (by simp)).cell (i := 1) rfl
  have y1 := ht2.cell hc1 (by simp)
  have HT2 := toHid (And.intro ht2 hPL)
  clear ht2 hPL hc1 H1
  go_wp2_with fail
  go_quiet (fail)
  have hTd : Touch [] w2 (w2.drewN nq) := (Touch.refl [] w2).drewN nq
  have HD3 := toHid ((HX.out.1.still HT2.out.1).still hTd)
  have e1 := hTd.cell e1 (by simp)
  have H2 := toHid (rdump_any HD3.out.r HX.out.2.2.1)
  rw [HPS.out] at H2
  have HPL := toHid (HT2.out.2.touch hTd (by simp))
  generalize w2.drewN nq = w3 at *
  clear hTd y1
  go_wp2_with fail
  refine Calls.mono H2.out ?_
  rintro e w4 ⟨⟨v2, rfl, hPL2⟩, ht4⟩
  have H3 := toHid (rsame_any (HPL.out.touch ht4 (by simp)) hPL2 HX.out.2.2.2)
  have HD4 := toHid (HD3.out.still ht4)
  clear hPL2 ht4 H2 e1
  go_wp2_with fail
  refine Calls.mono H3.out ?_
  rintro e w5 ⟨rfl, ht5⟩
  have HF : Hid (Duo w0 w5 x s y u (c + 1)) := by
   have h9 := HD4.out.still ht5
   exact ⟨h9.p, h9.r, h9.rel, h9.qs, h9.ds, h9.apart, h9.own, h9.own', h9.touch, le_up h9.clock⟩
  clear ht5 H3
  go_wp2
  go_ret
  exact ⟨by simp, x, s, y, u, HF.out, rfl, rfl, rfl, rfl, rfl⟩
end Go.Proofs.YtmhhahmjkopjhaaGreat
end
section
namespace Go.Proofs.YtmhhahmjkopjhaaGreat
open Go.RowKit
theorem one_any {w0 w : World} {x : PT} {s : Mem.MS} {y : RT} {u : Mem.RS} {c : Int} (h : Duo w0 w x s y u c) (hc : c < 1000000000) (o : OpT) (ok : o.Ok w0) :
  Calls Tryz.prog 13 #[.pointer (some ⟨x.t, 0, none⟩), .pointer (some ⟨s.m, 0, none⟩), .pointer (some ⟨y.t, 0, none⟩), .pointer (some ⟨u.m, 0, none⟩), opT o] w (OnePost w0 x s y u c) := by
 obtain ⟨q, hq, hk⟩ := kind6 o.k
 have : q = 0 ∨ q = 1 ∨ q = 2 ∨ q = 3 ∨ q = 4 ∨ q = 5 := by omega
 rcases this with rfl | rfl | rfl | rfl | rfl | rfl
 ·exact one_look h hc o ok hk
 ·exact one_upd h hc o ok hk
 ·exact one_del h hc o ok hk
 ·exact one_get h hc o ok hk
 ·exact one_dump h hc o ok hk
 ·exact one_store h hc o ok hk
end Go.Proofs.YtmhhahmjkopjhaaGreat
end
section
namespace Go.Proofs.YtmhhahmjkopjhaaGreat.Mem
open Go.RowKit
attribute [local go_sem ↓] Go.wp_at_zero Go.wp_at_succ
theorem copy_nil (w : World) (ty : TypeId) : (Builtin.copy_ #[80, 80] ty #[.slice none 0 0, .slice none 0 0]).run Tryz.prog w = .ok (goInt 0) w := by
 obtain ⟨i, hi, _⟩ := info_of info4
 simp [Builtin.copy_, run_underlying Tryz.underlying80, hi, sizeOf, typeInfo, Builtin.lenOf, Builtin.firstCells]
def TwinPost (w : World) (r : Reg) (e : Ending) (w' : World) : Prop := ∃ r2 : Reg, e = .returned r2.ptr ∧ RegAt w' r2 ∧ RegOk r2 ∧ r2.id = r.id ∧ r2.base = r.base ∧ r2.perm = r.perm ∧ r2.bytes = r.bytes ∧ r2.set = r.set ∧ (r2.sb = none ↔ r.sb = none) ∧
 (∀ x ∈ r2.blocks, w.heap.size ≤ x) ∧ Touch [] w w'
theorem twin_any {w : World} {r : Reg} (h : RegAt w r) (ok : RegOk r) : Calls Tryz.prog 43 #[r.ptr] w (TwinPost w r) := by
 have c0 := h.c0
 have c1 := h.c1
 have c2 := h.c2
 have c3 := h.c3
 have HN := toHid (newRegion_any r.id r.base r.perm r.bytes.length w.drew ok.size1 ok.size2 ok.perm0 ok.perm1 ok.base0 ok.fits)
 have HH := toHid (And.intro h ok)
 obtain ⟨n, hn⟩ : ∃ n, r.bytes.length = n := ⟨_, rfl⟩
 rw [hn] at c3 HN
 have HLN := toHid hn
 clear h ok hn
 simp only [Reg.ptr]
 go_enter Tryz.func43, Tryz.ntmps43
 go_wp2_with fail
 refine wp_region_held_drew (S := (fun w' => w'.cell? ⟨r.p, 0, none⟩ = some (.int .i64 r.id) ∧ w'.cell? ⟨r.p, 1, none⟩ = some (.int .u64 r.base) ∧ w'.cell? ⟨r.p, 2, none⟩ = some (.int .i64 r.perm) ∧ w'.cell? ⟨r.p, 3, none⟩ = some (.slice (some ⟨r.bb, 0, none⟩) n n))) (by kernel_rfl) ?_ (fun hHeld => ?_)
 ·exact ⟨c0, c1, c2, c3⟩
 refine tk 0 (v := ?_) rfl ?_ ?_
 rotate_left
 ·(intro w hSw; (try dsimp only at hSw); go_simp; try with_reducible rfl)
 simp only [Act.put, AP]
 refine tk 1 (v := ?_) rfl ?_ ?_
 rotate_left
 ·(intro w hSw; (try dsimp only at hSw); go_simp; try with_reducible rfl)
 simp only [Act.put, AP]
 refine tk 2 (v := ?_) rfl ?_ ?_
 rotate_left
 ·(intro w hSw; (try dsimp only at hSw); go_simp; try with_reducible rfl)
 simp only [Act.put, AP]
 refine tk 3 (v := ?_) rfl ?_ ?_
 rotate_left
 ·(intro w hSw; (try dsimp only at hSw); go_simp; try with_reducible rfl)
 simp only [Act.put, AP]
 refine tk 4 (v := ?_) rfl ?_ ?_
 rotate_left
 ·(intro w hSw; (try dsimp only at hSw); go_simp; try with_reducible rfl)
 simp only [Act.put, AP]
 refine tk 5 (v := ?_) rfl ?_ ?_
 rotate_left
 ·(intro w hSw; (try dsimp only at hSw); go_simp; try with_reducible rfl)
 simp only [Act.put, AP]
 refine tk 6 (v := ?_) rfl ?_ ?_
 rotate_left
 ·(intro w hSw; (try dsimp only at hSw); go_simp; try with_reducible rfl)
 simp only [Act.put, AP]
 refine tk 7 (v := ?_) rfl ?_ ?_
 rotate_left
 ·(intro w hSw; (try dsimp only at hSw); go_simp; try with_reducible rfl)
 simp only [Act.put, AP]
 refine tk 8 (v := ?_) rfl ?_ ?_
 rotate_left
 ·(intro w hSw; (try dsimp only at hSw); go_simp; try with_reducible rfl)
 simp only [Act.put, AP]
 refine tk 9 (v := ?_) rfl ?_ ?_
 rotate_left
 ·(intro w hSw; (try dsimp only at hSw); go_simp; try with_reducible rfl)
 simp only [Act.put, AP]
 refine tk 10 (v := ?_) rfl ?_ ?_
 rotate_left
 ·(intro w hSw; (try dsimp only at hSw); go_simp; try with_reducible rfl)
 simp only [Act.put, AP]
 refine tk 11 (v := ?_) rfl ?_ ?_
 rotate_left
 ·(intro w hSw; (try dsimp only at hSw); go_simp; try with_reducible rfl)
 simp only [Act.put, AP]
 refine tk 12 (v := ?_) rfl ?_ ?_
 rotate_left
 ·(intro w hSw; (try dsimp only at hSw); go_simp; try with_reducible rfl)
 simp only [Act.put, AP]
 refine tk 13 (v := ?_) rfl ?_ ?_
 rotate_left
 ·(intro w hSw; (try dsimp only at hSw); go_simp; try with_reducible rfl)
 simp only [Act.put, AP]
 refine tk 14 (v := ?_) rfl ?_ ?_
 rotate_left
 ·(intro w hSw; (try dsimp only at hSw); go_simp; try with_reducible rfl)
 simp only [Act.put, AP]
 refine tk 15 (v := ?_) rfl ?_ ?_
 rotate_left
 ·(intro w hSw; (try dsimp only at hSw); go_simp; try with_reducible rfl)
 simp only [Act.put, AP]
 refine tk 16 (v := ?_) rfl ?_ ?_
 rotate_left
 ·(intro w hSw; (try dsimp only at hSw); go_simp; try with_reducible rfl)
 simp only [Act.put, AP]
 refine wpAnyH_ready (rs := [17]) (by kernel_rfl) (by simp) ?_
 refine AllReadyH.cons rfl (fun K hK => ?_) AllReadyH.nil
 simp only [AP]
 go_simp
 refine HN.out.mono ?_; rintro e w2 ⟨r2, rfl, hr2, hok2, hid2, hba2, hpe2, hby2, hse2, ht2, hbl2⟩; simp only [Reg.ptr]
 go_wp2_with fail
 refine hK.out _ _ ?_ (fun hHeld => ?_)
 ·exact ⟨ht2.cell hHeld.1 (by simp), ht2.cell hHeld.2.1 (by simp), ht2.cell hHeld.2.2.1 (by simp), ht2.cell hHeld.2.2.2 (by simp)⟩
 clear hK K
 try simp only [Act.put, AP]
 refine wpAnyH_ready (rs := [18]) (by kernel_rfl) (by simp) ?_
 refine AllReadyH.cons rfl (fun K hK => ?_) AllReadyH.nil
 simp only [AP]
 go_simp
 refine hK.out _ _ ?_ (fun hHeld => ?_)
 ·exact hHeld
 clear hK K
 try simp only [Act.put, AP]
 refine wpAnyH_done (by kernel_rfl) ?_ _
 have hT2 : Touch [] w w2 := ((Touch.refl [] w).drew).trans ht2 (by simp)
 have hr := HH.out.1.touch hT2 (by simp)
 have hlt := HH.out.1.lt
 have hd3 := hr2.c3
 have he3 := hr.c3
 rw [hby2, List.length_replicate] at hd3
 rw [HLN.out] at he3
 have hb2 := hr2.bytes
 rw [hby2, List.map_replicate] at hb2
 have hcp := fun ty => run_copy_blk (P := Tryz.prog) w2.drew 39 39 ty 5 Tryz.underlying39 (size_of_info info5) r2.bb 0 n n ⟨r.bb, 0, none⟩ n n _ 5 (r.bytes.map (Value.int .u8)) hb2.drew (by simp [HLN.out]) (fun j v hj => by
  rw [Addr.add_lit, Nat.zero_add]
  exact hr.bytes.drew.cell hj) (by simp [HLN.out]) (fun v hv => by
   obtain ⟨x, _, rfl⟩ := List.mem_map.1 hv
   rfl)
 have hcs : (List.replicate n (Value.int .u8 0)).take 0 ++ r.bytes.map (Value.int .u8) ++ (List.replicate n (Value.int .u8 0)).drop (0 + (r.bytes.map (Value.int .u8)).length) = r.bytes.map (Value.int .u8) := by
  simp [HLN.out]
 rw [hcs] at hcp
 have hnd := hok2.own
 have hpb : r2.p ≠ r2.bb := fun e => by simp [Reg.blocks, e] at hnd
 have hB3 := hb2.drew.setRow (r.bytes.map (Value.int .u8))
 have hS3 := hr2.self.drew.setRow_other r2.bb (r.bytes.map (Value.int .u8)).toArray hpb
 have hset3 : ∀ s, r2.sb = some s → Blk (w2.drew.setRow r2.bb (r.bytes.map (Value.int .u8)).toArray) s (r2.set.map Value.bool) 4 := fun s hs => (hr2.set s hs).drew.setRow_other r2.bb _ (fun e => by
  subst e
  simp [Reg.blocks, hs] at hnd)
 have hT3 : Touch [] w (w2.drew.setRow r2.bb (r.bytes.map (Value.int .u8)).toArray) := hT2.drew.setRow _ _ (Or.inr (by have := hbl2 r2.bb r2.mem_bb; simpa using this))
 have hr3 := HH.out.1.touch hT3 (by simp)
 have HCP := toHid hcp
 have H3 := toHid (And.intro hB3 (And.intro hS3 (And.intro hset3 (And.intro hT3 hr3))))
 have HI2 := toHid (And.intro hok2 (And.intro hid2 (And.intro hba2 (And.intro hpe2 (And.intro hby2 (And.intro hse2 hbl2))))))
 have k3 := hS3.cell (i := 3) rfl
 have l3 := hr3.c3
 rw [hby2, List.length_replicate] at k3
 rw [HLN.out] at l3
 clear hcp hB3 hS3 hset3 hT3 hr3 hcs hb2 hr hr2 hok2 hid2 hba2 hpe2 hby2 hse2 hbl2 ht2 hT2 hlt hnd hpb HN c0 c1 c2 c3
 generalize w2.drew.setRow r2.bb (r.bytes.map (Value.int .u8)).toArray = w3 at *
 go_wp2_with fail
 refine wp_region_held_drew (S := (fun w' => w'.cell? ⟨r2.p, 3, none⟩ = some (.slice (some ⟨r2.bb, 0, none⟩) n n) ∧ w'.cell? ⟨r.p, 3, none⟩ = some (.slice (some ⟨r.bb, 0, none⟩) n n))) (by kernel_rfl) ?_ (fun hHeld => ?_)
 ·exact ⟨hd3, he3⟩
 refine tk 0 (v := ?_) rfl ?_ ?_
 rotate_left
 ·(intro w hSw; (try dsimp only at hSw); go_simp; try with_reducible rfl)
 simp only [Act.put, AP]
 refine tk 1 (v := ?_) rfl ?_ ?_
 rotate_left
 ·(intro w hSw; (try dsimp only at hSw); go_simp; try with_reducible rfl)
 simp only [Act.put, AP]
 refine tk 2 (v := ?_) rfl ?_ ?_
 rotate_left
 ·(intro w hSw; (try dsimp only at hSw); go_simp; try with_reducible rfl)
 simp only [Act.put, AP]
 refine tk 3 (v := ?_) rfl ?_ ?_
 rotate_left
 ·(intro w hSw; (try dsimp only at hSw); go_simp; try with_reducible rfl)
 simp only [Act.put, AP]
 refine tk 4 (v := ?_) rfl ?_ ?_
 rotate_left
 ·(intro w hSw; (try dsimp only at hSw); go_simp; try with_reducible rfl)
 simp only [Act.put, AP]
 refine tk 5 (v := ?_) rfl ?_ ?_
 rotate_left
 ·(intro w hSw; (try dsimp only at hSw); go_simp; try with_reducible rfl)
 simp only [Act.put, AP]
 refine tk 6 (v := ?_) rfl ?_ ?_
 rotate_left
 ·(intro w hSw; (try dsimp only at hSw); go_simp; try with_reducible rfl)
 simp only [Act.put, AP]
 refine tk 7 (v := ?_) rfl ?_ ?_
 rotate_left
 ·(intro w hSw; (try dsimp only at hSw); go_simp; try with_reducible rfl)
 simp only [Act.put, AP]
 refine wpAnyH_ready (rs := [8]) (by kernel_rfl) (by simp) ?_
 refine AllReadyH.cons rfl (fun K hK => ?_) AllReadyH.nil
 refine step_copy_known rfl _ _ 39 39 rfl (.slice (some ⟨r2.bb, 0, none⟩) n n) (.slice (some ⟨r.bb, 0, none⟩) n n) (by simp [Act.eval]) (by simp [Act.eval]) (HCP.out _) ?_
 refine hK.out _ _ ?_ (fun hHeld => ?_)
 ·exact ⟨k3, l3⟩
 clear hK K
 simp only [Act.put, AP]
 refine wpAnyH_done (by kernel_rfl) ?_ _
 clear hd3 he3 k3 l3
 have hS3 := H3.out.2.1
 have hr3 := H3.out.2.2.2.2
 have hlen2 : r2.bytes.length = n := by rw [HI2.out.2.2.2.2.1]; simp
 have k4 := hS3.cell (i := 4) rfl
 have l4 := hr3.c4
 have hpl : r2.sb = none ↔ r.sb = none := by rw [HI2.out.1.plain, HI2.out.2.2.2.1, HH.out.2.plain]
 have hcells : ({ r2 with bytes := r.bytes } : Reg).cells = r2.cells := by
  unfold Reg.cells Reg.setV
  simp only
  rw [hlen2, HLN.out]
 cases hsb : r.sb with
 | none =>
  have hsb2 := hpl.2 hsb
  unfold Reg.setV at k4 l4
  rw [hsb2] at k4
  rw [hsb] at l4
  simp only at k4 l4
  have hc2 : ∀ ty, (Builtin.copy_ #[80, 80] ty #[.slice none 0 0, .slice none 0 0]).run Tryz.prog w3.drew = .ok (goInt 0) w3.drew := fun ty => copy_nil _ ty
  have HF : Hid (TwinPost w r (.returned r2.ptr) w3.drew) := by
   refine ⟨{ r2 with bytes := r.bytes }, rfl, ⟨?_, H3.out.1, fun s hs => ?_⟩, ⟨?_, HH.out.2.size1, HH.out.2.size2, ?_, HI2.out.1.perm0, HI2.out.1.perm1, HI2.out.1.plain, fun s hs => ?_, HI2.out.1.setNil, HH.out.2.byte, HI2.out.1.own⟩, HI2.out.2.1, HI2.out.2.2.1, HI2.out.2.2.2.1, rfl, ?_, hpl, ?_, H3.out.2.2.2.1.drew⟩
   ·rw [hcells]
    exact hS3.drew
   ·exact absurd hs (by simp [hsb2])
   ·exact HI2.out.1.base0
   ·have := HH.out.2.fits
    show r2.base + _ ≤ _
    rw [HI2.out.2.2.1]
    exact this
   ·exact absurd hs (by simp [hsb2])
   ·show r2.set = r.set
    rw [HI2.out.1.setNil hsb2, HH.out.2.setNil hsb]
   ·exact HI2.out.2.2.2.2.2.2
  clear hS3 hr3 H3 HI2 HH hpl hcells hsb hsb2 hlen2 HLN
  go_wp2_with fail
  refine wp_region_held_drew (S := (fun w' => w'.cell? ⟨r2.p, 4, none⟩ = some (.slice none 0 0) ∧ w'.cell? ⟨r.p, 4, none⟩ = some (.slice none 0 0))) (by kernel_rfl) ?_ (fun hHeld => ?_)
  ·exact ⟨k4, l4⟩
  refine tk 0 (v := ?_) rfl ?_ ?_
  rotate_left
  ·(intro w hSw; (try dsimp only at hSw); go_simp; try with_reducible rfl)
  simp only [Act.put, AP]
  refine tk 1 (v := ?_) rfl ?_ ?_
  rotate_left
  ·(intro w hSw; (try dsimp only at hSw); go_simp; try with_reducible rfl)
  simp only [Act.put, AP]
  refine tk 2 (v := ?_) rfl ?_ ?_
  rotate_left
  ·(intro w hSw; (try dsimp only at hSw); go_simp; try with_reducible rfl)
  simp only [Act.put, AP]
  refine tk 3 (v := ?_) rfl ?_ ?_
  rotate_left
  ·(intro w hSw; (try dsimp only at hSw); go_simp; try with_reducible rfl)
  simp only [Act.put, AP]
  refine tk 4 (v := ?_) rfl ?_ ?_
  rotate_left
  ·(intro w hSw; (try dsimp only at hSw); go_simp; try with_reducible rfl)
  simp only [Act.put, AP]
  refine tk 5 (v := ?_) rfl ?_ ?_
  rotate_left
  ·(intro w hSw; (try dsimp only at hSw); go_simp; try with_reducible rfl)
  simp only [Act.put, AP]
  refine tk 6 (v := ?_) rfl ?_ ?_
  rotate_left
  ·(intro w hSw; (try dsimp only at hSw); go_simp; try with_reducible rfl)
  simp only [Act.put, AP]
  refine tk 7 (v := ?_) rfl ?_ ?_
  rotate_left
  ·(intro w hSw; (try dsimp only at hSw); go_simp; try with_reducible rfl)
  simp only [Act.put, AP]
  refine wpAnyH_ready (rs := [8]) (by kernel_rfl) (by simp) ?_
  refine AllReadyH.cons rfl (fun K hK => ?_) AllReadyH.nil
  refine step_copy_known rfl _ _ 80 80 rfl (.slice none 0 0) (.slice none 0 0) (by simp [Act.eval]) (by simp [Act.eval]) (hc2 _) ?_
  refine hK.out _ _ ?_ (fun hHeld => ?_)
  ·exact ⟨k4, l4⟩
  clear hK K
  simp only [Act.put, AP]
  refine wpAnyH_done (by kernel_rfl) ?_ _
  go_wp2
  go_ret
  exact HF.out
 | some s1 =>
  have hne : r2.sb ≠ none := fun e => by rw [hpl.1 e] at hsb; cases hsb
  obtain ⟨s2, hsb2⟩ := Option.ne_none_iff_exists'.1 hne
  have hp4 : ¬ r.perm < 4 := fun e => by rw [HH.out.2.plain.2 e] at hsb; cases hsb
  have hsl := HH.out.2.setLen s1 hsb
  rw [HLN.out] at hsl
  have hs2 : r2.set = List.replicate n false := by rw [HI2.out.2.2.2.2.2.1, if_neg hp4]
  unfold Reg.setV at k4 l4
  rw [hsb2] at k4
  rw [hsb] at l4
  simp only at k4 l4
  rw [hlen2] at k4
  rw [HLN.out] at l4
  have hb4 := H3.out.2.2.1 s2 hsb2
  rw [hs2, List.map_replicate] at hb4
  have ha4 := hr3.set s1 hsb
  have hnd := HI2.out.1.own
  have hc2 := fun ty => run_copy_blk (P := Tryz.prog) w3.drew 80 80 ty 4 Tryz.underlying80 (size_of_info info4) s2 0 n n ⟨s1, 0, none⟩ n n _ 4 (r.set.map Value.bool) hb4.drew (by simp [hsl]) (fun j v hj => by
   rw [Addr.add_lit, Nat.zero_add]
   exact ha4.drew.cell hj) (by simp [hsl]) (fun v hv => by
    obtain ⟨x, _, rfl⟩ := List.mem_map.1 hv
    rfl)
  have hcs : (List.replicate n (Value.bool false)).take 0 ++ r.set.map Value.bool ++ (List.replicate n (Value.bool false)).drop (0 + (r.set.map Value.bool).length) = r.set.map Value.bool := by
   simp [hsl]
  rw [hcs] at hc2
  have hT4 : Touch [] w (w3.drew.setRow s2 (r.set.map Value.bool).toArray) := H3.out.2.2.2.1.drew.setRow _ _ (Or.inr (HI2.out.2.2.2.2.2.2 s2 (r2.mem_sb hsb2)))
  have hps : r2.p ≠ s2 := fun e => by simp [Reg.blocks, hsb2, e] at hnd
  have hbs : r2.bb ≠ s2 := fun e => by simp [Reg.blocks, hsb2, e] at hnd
  have HF : Hid (TwinPost w r (.returned r2.ptr) (w3.drew.setRow s2 (r.set.map Value.bool).toArray)) := by
   refine ⟨{ r2 with bytes := r.bytes, set := r.set }, rfl, ⟨?_, H3.out.1.drew.setRow_other s2 _ hbs, fun s hs => ?_⟩, ⟨?_, HH.out.2.size1, HH.out.2.size2, ?_, HI2.out.1.perm0, HI2.out.1.perm1, HI2.out.1.plain, fun s _ => HH.out.2.setLen s1 hsb, fun hs => ?_, HH.out.2.byte, HI2.out.1.own⟩, HI2.out.2.1, HI2.out.2.2.1, HI2.out.2.2.2.1, rfl, rfl, hpl, ?_, hT4⟩
   ·have := hS3.drew.setRow_other s2 (r.set.map Value.bool).toArray hps
    rw [← hcells] at this
    exact this
   ·have : s2 = s := by
     have hs' : r2.sb = some s := hs
     rw [hsb2] at hs'
     injection hs'
    subst this
    exact hb4.drew.setRow _
   ·exact HI2.out.1.base0
   ·have := HH.out.2.fits
    show r2.base + _ ≤ _
    rw [HI2.out.2.2.1]
    exact this
   ·exact absurd hs (by simp [hsb2])
   ·exact HI2.out.2.2.2.2.2.2
  have k5 := (hS3.drew.setRow_other s2 (r.set.map Value.bool).toArray hps).cell (i := 4) rfl
  have l5 := (HH.out.1.touch hT4 (by simp)).c4
  unfold Reg.setV at k5 l5
  rw [hsb2] at k5
  rw [hsb] at l5
  simp only at k5 l5
  rw [hlen2] at k5
  rw [HLN.out] at l5
  have HC2 := toHid hc2
  clear hS3 hr3 H3 HI2 HH hpl hcells hsb hsb2 hlen2 HLN hne hp4 hsl hs2 hb4 ha4 hnd hc2 hcs hT4 hps hbs
  generalize w3.drew.setRow s2 (r.set.map Value.bool).toArray = w4 at *
  go_wp2_with fail
  refine wp_region_held_drew (S := (fun w' => w'.cell? ⟨r2.p, 4, none⟩ = some (.slice (some ⟨s2, 0, none⟩) n n) ∧ w'.cell? ⟨r.p, 4, none⟩ = some (.slice (some ⟨s1, 0, none⟩) n n))) (by kernel_rfl) ?_ (fun hHeld => ?_)
  ·exact ⟨k4, l4⟩
  refine tk 0 (v := ?_) rfl ?_ ?_
  rotate_left
  ·(intro w hSw; (try dsimp only at hSw); go_simp; try with_reducible rfl)
  simp only [Act.put, AP]
  refine tk 1 (v := ?_) rfl ?_ ?_
  rotate_left
  ·(intro w hSw; (try dsimp only at hSw); go_simp; try with_reducible rfl)
  simp only [Act.put, AP]
  refine tk 2 (v := ?_) rfl ?_ ?_
  rotate_left
  ·(intro w hSw; (try dsimp only at hSw); go_simp; try with_reducible rfl)
  simp only [Act.put, AP]
  refine tk 3 (v := ?_) rfl ?_ ?_
  rotate_left
  ·(intro w hSw; (try dsimp only at hSw); go_simp; try with_reducible rfl)
  simp only [Act.put, AP]
  refine tk 4 (v := ?_) rfl ?_ ?_
  rotate_left
  ·(intro w hSw; (try dsimp only at hSw); go_simp; try with_reducible rfl)
  simp only [Act.put, AP]
  refine tk 5 (v := ?_) rfl ?_ ?_
  rotate_left
  ·(intro w hSw; (try dsimp only at hSw); go_simp; try with_reducible rfl)
  simp only [Act.put, AP]
  refine tk 6 (v := ?_) rfl ?_ ?_
  rotate_left
  ·(intro w hSw; (try dsimp only at hSw); go_simp; try with_reducible rfl)
  simp only [Act.put, AP]
  refine tk 7 (v := ?_) rfl ?_ ?_
  rotate_left
  ·(intro w hSw; (try dsimp only at hSw); go_simp; try with_reducible rfl)
  simp only [Act.put, AP]
  refine wpAnyH_ready (rs := [8]) (by kernel_rfl) (by simp) ?_
  refine AllReadyH.cons rfl (fun K hK => ?_) AllReadyH.nil
  refine step_copy_known rfl _ _ 80 80 rfl (.slice (some ⟨s2, 0, none⟩) n n) (.slice (some ⟨s1, 0, none⟩) n n) (by simp [Act.eval]) (by simp [Act.eval]) (HC2.out _) ?_
  refine hK.out _ _ ?_ (fun hHeld => ?_)
  ·exact ⟨k5, l5⟩
  clear hK K
  simp only [Act.put, AP]
  refine wpAnyH_done (by kernel_rfl) ?_ _
  go_wp2
  go_ret
  exact HF.out
end Go.Proofs.YtmhhahmjkopjhaaGreat.Mem
end
