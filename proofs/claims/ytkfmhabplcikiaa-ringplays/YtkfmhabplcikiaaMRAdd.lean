/-
  The reference memory: Add.
-/
import Derived.Test.YtkfmhabplcikiaaMRef3
import Derived.Test.YtkfmhabplcikiaaMAdd
import Derived.Test.YtkfmhabplcikiaaMKill
import Derived.Deep.CutRange
namespace Go.Proofs.Ytkfmhabplcikiaa.Mem
open Go.RowKit

def rbusyR (r : RReg) (base size : Int) : Bool := r.live && decide (r.base < base + size ∧ base < r.base + (r.bytes.length : Int))
def rbusy (all : List RReg) (base size : Int) : Bool := all.any (rbusyR · base size)

theorem rbusy_yes {all : List RReg} {base size : Int} {k : Nat} (hk : k < all.length) (h : rbusyR (all.getD k RReg.zero) base size = true) : rbusy all base size = true := by
  unfold rbusy
  rw [List.any_eq_true]
  exact ⟨_, rgetD_mem hk, h⟩
theorem rbusy_no {all : List RReg} {base size : Int} (h : ∀ j, j < all.length → rbusyR (all.getD j RReg.zero) base size = false) : rbusy all base size = false := by
  unfold rbusy
  rw [List.any_eq_false]
  intro x hx
  obtain ⟨j, hj, rfl⟩ := List.getElem_of_mem hx
  have := h j hj
  rw [List.getD_eq_getElem?_getD, List.getElem?_eq_getElem hj] at this
  simpa using this

/-- The part of Add behind the checks of its arguments. -/
def RAddPost (w : World) (s : RS) (base : Int) (z : Nat) (perm : Int) (e : Ending) (w' : World) : Prop :=
  (rbusy s.all base z = true ∧ e = .returned (.tuple #[.int .i64 0, .int .i64 12]) ∧ RefAt w' s ∧ Touch [] w w') ∨
  (rbusy s.all base z = false ∧ e = .returned (.tuple #[.int .i64 s.all.length, .int .i64 0]) ∧ Touch s.blocks w w' ∧ ∃ s' r, RefAt w' s' ∧ s'.m = s.m ∧ (∀ x ∈ s'.blocks, x ∈ s.blocks ∨ w.heap.size ≤ x) ∧ s'.all = s.all ++ [r] ∧
    r.live = true ∧ r.base = base ∧ r.perm = perm ∧ r.bytes = List.replicate z 0 ∧ r.set = List.replicate z (decide (perm < 4)))

/-- Three new blocks: a region's record, its bytes, its set marks. -/
structure New3 (w w' : World) (base : Int) (z : Nat) (perm : Int) (p g1 g2 : Nat) (ss : List Bool) : Prop where
  self : Blk w' p [.bool true, .int .u64 base, .int .i64 perm, slV (some g1) z z, slV (some g2) z z] 77
  bytes : Blk w' g1 (List.replicate z (.int .u8 0)) 5
  sets : Blk w' g2 (ss.map Value.bool) 4
  touch : Touch [] w w'
  np : w.heap.size ≤ p
  n1 : w.heap.size ≤ g1
  n2 : w.heap.size ≤ g2
  d1 : p ≠ g1
  d2 : p ≠ g2
  d3 : g1 ≠ g2

theorem Blk.newN {w : World} {arr : Array Value} {cs : List Value} {t : TypeId} {n : Nat} (hn : n = w.heap.size) (h : arr.toList = cs) : Blk (w.alloc (.cells arr t)) n cs t := hn ▸ Blk.newA w arr cs t h

theorem New3.put {w w' : World} {base : Int} {z : Nat} {perm : Int} {p g1 g2 : Nat} {ss : List Bool} (h : New3 w w' base z perm p g1 g2 ss) (k : Nat) (b : Bool) : New3 w (w'.setCell ⟨g2, k, none⟩ (.bool b)) base z perm p g1 g2 (ss.set k b) where
  self := h.self.setCell_other _ _ h.d2
  bytes := h.bytes.setCell_other _ _ h.d3
  sets := by rw [List.map_set]; exact h.sets.setCell k _
  touch := h.touch.setCell _ _ (Or.inr h.n2)
  np := h.np
  n1 := h.n1
  n2 := h.n2
  d1 := h.d1
  d2 := h.d2
  d3 := h.d3

theorem fill_step (z k : Nat) (b : Bool) (h : k < z) : (List.replicate k b ++ List.replicate (z - k) false).set k b = List.replicate (k + 1) b ++ List.replicate (z - (k + 1)) false := by
  obtain ⟨n, rfl⟩ : ∃ n, z = k + 1 + n := ⟨z - (k + 1), by omega⟩
  rw [show k + 1 + n - k = n + 1 by omega, show k + 1 + n - (k + 1) = n by omega, List.set_append_right _ _ (by simp), List.length_replicate, Nat.sub_self, List.replicate_succ (n := n), List.set_cons_zero, List.replicate_succ' (n := k)]
  simp

theorem RefAt.added {w w' : World} {s : RS} (h : RefAt w s) {r : RReg} {g' : Option Nat} {cap' : Nat} (hlen : s.all.length < 1000)
    (hm : Blk w' s.m [slV g' (s.all.length + 1) cap'] 29) (hrow : RowAt w' 77 5 g' (s.all.length + 1) cap' (s.all.flatMap RReg.cells ++ r.cells))
    (hold : ∀ x ∈ s.all, RRegAt w' x) (hr : RRegAt w' r) (hro : RRegOk r) (hown : r.bb ≠ r.sb) (hnew : ∀ x ∈ r.blocks, w.heap.size ≤ x) (hg : g' = s.g ∨ ∃ b, g' = some b ∧ w.heap.size ≤ b ∧ b ∉ r.blocks) :
    RefAt w' ⟨s.m, g', cap', s.all ++ [r]⟩ := by
  have hlt := h.lt
  refine ⟨?_, ?_, ?_, ?_, ?_, ?_⟩
  · show Blk w' s.m [slV g' (s.all ++ [r]).length cap'] 29
    rw [List.length_append]
    exact hm
  · show RowAt w' 77 5 g' (s.all ++ [r]).length cap' ((s.all ++ [r]).flatMap RReg.cells)
    rw [List.length_append, List.flatMap_append, List.flatMap_singleton]
    exact hrow
  · intro x hx
    rcases List.mem_append.1 hx with hx | hx
    · exact hold x hx
    · rw [List.mem_singleton.1 hx]; exact hr
  · intro x hx
    rcases List.mem_append.1 hx with hx | hx
    · exact h.ok x hx
    · rw [List.mem_singleton.1 hx]; exact hro
  · have hap := h.apart
    show (s.m :: g'.toList ++ (s.all ++ [r]).flatMap RReg.blocks).Nodup
    rw [List.flatMap_append, List.flatMap_singleton]
    simp only [RS.blocks, List.cons_append, List.nodup_cons, List.nodup_append, List.mem_append] at hap ⊢
    obtain ⟨h1, h2, h3, h4⟩ := hap
    have hmlt := hlt s.m s.mem_m
    have hold2 : ∀ x ∈ s.all.flatMap RReg.blocks, x < w.heap.size := by
      intro x hx
      obtain ⟨y, hy, hx⟩ := List.mem_flatMap.1 hx
      exact hlt x (s.mem_r hy hx)
    refine ⟨?_, ?_, ⟨h3, ?_, ?_⟩, ?_⟩
    · rintro (hx | hx | hx)
      · rcases hg with rfl | ⟨b, rfl, hb, _⟩
        · exact h1 (Or.inl hx)
        · simp at hx; omega
      · exact h1 (Or.inr hx)
      · have := hnew _ hx; omega
    · cases g' <;> simp
    · simp [RReg.blocks, hown]
    · intro a ha b hb hab
      have h5 := hnew b hb
      have h6 := hold2 a ha
      omega
    · intro a ha b hb hab
      subst hab
      rcases hg with rfl | ⟨b, rfl, hbb, hbr⟩
      · rcases hb with hb | hb
        · exact h4 a ha a hb rfl
        · have h5 := hnew a hb
          have h6 := hlt a (s.mem_g (by simpa using ha))
          omega
      · simp at ha
        subst ha
        rcases hb with hb | hb
        · have := hold2 _ hb; omega
        · exact hbr hb
  · show (s.all ++ [r]).length ≤ 1000
    rw [List.length_append]
    simp
    omega

theorem info44 : (Try.prog.info? 77).map (fun i => (i.zero, i.size, i.bytes)) = some (some (.agg #[.bool false, .int .u64 0, .int .i64 0, .slice none 0 0, .slice none 0 0]), 5, 72) := by kernel_rfl

/-- The append that puts the new record at the end, and what lies behind it. -/
theorem radd_last {w w1 wl : World} {s : RS} (h : RefAt w s) {base : Int} {z : Nat} {perm : Int} {p g1 g2 : Nat} (ht : Touch [] w wl) (hsz : w.heap.size ≤ w1.heap.size) (h3 : New3 w1 wl base z perm p g1 g2 (List.replicate z (decide (perm < 4)))) (hlen : s.all.length < 1000)
    (hb0 : 0 ≤ base) (hz1 : 1 ≤ z) (hz2 : z ≤ 65536) (hfit : base + z ≤ 18446744073709551616) (hp0 : 0 ≤ perm) (hp1 : perm ≤ 7) (hb : rbusy s.all base z = false) :
    ∃ g' cap' w', (Builtin.append_ #[27, 27] 27 #[slV s.g s.all.length s.cap, .slice (some ⟨wl.heap.size, 0, none⟩) 1 1]).run Try.prog (wl.alloc (.cells #[.bool true, .int .u64 base, .int .i64 perm, .slice (some ⟨g1, 0, none⟩) z z, .slice (some ⟨g2, 0, none⟩) z z] 77)).drew = .ok (slV g' (s.all.length + 1) cap') w' ∧
      Hid (wl.cell? ⟨s.m, 0, none⟩ = some (slV s.g s.all.length s.cap) ∧ w'.cell? ⟨s.m, 0, none⟩ = some (slV s.g s.all.length s.cap) ∧ w'.frozen? ⟨s.m, 0, none⟩ = false ∧ (∀ o, (wl.alloc o).cell? ⟨s.m, 0, none⟩ = some (slV s.g s.all.length s.cap)) ∧ s.m < wl.heap.size ∧ True ∧ True ∧
        RAddPost w s base z perm (.returned (.tuple #[.int .i64 s.all.length, .int .i64 0])) (w'.setCell ⟨s.m, 0, none⟩ (slV g' (s.all.length + 1) cap'))) := by
  obtain ⟨i, hi, hz, hs, hby⟩ := info_of info44
  let r : RReg := ⟨true, base, perm, g1, z, List.replicate z 0, g2, z, List.replicate z (decide (perm < 4))⟩
  have hrc : r.cells = [.bool true, .int .u64 base, .int .i64 perm, .slice (some ⟨g1, 0, none⟩) z z, .slice (some ⟨g2, 0, none⟩) z z] := by simp [RReg.cells, r]
  have hml := h.touch ht (by simp)
  have hta : Touch [] wl (wl.alloc (.cells #[.bool true, .int .u64 base, .int .i64 perm, .slice (some ⟨g1, 0, none⟩) z z, .slice (some ⟨g2, 0, none⟩) z z] 77)).drew := ((Touch.refl _ wl).alloc _).drew
  have hm2 := hml.touch hta (by simp)
  have hnew := Blk.newA wl #[.bool true, .int .u64 base, .int .i64 perm, .slice (some ⟨g1, 0, none⟩) z z, .slice (some ⟨g2, 0, none⟩) z z] _ 77 rfl
  obtain ⟨g', cap', w', hr, h2, h3', h4, h5⟩ := run_append_row (P := Try.prog) _ 27 27 77 i _ 5 Try.underlying27 hi hz hs rfl (by omega) s.g s.all.length s.cap _ hm2.row ⟨wl.heap.size, 0, none⟩ 1 1 r.cells rfl
    (fun j v hj => by
      rw [hrc] at hj
      have hadd : (⟨wl.heap.size, 0, none⟩ : Addr).add j = ⟨wl.heap.size, j, none⟩ := by unfold Addr.add; split <;> simp_all
      rw [hadd]
      exact hnew.drew.cell hj)
    (fun u hu => by rw [hrc] at hu; simp at hu; rcases hu with rfl | rfl | rfl | rfl | rfl <;> rfl)
    (by rw [hby]; omega) (by omega)
  refine ⟨g', cap', w', hr, ?_⟩
  have hap := h.apart
  have hlt := h.lt
  simp only [RS.blocks, List.cons_append, List.nodup_cons, List.mem_append, List.nodup_append] at hap
  have hmg : s.m ∉ s.g.toList := fun hx => hap.1 (Or.inl hx)
  have hmself := h3'.blk hm2.self hmg
  have hlo : w.heap.size ≤ wl.heap.size := ht.size
  have hmlt := hlt s.m s.mem_m
  have hn1 := h3.n1
  have hn2 := h3.n2
  have hgm : g' ≠ some s.m := fun e => by
    rcases h4 with h4 | h4
    · exact hmg (by rw [← h4, e]; simp)
    · rw [e] at h4; injection h4 with h4; simp at h4; omega
  have hrA : RRegAt (w'.setCell ⟨s.m, 0, none⟩ (slV g' (s.all.length + 1) cap')) r := by
    have q1 : g1 ∉ s.g.toList := fun hx => by have := hlt g1 (s.mem_g (by simpa using hx)); omega
    have q2 : g2 ∉ s.g.toList := fun hx => by have := hlt g2 (s.mem_g (by simpa using hx)); omega
    refine ⟨⟨[], ?_⟩, ⟨[], ?_⟩⟩
    · refine Blk.setCell_other ?_ _ _ (by show g1 ≠ s.m; omega)
      have := h3'.blk (h3.bytes.alloc _).drew q1
      simpa [r] using this
    · refine Blk.setCell_other ?_ _ _ (by show g2 ≠ s.m; omega)
      have := h3'.blk (h3.sets.alloc _).drew q2
      simpa [r] using this
  have hts : Touch [s.m] w' (w'.setCell ⟨s.m, 0, none⟩ (slV g' (s.all.length + 1) cap')) := (Touch.refl _ w').setCell _ _ (Or.inl (by simp))
  have hadd : RefAt (w'.setCell ⟨s.m, 0, none⟩ (slV g' (s.all.length + 1) cap')) ⟨s.m, g', cap', s.all ++ [r]⟩ := by
    refine RefAt.added h hlen ?_ ?_ ?_ hrA ?_ h3.d3 ?_ ?_
    · exact hmself.setCell 0 _
    · exact h2.touch hts (fun b hb hx => hgm (by simp at hx; rw [hb, hx]))
    · intro x hx
      refine ((hm2.regs x hx).touch h3' (fun y hy hh => ?_)).touch hts (fun y hy hh => ?_)
      · exact hap.2.2.2 y hh y (List.mem_flatMap.2 ⟨x, hx, hy⟩) rfl
      · simp at hh
        subst hh
        exact hap.1 (Or.inr (List.mem_flatMap.2 ⟨x, hx, hy⟩))
    · exact ⟨hb0, by simpa [r] using hz1, by simpa [r] using hz2, by simpa [r] using hfit, hp0, hp1, by simp [r], fun x hx => by simp [r] at hx; omega⟩
    · intro x hx
      simp [RReg.blocks, r] at hx
      omega
    · rcases h4 with h4 | h4
      · exact Or.inl h4
      · refine Or.inr ⟨_, h4, by simp; omega, fun hx => ?_⟩
        simp [RReg.blocks, r] at hx
        have e1 := h3.bytes.lt
        have e2 := h3.sets.lt
        omega
  have htt : Touch s.blocks w (w'.setCell ⟨s.m, 0, none⟩ (slV g' (s.all.length + 1) cap')) := by
    refine Touch.trans (b := w') ?_ hts (fun x hx => Or.inl (by simp at hx; rw [hx]; exact s.mem_m))
    refine Touch.trans (b := _) (ht.trans hta (by simp)).nil h3' (fun x hx => Or.inl (s.mem_g (by simpa using hx)))
  refine ⟨hml.c0, hmself.cell rfl, hmself.frozen 0, fun o => (hml.touch ((Touch.refl [] wl).alloc o) (by simp)).c0, by omega, trivial, trivial, Or.inr ⟨hb, rfl, htt, _, r, hadd, rfl, ?_, rfl, rfl, rfl, rfl, rfl, rfl⟩⟩
  intro x hx
  simp only [RS.blocks, List.cons_append, List.mem_cons, List.mem_append, List.mem_flatMap] at hx ⊢
  rcases hx with hx | hx | ⟨y, (hy | rfl | hy), hx⟩
  · exact Or.inl (Or.inl hx)
  · rcases h4 with h4 | h4
    · rw [h4] at hx; exact Or.inl (Or.inr (Or.inl hx))
    · rw [h4] at hx; simp at hx; exact Or.inr (by omega)
  · exact Or.inl (Or.inr (Or.inr ⟨y, hy, hx⟩))
  · simp [RReg.blocks, r] at hx
    exact Or.inr (by omega)
  · cases hy

set_option maxHeartbeats 4000000 in
set_option maxRecDepth 100000 in
theorem radd_some {w : World} {s : RS} (h : RefAt w s) {b : Nat} (hg : s.g = some b) (base : Int) (z : Nat) (perm : Int) (hb0 : 0 ≤ base) (hz1 : 1 ≤ z) (hz2 : z ≤ 65536) (hfit : base + z ≤ 18446744073709551616) (hp0 : 0 ≤ perm) (hp1 : perm ≤ 7) (hlen : s.all.length < 1000) :
    Calls Try.prog 9 #[.pointer (some ⟨s.m, 0, none⟩), .int .u64 base, .int .i64 z, .int .i64 perm] w (RAddPost w s base z perm) := by
  have hc0 := h.c0
  have hw0 : IntKind.u64.wrap (IntKind.u64.wrap (18446744073709551615 - IntKind.u64.wrap (z : Int)) + 1) = 18446744073709551616 - (z : Int) := by simp only [IntKind.wrap_u64]; omega
  have HM := toHid h
  have HG := toHid hg
  rw [hg] at hc0
  simp only [slV_some] at hc0
  clear h hg
  go_enter Try.func9, Try.ntmps9
  go_wp2_with fail
  generalize decide ((z : Int) < 1) = t1
  generalize decide ((65536 : Int) < (z : Int)) = t2
  generalize decide (perm < 0) = t3
  generalize decide (7 < perm) = t4
  generalize decide (18446744073709551615 - (z : Int) + 1 < base) = t5
  go_loopw [39] (fun t w' => ∃ k : Nat, k ≤ s.all.length ∧ t = .int .i64 k ∧ Hid (Touch [] w w' ∧ ∀ j, j < k → rbusyR (s.all.getD j RReg.zero) base z = false)) (fun t _ => s.all.length - (intOf t).toNat)
  case atStart => exact ⟨0, by omega, rfl, Touch.refl _ _, fun j hj => by omega⟩
  case round =>
    rename_i wr
    obtain ⟨k, hk, rfl, HI⟩ := hrel
    clear hc0
    by_cases hlt : k < s.all.length
    · have hM := HM.out.touch HI.out.1 (by simp)
      have hr := rgetD_of hlt
      have hok := hM.ok _ (rgetD_mem hlt)
      have c0 := hM.at HG.out hr (j := 0) (by omega) rfl
      have c1 := hM.at HG.out hr (j := 1) (by omega) rfl
      have c2 := hM.at HG.out hr (j := 2) (by omega) rfl
      have c3 := hM.at HG.out hr (j := 3) (by omega) rfl
      have c4 := hM.at HG.out hr (j := 4) (by omega) rfl
      rw [Nat.add_zero] at c0
      have HY : rbusyR (s.all.getD k RReg.zero) base z = true → ∀ o, Hid (RAddPost w s base z perm (.returned (.tuple #[.int .i64 0, .int .i64 12])) (wr.alloc o)) := fun hh o => Or.inl ⟨rbusy_yes hlt hh, rfl, hM.touch ((Touch.refl [] wr).alloc o) (by simp), HI.out.1.alloc o⟩
      have HN : rbusyR (s.all.getD k RReg.zero) base z = false → Hid (∀ j, j < k + 1 → rbusyR (s.all.getD j RReg.zero) base z = false) := fun hh j hj => by
        by_cases e : j = k
        · subst e; exact hh
        · exact HI.out.2 j (by omega)
      generalize s.all.getD k RReg.zero = r at *
      have hb1 := hok.base0
      have hs2 := hok.size2
      have hs1 := hok.size1
      have hfit2 := hok.fits
      have hwl : IntKind.u64.wrap (r.bytes.length : Int) = r.bytes.length := by rw [IntKind.wrap_u64]; omega
      have HT := toHid HI.out.1
      clear hM hok HI
      cases hl : r.live with
      | false =>
        have HN2 := HN (by unfold rbusyR; rw [hl]; rfl)
        rw [hl] at c0
        clear HN HY hl
        go_wp2
        exact ⟨⟨k + 1, by omega, by go_num, HT.out.alloc _, HN2.out⟩, by simp [intOf]; omega⟩
      | true =>
        rw [hl] at c0
        by_cases hlo : r.base < base
        · have hw1 : IntKind.u64.wrap (base - r.base) = base - r.base := by rw [IntKind.wrap_u64]; omega
          by_cases hin : base - r.base < r.bytes.length
          · have HY2 := HY (by unfold rbusyR; rw [hl]; simp; omega)
            clear HN HY hl
            go_wp2
            go_ret2
            exact (HY2 _).out
          · have HN2 := HN (by unfold rbusyR; rw [hl]; simp; omega)
            clear HN HY hl
            go_wp2
            exact ⟨⟨k + 1, by omega, by go_num, HT.out.alloc _, HN2.out⟩, by simp [intOf]; omega⟩
        · have hw1 : IntKind.u64.wrap (r.base - base) = r.base - base := by rw [IntKind.wrap_u64]; omega
          by_cases hin : r.base - base < z
          · have HY2 := HY (by unfold rbusyR; rw [hl]; simp; omega)
            clear HN HY hl
            go_wp2
            go_ret2
            exact (HY2 _).out
          · have HN2 := HN (by unfold rbusyR; rw [hl]; simp; omega)
            clear HN HY hl
            go_wp2
            exact ⟨⟨k + 1, by omega, by go_num, HT.out.alloc _, HN2.out⟩, by simp [intOf]; omega⟩
    · have hkk : k = s.all.length := by omega
      rw [hkk] at HI
      have HNB := toHid (rbusy_no HI.out.2)
      have HT := toHid HI.out.1
      have HC := toHid (rcount_any (HM.out.touch HI.out.1 (by simp)))
      have hlv : liveN s.all ≤ 1000 := by unfold liveN; exact Nat.le_trans (List.length_filter_le _ _) (by omega)
      clear HI hkk
      have hmk := run_make_blk (P := Try.prog) Try.underlying60 info5 rfl z (by omega) (by omega) .i64
      have hmk2 := run_make_blk (P := Try.prog) Try.underlying73 info4 rfl z (by omega) (by omega) .i64
      go_upto_region 13 with (go_at_call 23; refine HC.out.mono ?_; rintro e w1 ⟨rfl, ht1⟩; have HT1 := toHid (HT.out.trans ht1 (by simp)); clear ht1)
      go_cut [12] from 85 to 91 (fun v wx => ∃ p g1 g2, v = .pointer (some ⟨p, 0, none⟩) ∧ Hid (New3 w1 wx base z perm p g1 g2 (List.replicate 0 (decide (perm < 4)) ++ List.replicate (z - 0) false)))
      case first =>
        go_region
        all_goals (try go_wp2_with fail)
        all_goals go_meet
        all_goals first
          | (refine ⟨_, w1.heap.size, w1.heap.size + 1, rfl, toHid ?_⟩; (refine ⟨?_, ?_, ?_, ((((Touch.refl _ _).alloc _).alloc _).alloc _).drew, ?_, ?_, ?_, ?_, ?_, ?_⟩ <;> first | omega | (refine Blk.drew (Blk.newN ?_ ?_) <;> simp [slV] <;> done) | (refine Blk.drew ((Blk.newN ?_ ?_).alloc _) <;> simp [slV] <;> done) | (refine Blk.drew (((Blk.newN ?_ ?_).alloc _).alloc _) <;> simp [slV] <;> done)); done)
          | (refine ⟨_, w1.heap.size, w1.heap.size + 1 + 1, rfl, toHid ?_⟩; (refine ⟨?_, ?_, ?_, ((((Touch.refl _ _).alloc _).alloc _).alloc _).drew, ?_, ?_, ?_, ?_, ?_, ?_⟩ <;> first | omega | (refine Blk.drew (Blk.newN ?_ ?_) <;> simp [slV] <;> done) | (refine Blk.drew ((Blk.newN ?_ ?_).alloc _) <;> simp [slV] <;> done) | (refine Blk.drew (((Blk.newN ?_ ?_).alloc _).alloc _) <;> simp [slV] <;> done)); done)
          | (refine ⟨_, w1.heap.size + 1, w1.heap.size, rfl, toHid ?_⟩; (refine ⟨?_, ?_, ?_, ((((Touch.refl _ _).alloc _).alloc _).alloc _).drew, ?_, ?_, ?_, ?_, ?_, ?_⟩ <;> first | omega | (refine Blk.drew (Blk.newN ?_ ?_) <;> simp [slV] <;> done) | (refine Blk.drew ((Blk.newN ?_ ?_).alloc _) <;> simp [slV] <;> done) | (refine Blk.drew (((Blk.newN ?_ ?_).alloc _).alloc _) <;> simp [slV] <;> done)); done)
          | (refine ⟨_, w1.heap.size + 1, w1.heap.size + 1 + 1, rfl, toHid ?_⟩; (refine ⟨?_, ?_, ?_, ((((Touch.refl _ _).alloc _).alloc _).alloc _).drew, ?_, ?_, ?_, ?_, ?_, ?_⟩ <;> first | omega | (refine Blk.drew (Blk.newN ?_ ?_) <;> simp <;> done) | (refine Blk.drew ((Blk.newN ?_ ?_).alloc _) <;> simp [slV] <;> done) | (refine Blk.drew (((Blk.newN ?_ ?_).alloc _).alloc _) <;> simp [slV] <;> done)); done)
          | (refine ⟨_, w1.heap.size + 1 + 1, w1.heap.size, rfl, toHid ?_⟩; (refine ⟨?_, ?_, ?_, ((((Touch.refl _ _).alloc _).alloc _).alloc _).drew, ?_, ?_, ?_, ?_, ?_, ?_⟩ <;> first | omega | (refine Blk.drew (Blk.newN ?_ ?_) <;> simp <;> done) | (refine Blk.drew ((Blk.newN ?_ ?_).alloc _) <;> simp [slV] <;> done) | (refine Blk.drew (((Blk.newN ?_ ?_).alloc _).alloc _) <;> simp [slV] <;> done)); done)
          | (refine ⟨_, w1.heap.size + 1 + 1, w1.heap.size + 1, rfl, toHid ?_⟩; (refine ⟨?_, ?_, ?_, ((((Touch.refl _ _).alloc _).alloc _).alloc _).drew, ?_, ?_, ?_, ?_, ?_, ?_⟩ <;> first | omega | (refine Blk.drew (Blk.newN ?_ ?_) <;> simp <;> done) | (refine Blk.drew ((Blk.newN ?_ ?_).alloc _) <;> simp <;> done) | (refine Blk.drew (((Blk.newN ?_ ?_).alloc _).alloc _) <;> simp [slV] <;> done)); done)
      case rest =>
        obtain ⟨p, g1, g2, rfl, H3⟩ := hcut
        have c4 : wc.cell? ⟨p, 4, none⟩ = some _ := H3.out.self.cell rfl
        simp only [slV_some] at c4
        go_wp2
        generalize decide (4096 ≤ (liveN s.all : Int)) = t6
        generalize hbp : decide (perm < 4) = bp at H3
        have HBP := toHid hbp
        go_loopw [95] (fun t w' => ∃ k : Nat, k ≤ z ∧ t = .int .i64 k ∧ Hid (New3 w1 w' base z perm p g1 g2 (List.replicate k bp ++ List.replicate (z - k) false))) (fun t _ => z - (intOf t).toNat)
        case atStart => exact ⟨0, by omega, rfl, H3⟩
        case round =>
          obtain ⟨k2, hk2, rfl, HI⟩ := hrel
          clear c4
          by_cases hlt2 : k2 < z
          · have c4 : wr.cell? ⟨p, 4, none⟩ = some _ := HI.out.self.cell rfl
            simp only [slV_some] at c4
            have d2 := HI.out.sets.cellN (i := k2) (by simp; omega)
            have f2 := HI.out.sets.frozen k2
            have HN := toHid (HI.out.put k2 bp)
            rw [fill_step z k2 bp hlt2] at HN
            clear HI H3 HC hmk hmk2
            go_wp2
            refine ⟨⟨k2 + 1, by omega, by go_num, HN⟩, by simp [intOf]; omega⟩
          · have hkz : k2 = z := by omega
            rw [hkz, Nat.sub_self, List.replicate_zero, List.append_nil, ← HBP.out] at HI
            have HL := toHid (radd_last HM.out (HT1.out.trans HI.out.touch (by simp)) HT1.out.size HI.out hlen hb0 hz1 hz2 hfit hp0 hp1 HNB.out)
            obtain ⟨g', cap', w', ha, hb⟩ := HL.out
            obtain ⟨q0, q1, q2, q3, q4, q5, q6, q7⟩ := hb.out
            have HA := toHid ha
            have HE := toHid q7
            have c0 : wr.cell? ⟨p, 0, none⟩ = some _ := HI.out.self.cell rfl
            have c1 : wr.cell? ⟨p, 1, none⟩ = some _ := HI.out.self.cell rfl
            have c2 : wr.cell? ⟨p, 2, none⟩ = some _ := HI.out.self.cell rfl
            have c3 : wr.cell? ⟨p, 3, none⟩ = some _ := HI.out.self.cell rfl
            have c4 : wr.cell? ⟨p, 4, none⟩ = some _ := HI.out.self.cell rfl
            simp only [slV_some] at c3 c4
            simp only [slV] at HA HE q0 q1 q3
            clear ha hb q7 HI HL H3 HC hmk hmk2 hkz
            go_wp2_with fail
            go_region_law (refine step_append_known rfl (.tmp 109) (.tmp 111) 27 27 rfl (.slice (s.g.map fun b => ⟨b, 0, none⟩) s.all.length s.cap) (.slice (some ⟨wr.heap.size, 0, none⟩) 1 1) (by simp [Act.eval]) (by simp [Act.eval]) HA.out ?_)
            all_goals go_wp2
            all_goals go_ret2
            all_goals exact HE.out

set_option maxHeartbeats 4000000 in
set_option maxRecDepth 100000 in
theorem radd_none {w : World} {s : RS} (h : RefAt w s) (hg : s.g = none) (base : Int) (z : Nat) (perm : Int) (hb0 : 0 ≤ base) (hz1 : 1 ≤ z) (hz2 : z ≤ 65536) (hfit : base + z ≤ 18446744073709551616) (hp0 : 0 ≤ perm) (hp1 : perm ≤ 7) (hlen : s.all.length < 1000) :
    Calls Try.prog 9 #[.pointer (some ⟨s.m, 0, none⟩), .int .u64 base, .int .i64 z, .int .i64 perm] w (RAddPost w s base z perm) := by
  have hc0 := h.c0
  have hw0 : IntKind.u64.wrap (IntKind.u64.wrap (18446744073709551615 - IntKind.u64.wrap (z : Int)) + 1) = 18446744073709551616 - (z : Int) := by simp only [IntKind.wrap_u64]; omega
  have HM := toHid h
  have HZ := toHid (h.nil hg).1
  rw [hg] at hc0
  simp only [slV_none] at hc0
  clear h hg
  go_enter Try.func9, Try.ntmps9
  go_wp2_with fail
  generalize decide ((z : Int) < 1) = t1
  generalize decide ((65536 : Int) < (z : Int)) = t2
  generalize decide (perm < 0) = t3
  generalize decide (7 < perm) = t4
  generalize decide (18446744073709551615 - (z : Int) + 1 < base) = t5
  go_loopw [39] (fun t w' => ∃ k : Nat, k ≤ s.all.length ∧ t = .int .i64 k ∧ Hid (Touch [] w w' ∧ ∀ j, j < k → rbusyR (s.all.getD j RReg.zero) base z = false)) (fun t _ => s.all.length - (intOf t).toNat)
  case atStart => exact ⟨0, by omega, rfl, Touch.refl _ _, fun j hj => by omega⟩
  case round =>
    obtain ⟨k, hk, rfl, HI⟩ := hrel
    clear hc0
    by_cases hlt : k < s.all.length
    · rw [HZ.out] at hlt; simp at hlt
    · have hkk : k = s.all.length := by omega
      rw [hkk] at HI
      have HNB := toHid (rbusy_no HI.out.2)
      have HT := toHid HI.out.1
      have HC := toHid (rcount_any (HM.out.touch HI.out.1 (by simp)))
      have hlv : liveN s.all ≤ 1000 := by unfold liveN; exact Nat.le_trans (List.length_filter_le _ _) (by omega)
      clear HI hkk
      have hmk := run_make_blk (P := Try.prog) Try.underlying60 info5 rfl z (by omega) (by omega) .i64
      have hmk2 := run_make_blk (P := Try.prog) Try.underlying73 info4 rfl z (by omega) (by omega) .i64
      go_upto_region 13 with (go_at_call 23; refine HC.out.mono ?_; rintro e w1 ⟨rfl, ht1⟩; have HT1 := toHid (HT.out.trans ht1 (by simp)); clear ht1)
      go_cut [12] from 85 to 91 (fun v wx => ∃ p g1 g2, v = .pointer (some ⟨p, 0, none⟩) ∧ Hid (New3 w1 wx base z perm p g1 g2 (List.replicate 0 (decide (perm < 4)) ++ List.replicate (z - 0) false)))
      case first =>
        go_region
        all_goals (try go_wp2_with fail)
        all_goals go_meet
        all_goals first
          | (refine ⟨_, w1.heap.size, w1.heap.size + 1, rfl, toHid ?_⟩; (refine ⟨?_, ?_, ?_, ((((Touch.refl _ _).alloc _).alloc _).alloc _).drew, ?_, ?_, ?_, ?_, ?_, ?_⟩ <;> first | omega | (refine Blk.drew (Blk.newN ?_ ?_) <;> simp [slV] <;> done) | (refine Blk.drew ((Blk.newN ?_ ?_).alloc _) <;> simp [slV] <;> done) | (refine Blk.drew (((Blk.newN ?_ ?_).alloc _).alloc _) <;> simp [slV] <;> done)); done)
          | (refine ⟨_, w1.heap.size, w1.heap.size + 1 + 1, rfl, toHid ?_⟩; (refine ⟨?_, ?_, ?_, ((((Touch.refl _ _).alloc _).alloc _).alloc _).drew, ?_, ?_, ?_, ?_, ?_, ?_⟩ <;> first | omega | (refine Blk.drew (Blk.newN ?_ ?_) <;> simp [slV] <;> done) | (refine Blk.drew ((Blk.newN ?_ ?_).alloc _) <;> simp [slV] <;> done) | (refine Blk.drew (((Blk.newN ?_ ?_).alloc _).alloc _) <;> simp [slV] <;> done)); done)
          | (refine ⟨_, w1.heap.size + 1, w1.heap.size, rfl, toHid ?_⟩; (refine ⟨?_, ?_, ?_, ((((Touch.refl _ _).alloc _).alloc _).alloc _).drew, ?_, ?_, ?_, ?_, ?_, ?_⟩ <;> first | omega | (refine Blk.drew (Blk.newN ?_ ?_) <;> simp [slV] <;> done) | (refine Blk.drew ((Blk.newN ?_ ?_).alloc _) <;> simp [slV] <;> done) | (refine Blk.drew (((Blk.newN ?_ ?_).alloc _).alloc _) <;> simp [slV] <;> done)); done)
          | (refine ⟨_, w1.heap.size + 1, w1.heap.size + 1 + 1, rfl, toHid ?_⟩; (refine ⟨?_, ?_, ?_, ((((Touch.refl _ _).alloc _).alloc _).alloc _).drew, ?_, ?_, ?_, ?_, ?_, ?_⟩ <;> first | omega | (refine Blk.drew (Blk.newN ?_ ?_) <;> simp <;> done) | (refine Blk.drew ((Blk.newN ?_ ?_).alloc _) <;> simp [slV] <;> done) | (refine Blk.drew (((Blk.newN ?_ ?_).alloc _).alloc _) <;> simp [slV] <;> done)); done)
          | (refine ⟨_, w1.heap.size + 1 + 1, w1.heap.size, rfl, toHid ?_⟩; (refine ⟨?_, ?_, ?_, ((((Touch.refl _ _).alloc _).alloc _).alloc _).drew, ?_, ?_, ?_, ?_, ?_, ?_⟩ <;> first | omega | (refine Blk.drew (Blk.newN ?_ ?_) <;> simp <;> done) | (refine Blk.drew ((Blk.newN ?_ ?_).alloc _) <;> simp [slV] <;> done) | (refine Blk.drew (((Blk.newN ?_ ?_).alloc _).alloc _) <;> simp [slV] <;> done)); done)
          | (refine ⟨_, w1.heap.size + 1 + 1, w1.heap.size + 1, rfl, toHid ?_⟩; (refine ⟨?_, ?_, ?_, ((((Touch.refl _ _).alloc _).alloc _).alloc _).drew, ?_, ?_, ?_, ?_, ?_, ?_⟩ <;> first | omega | (refine Blk.drew (Blk.newN ?_ ?_) <;> simp <;> done) | (refine Blk.drew ((Blk.newN ?_ ?_).alloc _) <;> simp <;> done) | (refine Blk.drew (((Blk.newN ?_ ?_).alloc _).alloc _) <;> simp [slV] <;> done)); done)
      case rest =>
        obtain ⟨p, g1, g2, rfl, H3⟩ := hcut
        have c4 : wc.cell? ⟨p, 4, none⟩ = some _ := H3.out.self.cell rfl
        simp only [slV_some] at c4
        go_wp2
        generalize decide (4096 ≤ (liveN s.all : Int)) = t6
        generalize hbp : decide (perm < 4) = bp at H3
        have HBP := toHid hbp
        go_loopw [95] (fun t w' => ∃ k : Nat, k ≤ z ∧ t = .int .i64 k ∧ Hid (New3 w1 w' base z perm p g1 g2 (List.replicate k bp ++ List.replicate (z - k) false))) (fun t _ => z - (intOf t).toNat)
        case atStart => exact ⟨0, by omega, rfl, H3⟩
        case round =>
          obtain ⟨k2, hk2, rfl, HI⟩ := hrel
          clear c4
          by_cases hlt2 : k2 < z
          · have c4 : wr.cell? ⟨p, 4, none⟩ = some _ := HI.out.self.cell rfl
            simp only [slV_some] at c4
            have d2 := HI.out.sets.cellN (i := k2) (by simp; omega)
            have f2 := HI.out.sets.frozen k2
            have HN := toHid (HI.out.put k2 bp)
            rw [fill_step z k2 bp hlt2] at HN
            clear HI H3 HC hmk hmk2
            go_wp2
            refine ⟨⟨k2 + 1, by omega, by go_num, HN⟩, by simp [intOf]; omega⟩
          · have hkz : k2 = z := by omega
            rw [hkz, Nat.sub_self, List.replicate_zero, List.append_nil, ← HBP.out] at HI
            have HL := toHid (radd_last HM.out (HT1.out.trans HI.out.touch (by simp)) HT1.out.size HI.out hlen hb0 hz1 hz2 hfit hp0 hp1 HNB.out)
            obtain ⟨g', cap', w', ha, hb⟩ := HL.out
            obtain ⟨q0, q1, q2, q3, q4, q5, q6, q7⟩ := hb.out
            have HA := toHid ha
            have HE := toHid q7
            have c0 : wr.cell? ⟨p, 0, none⟩ = some _ := HI.out.self.cell rfl
            have c1 : wr.cell? ⟨p, 1, none⟩ = some _ := HI.out.self.cell rfl
            have c2 : wr.cell? ⟨p, 2, none⟩ = some _ := HI.out.self.cell rfl
            have c3 : wr.cell? ⟨p, 3, none⟩ = some _ := HI.out.self.cell rfl
            have c4 : wr.cell? ⟨p, 4, none⟩ = some _ := HI.out.self.cell rfl
            simp only [slV_some] at c3 c4
            simp only [slV] at HA HE q0 q1 q3
            clear ha hb q7 HI HL H3 HC hmk hmk2 hkz
            go_wp2_with fail
            go_region_law (refine step_append_known rfl (.tmp 109) (.tmp 111) 27 27 rfl (.slice (s.g.map fun b => ⟨b, 0, none⟩) s.all.length s.cap) (.slice (some ⟨wr.heap.size, 0, none⟩) 1 1) (by simp [Act.eval]) (by simp [Act.eval]) HA.out ?_)
            all_goals go_wp2
            all_goals go_ret2
            all_goals exact HE.out

theorem radd_good {w : World} {s : RS} (h : RefAt w s) (base : Int) (z : Nat) (perm : Int) (hb0 : 0 ≤ base) (hz1 : 1 ≤ z) (hz2 : z ≤ 65536) (hfit : base + z ≤ 18446744073709551616) (hp0 : 0 ≤ perm) (hp1 : perm ≤ 7) (hlen : s.all.length < 1000) :
    Calls Try.prog 9 #[.pointer (some ⟨s.m, 0, none⟩), .int .u64 base, .int .i64 z, .int .i64 perm] w (RAddPost w s base z perm) := by
  obtain hg | ⟨b, hg⟩ : s.g = none ∨ ∃ b, s.g = some b := by cases s.g <;> simp
  · exact radd_none h hg base z perm hb0 hz1 hz2 hfit hp0 hp1 hlen
  · exact radd_some h hg base z perm hb0 hz1 hz2 hfit hp0 hp1 hlen

end Go.Proofs.Ytkfmhabplcikiaa.Mem
