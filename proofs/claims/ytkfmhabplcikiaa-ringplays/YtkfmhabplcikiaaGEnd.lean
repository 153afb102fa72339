/-
  Package ring: end.
-/
import Derived.Test.YtkfmhabplcikiaaGOps
namespace Go.Proofs.Ytkfmhabplcikiaa.Ring
open Go.RowKit
attribute [local go_sem ↓] Go.wp_at_zero Go.wp_at_succ

theorem cells_set {x : RG} (h8 : x.recs.length = 8) {n : Nat} (hn : n < 8) (o : Option Nat) : (x.cells.set (1 + n * 2) (.bool o.isSome)).set (1 + n * 2 + 1) (.int .i64 (idI o)) = ({ x with recs := x.recs.set n o } : RG).cells := by
  obtain ⟨r, m, recs, g, cap, l⟩ := x
  dsimp only at h8
  obtain ⟨a0, a1, a2, a3, a4, a5, a6, a7, rfl⟩ := eightL h8
  obtain rfl | rfl | rfl | rfl | rfl | rfl | rfl | rfl : n = 0 ∨ n = 1 ∨ n = 2 ∨ n = 3 ∨ n = 4 ∨ n = 5 ∨ n = 6 ∨ n = 7 := by omega
  all_goals rfl
theorem rec_at {x : RG} (h8 : x.recs.length = 8) {n : Nat} {o : Option Nat} (hn : x.recs[n]? = some o) : x.cells[1 + n * 2]? = some (.bool o.isSome) ∧ x.cells[1 + n * 2 + 1]? = some (.int .i64 (idI o)) := by
  have hn8 : n < 8 := by have := (List.getElem?_eq_some_iff.1 hn).1; omega
  obtain ⟨r, m, recs, g, cap, l⟩ := x
  dsimp only at h8 hn
  obtain ⟨a0, a1, a2, a3, a4, a5, a6, a7, rfl⟩ := eightL h8
  obtain rfl | rfl | rfl | rfl | rfl | rfl | rfl | rfl : n = 0 ∨ n = 1 ∨ n = 2 ∨ n = 3 ∨ n = 4 ∨ n = 5 ∨ n = 6 ∨ n = 7 := by omega
  all_goals
    simp at hn
    subst hn
    exact ⟨rfl, rfl⟩
theorem rec_cell {w : World} {x : RG} (h : RingAt w x) {n : Nat} {o : Option Nat} (hn : x.recs[n]? = some o) : w.cell? ⟨x.r, 1 + n * 2, none⟩ = some (.bool o.isSome) ∧ w.cell? ⟨x.r, 1 + n * 2 + 1, none⟩ = some (.int .i64 (idI o)) :=
  ⟨h.self.cell (rec_at h.eight hn).1, h.self.cell (rec_at h.eight hn).2⟩
/-- What a store of a record meets. -/
theorem rec_store {w : World} {x : RG} {b : Nat} (hB : Blk w b x.cells 82) (h8 : x.recs.length = 8) {n : Nat} {o : Option Nat} (hn : x.recs[n]? = some o) (v : Value) :
    w.cell? ⟨b, 1 + n * 2, none⟩ = some (.bool o.isSome) ∧ w.frozen? ⟨b, 1 + n * 2, none⟩ = false ∧ (w.setCell ⟨b, 1 + n * 2, none⟩ v).cell? ⟨b, 1 + n * 2 + 1, none⟩ = some (.int .i64 (idI o)) ∧ (w.setCell ⟨b, 1 + n * 2, none⟩ v).frozen? ⟨b, 1 + n * 2 + 1, none⟩ = false := by
  obtain ⟨h1, h2⟩ := rec_at h8 hn
  have hB2 := hB.setCell (1 + n * 2) v
  refine ⟨hB.cell h1, hB.frozen _, hB2.cell ?_, hB2.frozen _⟩
  rw [List.getElem?_set_ne (by omega)]
  exact h2
theorem id_eq {w : World} {s : Mem.MS} (h : Mem.MemAt w s) {r r2 : Mem.Reg} (hr : r ∈ s.rs) (hr2 : r2 ∈ s.rs) (hid : r2.id = r.id) : r2 = r := by
  have h1 := Mem.regOf_some h hr
  have h2 := Mem.regOf_some h hr2
  rw [hid, h1] at h2
  injection h2 with h2
  exact h2.symm
/-- Other blocks of a ring, behind a step of its memory and one of its own record's cells. -/
theorem GBoth.turn {w w1 : World} {x : RG} {s s' : Mem.MS} (h : GBoth w x s) (hM : Mem.MemAt w1 s') (ht : Touch s.blocks w w1) (hown : Mem.Own w s s') {n : Nat} (hn : n < 8) (o : Option Nat)
    (hheld : ∀ n' i' : Nat, (x.recs.set n o)[n']? = some (some i') → ∃ r ∈ s'.rs, r.id = i' ∧ r.base = placeI n' ∧ r.bytes.length ≤ 64) :
    GStep w ((w1.setCell ⟨x.r, 1 + n * 2, none⟩ (.bool o.isSome)).setCell ⟨x.r, 1 + n * 2 + 1, none⟩ (.int .i64 (idI o))) x { x with recs := x.recs.set n o } s s' := by
  have hz := ht.size
  have hR := h.ring.touch ht h.apart
  have hxr : x.r ∈ x.blocks := by simp [RG.blocks]
  have htt : Touch [x.r] w1 ((w1.setCell ⟨x.r, 1 + n * 2, none⟩ (.bool o.isSome)).setCell ⟨x.r, 1 + n * 2 + 1, none⟩ (.int .i64 (idI o))) := ((Touch.refl _ _).setCell _ _ (Or.inl (by simp))).setCell _ _ (Or.inl (by simp))
  have hap : ∀ b ∈ x.blocks, b ∉ s'.blocks := fun b hb hx => by
    rcases hown.2 b hx with h1 | h1
    · exact h.apart b hb h1
    · have := h.ring.lt b hb
      omega
  refine ⟨⟨⟨?_, by simpa using hR.eight, hR.rows.touch htt (fun b hb hx => ?_), hR.own⟩, hM.touch htt (fun b hb hx => ?_), h.at_.trans hown.1.symm, hap, hheld⟩, rfl, hown.1, ?_, fun b hb => Or.inl hb, hown.2⟩
  · have := ((hR.self.setCell (1 + n * 2) (.bool o.isSome)).setCell (1 + n * 2 + 1) (.int .i64 (idI o)))
    rw [cells_set hR.eight hn] at this
    exact this
  · simp only [List.mem_singleton] at hx
    subst hx
    exact hR.own hb
  · simp only [List.mem_singleton] at hx
    subst hx
    exact hap _ hxr hb
  · exact (ht.mono (fun b hb => Or.inl (List.mem_append_right _ hb))).trans htt (fun b hb => by
      simp only [List.mem_singleton] at hb
      subst hb
      exact Or.inl (List.mem_append_left _ hxr))
theorem held_end {w : World} {x : RG} {s : Mem.MS} (h : GBoth w x s) {n i : Nat} (hn : x.recs[n]? = some (some i)) : ∀ n' i' : Nat, (x.recs.set n none)[n']? = some (some i') → ∃ r ∈ Mem.killRs s.rs i, r.id = i' ∧ r.base = placeI n' ∧ r.bytes.length ≤ 64 := fun n' i' hn' => by
  rw [List.getElem?_set] at hn'
  by_cases hnn : n = n'
  · subst hnn
    rw [if_pos rfl] at hn'
    split at hn' <;> simp at hn'
  · rw [if_neg hnn] at hn'
    obtain ⟨r, hr, h1, h2, h3⟩ := h.held n' i' hn'
    obtain ⟨r0, hr0, k1, k2, _⟩ := h.held n i hn
    refine ⟨r, ?_, h1, h2, h3⟩
    unfold Mem.killRs
    rw [List.mem_filter]
    refine ⟨hr, ?_⟩
    have : r.id ≠ i := fun he => by
      have := id_eq h.mem hr0 hr (by rw [he, k1])
      subst this
      rw [h2] at k2
      unfold placeI at k2
      omega
    simpa using this
set_option maxHeartbeats 4000000 in
set_option maxRecDepth 100000 in
theorem gend_any {w : World} {x : RG} {s : Mem.MS} (h : GBoth w x s) {n i : Nat} (hn : x.recs[n]? = some (some i)) :
    Calls Try.prog 34 #[.pointer (some ⟨x.r, 0, none⟩), .int .i64 (n : Int)] w fun e w' => e = .returned (.tuple #[]) ∧ ∃ s', s'.rs = Mem.killRs s.rs i ∧ s'.next = s.next ∧ GStep w w' x { x with recs := x.recs.set n none } s s' := by
  have h8 := h.ring.eight
  have hn8 : n < 8 := by have := (List.getElem?_eq_some_iff.1 hn).1; omega
  have hd := h.still (Touch.refl [] w).drew
  have H1 := toHid (Mem.kill_any hd.mem i)
  unfold Mem.KillPost at H1
  have HX : Hid (∀ w1 s', Mem.MemAt w1 s' → Touch s.blocks w.drew w1 → Mem.Own w.drew s s' → s'.rs = Mem.killRs s.rs i → GStep w ((w1.setCell ⟨x.r, 1 + n * 2, none⟩ (.bool false)).setCell ⟨x.r, 1 + n * 2 + 1, none⟩ (.int .i64 0)) x { x with recs := x.recs.set n none } s s') := fun w1 s' hM ht hown hrs =>
    h.turn hM ((Touch.refl _ w).drew.trans ht (fun b hb => Or.inl hb)) ⟨hown.1, hown.2⟩ hn8 none (by rw [hrs]; exact held_end h hn)
  have HR := toHid hd.ring
  have HC := toHid (rec_cell hd.ring hn).2
  have HAP : Hid (x.r ∉ s.blocks) := h.apart _ (by simp [RG.blocks])
  have hm : x.m = s.m := h.at_
  have HSS : Hid (∀ S w', Touch S w.drew w' → x.r ∉ S → w'.cell? ⟨x.r, 0, none⟩ = some (.pointer (some ⟨s.m, 0, none⟩)) ∧ w'.cell? ⟨x.r, 1 + n * 2 + 1, none⟩ = some (.int .i64 i)) := fun S w' ht hh => by
    have h9 := ht.blk HR.out.self hh
    have h10 := ht.cell HC.out hh
    refine ⟨?_, h10⟩
    rw [← hm]
    exact h9.cell rfl
  have hn0 : (0 : Int) ≤ n := by omega
  have hn8' : (n : Int) < 8 := by omega
  generalize hr : x.r = r at *
  have HRR := toHid hr
  clear h hd hr hm
  generalize s.m = M at *
  go_enter Try.func34, Try.ntmps34
  go_wp2_with fail
  refine wp_region_held_drew (S := fun w' => w'.cell? ⟨r, 0, none⟩ = some (.pointer (some ⟨M, 0, none⟩)) ∧ w'.cell? ⟨r, 1 + n * 2 + 1, none⟩ = some (.int .i64 i)) (by kernel_rfl) ?_ (fun hHeld => ?_)
  · exact HSS.out [] _ (Touch.refl _ _) (by simp)
  refine wpAnyH_take (i := 0) (v := ?_) rfl (by kernel_rfl) (by kernel_rfl) (by kernel_rfl) (fun _ _ _ h => h) (Or.inl ⟨by rfl, ?_⟩) (by assumption) ?_
  rotate_left
  · (intro w hSw; (try dsimp only at hSw); go_simp; try with_reducible rfl)
  simp only [Act.put, List.getElem_toArray, List.getElem_cons_zero, List.setIfInBounds_toArray, List.set_cons_zero, List.set_cons_succ]
  refine wpAnyH_take (i := 1) (v := ?_) rfl (by kernel_rfl) (by kernel_rfl) (by kernel_rfl) (fun _ _ _ h => h) (Or.inl ⟨by rfl, ?_⟩) (by assumption) ?_
  rotate_left
  · (intro w hSw; (try dsimp only at hSw); go_simp; try with_reducible rfl)
  simp only [Act.put, List.getElem_toArray, List.getElem_cons_zero, List.getElem_cons_succ, List.setIfInBounds_toArray, List.set_cons_zero, List.set_cons_succ]
  refine wpAnyH_take (i := 2) (v := ?_) rfl (by kernel_rfl) (by kernel_rfl) (by kernel_rfl) (fun _ _ _ h => h) (Or.inl ⟨by rfl, ?_⟩) (by assumption) ?_
  rotate_left
  · (intro w hSw; (try dsimp only at hSw); go_simp; try with_reducible rfl)
  simp only [Act.put, List.getElem_toArray, List.getElem_cons_zero, List.getElem_cons_succ, List.setIfInBounds_toArray, List.set_cons_zero, List.set_cons_succ]
  refine wpAnyH_take (i := 3) (v := ?_) rfl (by kernel_rfl) (by kernel_rfl) (by kernel_rfl) (fun _ _ _ h => h) (Or.inl ⟨by rfl, ?_⟩) (by assumption) ?_
  rotate_left
  · (intro w hSw; (try dsimp only at hSw); go_simp; try with_reducible rfl)
  simp only [Act.put, List.getElem_toArray, List.getElem_cons_zero, List.getElem_cons_succ, List.setIfInBounds_toArray, List.set_cons_zero, List.set_cons_succ]
  refine wpAnyH_take (i := 4) (v := ?_) rfl (by kernel_rfl) (by kernel_rfl) (by kernel_rfl) (fun _ _ _ h => h) (Or.inl ⟨by rfl, ?_⟩) (by assumption) ?_
  rotate_left
  · (intro w hSw; (try dsimp only at hSw); go_simp; try with_reducible rfl)
  simp only [Act.put, List.getElem_toArray, List.getElem_cons_zero, List.getElem_cons_succ, List.setIfInBounds_toArray, List.set_cons_zero, List.set_cons_succ]
  refine wpAnyH_take (i := 5) (v := ?_) rfl (by kernel_rfl) (by kernel_rfl) (by kernel_rfl) (fun _ _ _ h => h) (Or.inl ⟨by rfl, ?_⟩) (by assumption) ?_
  rotate_left
  · (intro w hSw; (try dsimp only at hSw); go_simp; try with_reducible rfl)
  simp only [Act.put, List.getElem_toArray, List.getElem_cons_zero, List.getElem_cons_succ, List.setIfInBounds_toArray, List.set_cons_zero, List.set_cons_succ]
  refine wpAnyH_take (i := 6) (v := ?_) rfl (by kernel_rfl) (by kernel_rfl) (by kernel_rfl) (fun _ _ _ h => h) (Or.inl ⟨by rfl, ?_⟩) (by assumption) ?_
  rotate_left
  · (intro w hSw; (try dsimp only at hSw); go_simp; try with_reducible rfl)
  simp only [Act.put, List.getElem_toArray, List.getElem_cons_zero, List.getElem_cons_succ, List.setIfInBounds_toArray, List.set_cons_zero, List.set_cons_succ]
  refine wpAnyH_take (i := 7) (v := ?_) rfl (by kernel_rfl) (by kernel_rfl) (by kernel_rfl) (fun _ _ _ h => h) (Or.inl ⟨by rfl, ?_⟩) (by assumption) ?_
  rotate_left
  · (intro w hSw; (try dsimp only at hSw); go_simp; try with_reducible rfl)
  simp only [Act.put, List.getElem_toArray, List.getElem_cons_zero, List.getElem_cons_succ, List.setIfInBounds_toArray, List.set_cons_zero, List.set_cons_succ]
  refine wpAnyH_take (i := 8) (v := ?_) rfl (by kernel_rfl) (by kernel_rfl) (by kernel_rfl) (fun _ _ _ h => h) (Or.inl ⟨by rfl, ?_⟩) (by assumption) ?_
  rotate_left
  · (intro w hSw; (try dsimp only at hSw); go_simp; try with_reducible rfl)
  simp only [Act.put, List.getElem_toArray, List.getElem_cons_zero, List.getElem_cons_succ, List.setIfInBounds_toArray, List.set_cons_zero, List.set_cons_succ]
  refine wpAnyH_take (i := 9) (v := ?_) rfl (by kernel_rfl) (by kernel_rfl) (by kernel_rfl) (fun _ _ _ h => h) (Or.inl ⟨by rfl, ?_⟩) (by assumption) ?_
  rotate_left
  · (intro w hSw; (try dsimp only at hSw); go_simp; try with_reducible rfl)
  simp only [Act.put, List.getElem_toArray, List.getElem_cons_zero, List.getElem_cons_succ, List.setIfInBounds_toArray, List.set_cons_zero, List.set_cons_succ]
  refine wpAnyH_take (i := 10) (v := ?_) rfl (by kernel_rfl) (by kernel_rfl) (by kernel_rfl) (fun _ _ _ h => h) (Or.inl ⟨by rfl, ?_⟩) (by assumption) ?_
  rotate_left
  · (intro w hSw; (try dsimp only at hSw); go_simp; try with_reducible rfl)
  simp only [Act.put, List.getElem_toArray, List.getElem_cons_zero, List.getElem_cons_succ, List.setIfInBounds_toArray, List.set_cons_zero, List.set_cons_succ]
  refine wpAnyH_ready (rs := [11]) (by kernel_rfl) (by simp) ?_
  refine AllReadyH.cons rfl (fun K hK => ?_) AllReadyH.nil
  simp only [List.getElem_toArray, List.getElem_cons_zero, List.getElem_cons_succ]
  go_simp
  refine Calls.mono H1.out ?_; rintro e w2 ⟨rfl, ht2, s', hM', hown, hnx, hrs⟩; have HM := toHid (And.intro hM' (And.intro ht2 (And.intro hown (And.intro hnx hrs)))); clear hM' ht2 hown hnx hrs
  go_wp2_with fail
  refine hK.out _ _ ?_ (fun hHeld => ?_)
  · exact HSS.out _ _ HM.out.2.1 HAP.out
  clear hK K
  try simp only [Act.put, List.getElem_toArray, List.getElem_cons_zero, List.getElem_cons_succ, List.setIfInBounds_toArray, List.set_cons_zero, List.set_cons_succ]
  refine wpAnyH_done (by kernel_rfl) ?_ _
  clear hHeld
  have hRR := HR.out
  have hB2 : Blk w2 r x.cells 82 := by
    have := HM.out.2.1.blk HR.out.self (by rw [HRR.out]; exact HAP.out)
    rw [HRR.out] at this
    exact this
  obtain ⟨d1, d2, d3, d4⟩ := rec_store hB2 h8 hn (.bool false)
  go_wp2
  go_end0
  exact ⟨rfl, s', HM.out.2.2.2.2, HM.out.2.2.2.1, HX.out _ _ HM.out.1 HM.out.2.1 HM.out.2.2.1 HM.out.2.2.2.2⟩
end Go.Proofs.Ytkfmhabplcikiaa.Ring
