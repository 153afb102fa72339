/-
  Copy: an equal memory that shares nothing with the first.
-/
import Derived.Test.YtbidppeelophhaaTwin
namespace Go.Proofs.Ytbidppeelophhaa
open Go.RowKit
attribute [local go_sem ↓] Go.wp_at_zero Go.wp_at_succ

/-- Equal regions, but for where they lie. -/
structure Like (r r2 : Reg) : Prop where
  id : r2.id = r.id
  base : r2.base = r.base
  perm : r2.perm = r.perm
  bytes : r2.bytes = r.bytes
  set : r2.set = r.set
  sb : r2.sb = none ↔ r.sb = none

/-- What stands behind k rounds. -/
structure CopyAt (w w' : World) (s : MS) (C G : Nat) (k : Nat) (rs : List Reg) : Prop where
  len : rs.length = k
  like : ∀ i, i < k → Like (s.rs.getD i Reg.zero) (rs.getD i Reg.zero)
  row : Blk w' G (rs.map Reg.ptr ++ List.replicate (s.rs.length - k) (.pointer none)) 79
  self : Blk w' C [.slice (some ⟨G, 0, none⟩) s.rs.length s.rs.length, .int .i64 s.next] 67
  regs : ∀ r ∈ rs, RegAt w' r ∧ RegOk r ∧ ∀ x ∈ r.blocks, w.heap.size ≤ x ∧ x ≠ C ∧ x ≠ G
  apart : (rs.flatMap Reg.blocks).Nodup
  touch : Touch [] w w'

theorem CopyAt.step {w wr w2 : World} {s : MS} {C G k : Nat} {rs : List Reg} (h : CopyAt w wr s C G k rs) (hCG : C ≠ G) (ht : Touch [] wr w2) {r2 : Reg} (hr : RegAt w2 r2) (ok : RegOk r2) (hl : Like (s.rs.getD k Reg.zero) r2) (hb : ∀ x ∈ r2.blocks, wr.heap.size ≤ x)
    (hk : k < s.rs.length) (hG : w.heap.size ≤ G) : CopyAt w (w2.setCell ⟨G, k, none⟩ r2.ptr) s C G (k + 1) (rs ++ [r2]) := by
  have hGl : G < wr.heap.size := h.row.lt
  have hCl : C < wr.heap.size := h.self.lt
  have hsz := h.touch.size
  refine ⟨by simp [h.len], fun i hi => ?_, ?_, ?_, fun r hr' => ?_, ?_, ?_⟩
  · by_cases hik : i < k
    · rw [List.getD_eq_getElem?_getD (l := rs ++ [r2]), List.getElem?_append_left (by rw [h.len]; exact hik), ← List.getD_eq_getElem?_getD]
      exact h.like i hik
    · obtain rfl : i = k := by omega
      rw [List.getD_eq_getElem?_getD (l := rs ++ [r2]), List.getElem?_append_right (by rw [h.len]; omega), h.len]
      simpa using hl
  · have h1 := (ht.blk h.row (by simp)).setCell k r2.ptr
    have e : (rs.map Reg.ptr ++ List.replicate (s.rs.length - k) (Value.pointer none)).set k r2.ptr = (rs ++ [r2]).map Reg.ptr ++ List.replicate (s.rs.length - (k + 1)) (.pointer none) := by
      rw [show s.rs.length - k = (s.rs.length - (k + 1)) + 1 by omega, List.replicate_succ]
      have hlen : (rs.map Reg.ptr).length = k := by simp [h.len]
      rw [List.set_append_right _ _ (by omega), hlen]
      simp
    rw [e] at h1
    exact h1
  · exact (ht.blk h.self (by simp)).setCell_other _ _ hCG
  · rcases List.mem_append.1 hr' with hr' | hr'
    · obtain ⟨h1, h2, h3⟩ := h.regs r hr'
      exact ⟨(h1.touch ht (by simp)).touch ((Touch.refl [G] w2).setCell _ _ (Or.inl (by simp))) (fun x hx => by simp; exact (h3 x hx).2.2), h2, h3⟩
    · simp at hr'
      subst hr'
      refine ⟨hr.touch ((Touch.refl [G] w2).setCell _ _ (Or.inl (by simp))) (fun x hx => ?_), ok, fun x hx => ?_⟩
      · have := hb x hx
        simp
        omega
      · have := hb x hx
        exact ⟨by omega, by omega, by omega⟩
  · rw [List.flatMap_append, List.nodup_append]
    refine ⟨h.apart, by simpa using ok.own, fun x hx y hy e => ?_⟩
    subst e
    obtain ⟨r, hr1, hr2⟩ := List.mem_flatMap.1 hx
    have h1 := (h.regs r hr1).1.lt x hr2
    have h2 := hb x (by simpa using hy)
    omega
  · exact (h.touch.trans ht (by simp)).setCell _ _ (Or.inr hG)

set_option maxHeartbeats 2000000 in
set_option maxRecDepth 100000 in
theorem copy_any {w : World} {s : MS} (h : MemAt w s) : Calls Try.prog 14 #[.pointer (some ⟨s.m, 0, none⟩)] w fun e w' => ∃ C G rs, e = .returned (.pointer (some ⟨C, 0, none⟩)) ∧ CopyAt w w' s C G s.rs.length rs ∧ C ≠ G ∧ w.heap.size ≤ C ∧ w.heap.size ≤ G := by
  have c0 := h.c0
  have c1 := h.c1
  have hmk := run_make_blk (P := Try.prog) Try.underlying65 info79 rfl s.rs.length (by have := h.many; omega) (by have := h.many; omega) .i64
  have hmany := h.many
  have HM := toHid h
  unfold slV at c0
  generalize hsg : (s.g.map fun b => (⟨b, 0, none⟩ : Addr)) = sg at *
  generalize hn : s.rs.length = n at *
  generalize s.cap = cap at *
  have HN := toHid (And.intro hsg hn)
  clear h hsg hn
  go_enter Try.func14, Try.ntmps14
  go_wp2_with fail
  refine wp_region_held_drew (S := (fun w' => w'.cell? ⟨s.m, 0, none⟩ = some (.slice sg n cap) ∧ w'.cell? ⟨s.m, 1, none⟩ = some (.int .i64 s.next))) (by kernel_rfl) ?_ (fun hHeld => ?_)
  · exact ⟨c0, c1⟩
  refine wpAnyH_take (i := 0) (v := ?_) rfl (by kernel_rfl) (by kernel_rfl) (by kernel_rfl) (fun _ _ _ h => h) (Or.inl ⟨by rfl, ?_⟩) (by assumption) ?_
  rotate_left
  · (intro w hSw; (try dsimp only at hSw); go_simp; try with_reducible rfl)
  simp only [Act.put, List.getElem_toArray, List.getElem_cons_zero, List.setIfInBounds_toArray, List.set_cons_zero, List.set_cons_succ]
  refine wpAnyH_take (i := 1) (v := ?_) rfl (by kernel_rfl) (by kernel_rfl) (by kernel_rfl) (fun _ _ _ h => h) (Or.inl ⟨by rfl, ?_⟩) (by assumption) ?_
  rotate_left
  · (intro w hSw; (try dsimp only at hSw); go_simp; try with_reducible rfl)
  simp only [Act.put, List.getElem_toArray, List.getElem_cons_zero, List.getElem_cons_succ, List.setIfInBounds_toArray, List.set_cons_zero, List.set_cons_succ]
  refine wpAnyH_take (i := 2) (v := ?_) rfl (by kernel_rfl) (by kernel_rfl) (by kernel_rfl) (fun _ _ _ h => h) (Or.inl ⟨by rfl, ?_⟩) (by assumption) ?_
  rotate_left
  · (intro w hSw; (try dsimp only at hSw); go_simp; try with_reducible rfl)
  simp only [Act.put, List.getElem_toArray, List.getElem_cons_zero, List.getElem_cons_succ, List.setIfInBounds_toArray, List.set_cons_zero, List.set_cons_succ]
  refine wpAnyH_take (i := 3) (v := ?_) rfl (by kernel_rfl) (by kernel_rfl) (by kernel_rfl) (fun _ _ _ h => h) (Or.inl ⟨by rfl, ?_⟩) (by assumption) ?_
  rotate_left
  · (intro w hSw; (try dsimp only at hSw); go_simp; try with_reducible rfl)
  simp only [Act.put, List.getElem_toArray, List.getElem_cons_zero, List.getElem_cons_succ, List.setIfInBounds_toArray, List.set_cons_zero, List.set_cons_succ]
  refine wpAnyH_take (i := 4) (v := ?_) rfl (by kernel_rfl) (by kernel_rfl) (by kernel_rfl) (fun _ _ _ h => h) (Or.inl ⟨by rfl, ?_⟩) (by assumption) ?_
  rotate_left
  · (intro w hSw; (try dsimp only at hSw); go_simp; try with_reducible rfl)
  simp only [Act.put, List.getElem_toArray, List.getElem_cons_zero, List.getElem_cons_succ, List.setIfInBounds_toArray, List.set_cons_zero, List.set_cons_succ]
  refine wpAnyH_take (i := 6) (v := ?_) rfl (by kernel_rfl) (by kernel_rfl) (by kernel_rfl) (fun _ _ _ h => h) (Or.inl ⟨by rfl, ?_⟩) (by assumption) ?_
  rotate_left
  · (intro w hSw; (try dsimp only at hSw); go_simp; try with_reducible rfl)
  simp only [Act.put, List.getElem_toArray, List.getElem_cons_zero, List.getElem_cons_succ, List.setIfInBounds_toArray, List.set_cons_zero, List.set_cons_succ]
  refine wpAnyH_take (i := 7) (v := ?_) rfl (by kernel_rfl) (by kernel_rfl) (by kernel_rfl) (fun _ _ _ h => h) (Or.inl ⟨by rfl, ?_⟩) (by assumption) ?_
  rotate_left
  · (intro w hSw; (try dsimp only at hSw); go_simp; try with_reducible rfl)
  simp only [Act.put, List.getElem_toArray, List.getElem_cons_zero, List.getElem_cons_succ, List.setIfInBounds_toArray, List.set_cons_zero, List.set_cons_succ]
  refine wpAnyH_take (i := 8) (v := ?_) rfl (by kernel_rfl) (by kernel_rfl) (by kernel_rfl) (fun _ _ _ h => h) (Or.inl ⟨by rfl, ?_⟩) (by assumption) ?_
  rotate_left
  · (intro w hSw; (try dsimp only at hSw); go_simp; try with_reducible rfl)
  simp only [Act.put, List.getElem_toArray, List.getElem_cons_zero, List.getElem_cons_succ, List.setIfInBounds_toArray, List.set_cons_zero, List.set_cons_succ]
  refine wpAnyH_take (i := 9) (v := ?_) rfl (by kernel_rfl) (by kernel_rfl) (by kernel_rfl) (fun _ _ _ h => h) (Or.inl ⟨by rfl, ?_⟩) (by assumption) ?_
  rotate_left
  · (intro w hSw; (try dsimp only at hSw); go_simp; try with_reducible rfl)
  simp only [Act.put, List.getElem_toArray, List.getElem_cons_zero, List.getElem_cons_succ, List.setIfInBounds_toArray, List.set_cons_zero, List.set_cons_succ]
  refine wpAnyH_ready (rs := [5]) (by kernel_rfl) (by simp) ?_
  refine AllReadyH.cons rfl (fun K hK => ?_) AllReadyH.nil
  simp only [List.getElem_toArray, List.getElem_cons_zero, List.getElem_cons_succ]
  go_simp
  refine hK.out _ _ ?_ (fun hHeld => ?_)
  · exact ⟨((Touch.refl [] w).drew.alloc _).cell c0 (by simp), ((Touch.refl [] w).drew.alloc _).cell c1 (by simp)⟩
  clear hK K
  try simp only [Act.put, List.getElem_toArray, List.getElem_cons_zero, List.getElem_cons_succ, List.setIfInBounds_toArray, List.set_cons_zero, List.set_cons_succ]
  refine wpAnyH_take (i := 10) (v := ?_) rfl (by kernel_rfl) (by kernel_rfl) (by kernel_rfl) (fun _ _ _ h => h) (Or.inl ⟨by rfl, ?_⟩) (by assumption) ?_
  rotate_left
  · (intro w hSw; (try dsimp only at hSw); go_simp; try with_reducible rfl)
  simp only [Act.put, List.getElem_toArray, List.getElem_cons_zero, List.getElem_cons_succ, List.setIfInBounds_toArray, List.set_cons_zero, List.set_cons_succ]
  refine wpAnyH_ready (rs := [11]) (by kernel_rfl) (by simp) ?_
  refine AllReadyH.cons rfl (fun K hK => ?_) AllReadyH.nil
  simp only [List.getElem_toArray, List.getElem_cons_zero, List.getElem_cons_succ]
  go_simp
  refine hK.out _ _ ?_ (fun hHeld => ?_)
  · exact ⟨(((Touch.refl [] w).drew.alloc _).alloc _).cell c0 (by simp), (((Touch.refl [] w).drew.alloc _).alloc _).cell c1 (by simp)⟩
  clear hK K
  try simp only [Act.put, List.getElem_toArray, List.getElem_cons_zero, List.getElem_cons_succ, List.setIfInBounds_toArray, List.set_cons_zero, List.set_cons_succ]
  refine wpAnyH_ready (rs := [12]) (by kernel_rfl) (by simp) ?_
  refine AllReadyH.cons rfl (fun K hK => ?_) AllReadyH.nil
  simp only [List.getElem_toArray, List.getElem_cons_zero, List.getElem_cons_succ]
  go_simp
  refine hK.out _ _ ?_ (fun hHeld => ?_)
  · exact hHeld
  clear hK K
  try simp only [Act.put, List.getElem_toArray, List.getElem_cons_zero, List.getElem_cons_succ, List.setIfInBounds_toArray, List.set_cons_zero, List.set_cons_succ]
  refine wpAnyH_done (by kernel_rfl) ?_ _
  clear c0 c1
  go_wp2_with fail
  have hG := ((Blk.newA w (Array.replicate n (Value.pointer none)) (List.replicate n (.pointer none)) 79 (by simp)).alloc (.cells #[.slice (some ⟨w.heap.size, 0, none⟩) n n, .int .i64 s.next] 67)).drew
  have hC := (Blk.newA (w.alloc (.cells (Array.replicate n (Value.pointer none)) 79)) #[.slice (some ⟨w.heap.size, 0, none⟩) n n, .int .i64 s.next] _ 67 rfl).drew
  rw [World.size_alloc] at hC
  have hT := (((Touch.refl [] w).alloc (.cells (Array.replicate n (Value.pointer none)) 79)).alloc (.cells #[.slice (some ⟨w.heap.size, 0, none⟩) n n, .int .i64 s.next] 67)).drew
  have HZ : Hid (CopyAt w ((w.alloc (.cells (Array.replicate n (Value.pointer none)) 79)).alloc (.cells #[.slice (some ⟨w.heap.size, 0, none⟩) n n, .int .i64 s.next] 67)).drew s (w.heap.size + 1) w.heap.size 0 []) := by
    refine ⟨rfl, fun i hi => absurd hi (by omega), ?_, ?_, fun r hr => absurd hr (by simp), by simp, hT⟩
    · rw [HN.out.2]
      simpa using hG
    · rw [HN.out.2]
      exact hC
  clear hG hC hT hHeld
  go_loopw [25] (fun x w' => ∃ k : Nat, k ≤ n ∧ x = .int .i64 k ∧ Hid (∃ rs, CopyAt w w' s (w.heap.size + 1) w.heap.size k rs)) (fun x _ => n - (intOf x).toNat)
  case atStart => exact ⟨0, by omega, rfl, [], HZ.out⟩
  case round =>
    obtain ⟨k, hk, rfl, HI⟩ := hrel
    obtain ⟨rs, hI⟩ := HI.out
    by_cases hlt : k < n
    · have hkl : k < s.rs.length := by rw [HN.out.2]; exact hlt
      obtain ⟨b, hb⟩ : ∃ b, s.g = some b := by
        cases hg : s.g with
        | none => have := (HM.out.nil hg).1; rw [this] at hkl; simp at hkl
        | some b => exact ⟨b, rfl⟩
      have hsg := HN.out.1
      rw [hb] at hsg
      simp only [Option.map_some] at hsg
      subst hsg
      have hrm := getD_mem hkl
      have q0 := hI.touch.cell (HM.out.ptrAt hb hkl) (by simp)
      have hreg := (HM.out.regs _ hrm).touch hI.touch (by simp)
      have hok := HM.out.ok _ hrm
      have HTW := toHid (twin_any (hreg.touch ((Touch.refl [] wr).drew) (by simp)) hok)
      have hs1 := hI.self
      rw [HN.out.2] at hs1
      have q1 := hs1.cell (i := 0) rfl
      have hrl : (rs.map Reg.ptr ++ List.replicate (s.rs.length - k) (Value.pointer none)).length = n := by
        simp [hI.len, HN.out.2]; omega
      generalize hr : s.rs.getD k Reg.zero = r at *
      simp only [Reg.ptr] at HTW
      have hki : (k : Int) < n := by omega
      have HII := toHid hI
      have HRL := toHid hrl
      have HRR := toHid hr
      clear hI HI hreg hs1 hrm hrl hr hok
      go_wp2_with fail
      refine wp_region_held_drew (S := (fun w' => w'.cell? ⟨w.heap.size + 1, 0, none⟩ = some (.slice (some ⟨w.heap.size, 0, none⟩) n n))) (by kernel_rfl) ?_ (fun hHeld => ?_)
      · exact q1
      refine wpAnyH_take (i := 0) (v := ?_) rfl (by kernel_rfl) (by kernel_rfl) (by kernel_rfl) (fun _ _ _ h => h) (Or.inl ⟨by rfl, ?_⟩) (by assumption) ?_
      rotate_left
      · (intro w hSw; (try dsimp only at hSw); go_simp; try with_reducible rfl)
      simp only [Act.put, List.getElem_toArray, List.getElem_cons_zero, List.setIfInBounds_toArray, List.set_cons_zero, List.set_cons_succ]
      refine wpAnyH_take (i := 1) (v := ?_) rfl (by kernel_rfl) (by kernel_rfl) (by kernel_rfl) (fun _ _ _ h => h) (Or.inl ⟨by rfl, ?_⟩) (by assumption) ?_
      rotate_left
      · (intro w hSw; (try dsimp only at hSw); go_simp; try with_reducible rfl)
      simp only [Act.put, List.getElem_toArray, List.getElem_cons_zero, List.getElem_cons_succ, List.setIfInBounds_toArray, List.set_cons_zero, List.set_cons_succ]
      refine wpAnyH_take (i := 2) (v := ?_) rfl (by kernel_rfl) (by kernel_rfl) (by kernel_rfl) (fun _ _ _ h => h) (Or.inl ⟨by rfl, ?_⟩) (by assumption) ?_
      rotate_left
      · (intro w hSw; (try dsimp only at hSw); go_simp; try with_reducible rfl)
      simp only [Act.put, List.getElem_toArray, List.getElem_cons_zero, List.getElem_cons_succ, List.setIfInBounds_toArray, List.set_cons_zero, List.set_cons_succ]
      refine wpAnyH_take (i := 3) (v := ?_) rfl (by kernel_rfl) (by kernel_rfl) (by kernel_rfl) (fun _ _ _ h => h) (Or.inl ⟨by rfl, ?_⟩) (by assumption) ?_
      rotate_left
      · (intro w hSw; (try dsimp only at hSw); go_simp; try with_reducible rfl)
      simp only [Act.put, List.getElem_toArray, List.getElem_cons_zero, List.getElem_cons_succ, List.setIfInBounds_toArray, List.set_cons_zero, List.set_cons_succ]
      refine wpAnyH_take (i := 4) (v := ?_) rfl (by kernel_rfl) (by kernel_rfl) (by kernel_rfl) (fun _ _ _ h => h) (Or.inl ⟨by rfl, ?_⟩) (by assumption) ?_
      rotate_left
      · (intro w hSw; (try dsimp only at hSw); go_simp; try with_reducible rfl)
      simp only [Act.put, List.getElem_toArray, List.getElem_cons_zero, List.getElem_cons_succ, List.setIfInBounds_toArray, List.set_cons_zero, List.set_cons_succ]
      refine wpAnyH_take (i := 5) (v := ?_) rfl (by kernel_rfl) (by kernel_rfl) (by kernel_rfl) (fun _ _ _ h => h) (Or.inl ⟨by rfl, ?_⟩) (by assumption) ?_
      rotate_left
      · (intro w hSw; (try dsimp only at hSw); go_simp; try with_reducible rfl)
      simp only [Act.put, List.getElem_toArray, List.getElem_cons_zero, List.getElem_cons_succ, List.setIfInBounds_toArray, List.set_cons_zero, List.set_cons_succ]
      refine wpAnyH_ready (rs := [6]) (by kernel_rfl) (by simp) ?_
      refine AllReadyH.cons rfl (fun K hK => ?_) AllReadyH.nil
      simp only [List.getElem_toArray, List.getElem_cons_zero, List.getElem_cons_succ]
      go_simp
      refine HTW.out.mono ?_; rintro e w2 ⟨r2, rfl, hr2, hok2, hid2, hba2, hpe2, hby2, hse2, hsb2, hbl2, ht2⟩; simp only [Reg.ptr]
      go_wp2_with fail
      refine hK.out _ _ ?_ (fun hHeld => ?_)
      · exact ht2.cell hHeld (by simp)
      clear hK K
      try simp only [Act.put, List.getElem_toArray, List.getElem_cons_zero, List.getElem_cons_succ, List.setIfInBounds_toArray, List.set_cons_zero, List.set_cons_succ]
      have hT2 : Touch [] wr w2 := ((Touch.refl [] wr).drew).trans ht2 (by simp)
      have hrow2 := hT2.blk HII.out.row (by simp)
      have q3 := hrow2.cellN (i := k) (by rw [HRL.out]; exact hlt)
      have fz := hrow2.frozen k
      have HX := toHid (And.intro hr2 (And.intro hok2 (And.intro (Like.mk hid2 hba2 hpe2 hby2 hse2 hsb2) (And.intro hbl2 (And.intro hT2 hrow2)))))
      clear hr2 hok2 hid2 hba2 hpe2 hby2 hse2 hsb2 hbl2 ht2 hT2 hrow2
      refine wpAnyH_take (i := 7) (v := ?_) rfl (by kernel_rfl) (by kernel_rfl) (by kernel_rfl) (fun _ _ _ h => h) (Or.inl ⟨by rfl, ?_⟩) (by assumption) ?_
      rotate_left
      · (intro w hSw; (try dsimp only at hSw); go_simp; try with_reducible rfl)
      simp only [Act.put, List.getElem_toArray, List.getElem_cons_zero, List.getElem_cons_succ, List.setIfInBounds_toArray, List.set_cons_zero, List.set_cons_succ]
      refine wpAnyH_ready (rs := [8]) (by kernel_rfl) (by simp) ?_
      refine AllReadyH.cons rfl (fun K hK => ?_) AllReadyH.nil
      simp only [List.getElem_toArray, List.getElem_cons_zero, List.getElem_cons_succ]
      go_simp
      refine hK.out _ _ ?_ (fun hHeld => ?_)
      · exact ((Touch.refl [w.heap.size] w2).setCell ⟨w.heap.size, k, none⟩ _ (Or.inl (by simp))).cell hHeld (by simp)
      clear hK K
      try simp only [Act.put, List.getElem_toArray, List.getElem_cons_zero, List.getElem_cons_succ, List.setIfInBounds_toArray, List.set_cons_zero, List.set_cons_succ]
      refine wpAnyH_done (by kernel_rfl) ?_ _
      have HC := toHid (HII.out.step (by omega) HX.out.2.2.2.2.1 HX.out.1 HX.out.2.1 (by rw [HRR.out]; exact HX.out.2.2.1) HX.out.2.2.2.1 hkl (by omega))
      simp only [Reg.ptr] at HC
      go_wp2
      go_roundw
      case rel => exact ⟨k + 1, by omega, by go_num, _, HC.out⟩
      case measure => simp [intOf]; omega
    · have hkn : k = n := by omega
      subst hkn
      have HII := toHid hI
      clear hI HI
      go_wp2
      go_ret
      exact ⟨_, _, rs, rfl, HII.out, by omega, by omega, Nat.le_refl _⟩
end Go.Proofs.Ytbidppeelophhaa
