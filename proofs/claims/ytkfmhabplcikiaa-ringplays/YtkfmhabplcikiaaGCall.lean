/-
  Package ring: Reserve, Discard, Submit.
-/
import Derived.Test.YtkfmhabplcikiaaGEnd
namespace Go.Proofs.Ytkfmhabplcikiaa.Ring
open Go.RowKit
attribute [local go_sem ↓] Go.wp_at_zero Go.wp_at_succ


set_option maxHeartbeats 1000000 in
set_option maxRecDepth 100000 in
theorem bytes_new {w : World} {s : Mem.MS} (h : Mem.MemAt w s) {r : Mem.Reg} (hrm : r ∈ s.rs) {id : Int} (hid : r.id = id) :
    Calls Try.prog 33 #[.pointer (some ⟨s.m, 0, none⟩), .int .i64 id] w fun e w' => ∃ N, e = .returned (.tuple #[.slice (some ⟨N, 0, none⟩) r.bytes.length r.bytes.length, .int .i64 0]) ∧ Blk w' N (r.bytes.map (Value.int .u8)) 5 ∧ w.heap.size ≤ N ∧ Touch [] w w' := by
  have HI := toHid (Mem.index_any h id)
  rcases Mem.idxR_cases h id with ⟨h1, h2⟩ | ⟨i, r', h1, hi, h2, h3, hid'⟩
  · exact absurd hid (h2 r hrm)
  · obtain rfl : r' = r := id_eq h hrm (List.mem_of_getElem? h2) (by rw [hid', hid])
    rw [h1] at HI
    have hr := List.mem_of_getElem? h2
    have HM := toHid h
    have hmany := h.many
    have hok := h.ok r' hr
    cases hg : s.g with
    | none => have := (h.nil hg).1; rw [this] at hi; simp at hi
    | some b =>
    have HP := toHid (And.intro hg (And.intro hr h3))
    have hsz := hok.size2
    clear h h1 h2 h3 hg hr hok hrm
    go_enter Try.func33, Try.ntmps33
    go_wp2_with fail
    refine HI.out.mono ?_
    rintro e w1 ⟨rfl, ht⟩
    have hM := HM.out.touch ht (by simp)
    have hc0 := hM.c0
    rw [HP.out.1] at hc0
    simp only [slV_some] at hc0
    have hp := hM.ptrAt HP.out.1 hi
    rw [HP.out.2.2] at hp
    have hc3 := (hM.regs r' HP.out.2.1).c3
    have hbb := Mem.BytesAt.of_blk (off := 0) (hM.regs r' HP.out.2.1).bytes r'.bytes.length
    rw [List.drop_zero, List.take_length] at hbb
    have HC := toHid (Mem.copied_any r'.bb 0 r'.bytes.length r'.bytes.length r'.bytes w1 hsz rfl hbb ((hM.regs r' HP.out.2.1).bytes.lt))
    have HT := toHid ht
    clear hbb ht hM HI
    go_wp2_with fail
    refine HC.out.mono ?_
    rintro e w2 ⟨rfl, hB, ht2⟩
    have HF := toHid (And.intro hB (And.intro HT.out.size (HT.out.trans ht2 (by simp))))
    clear HC hB ht2 hc0 hp hc3
    go_wp2
    go_ret2
    exact ⟨_, rfl, HF.out⟩
/-- Reserve's answer, by what Add would say. -/
def resP (l : List (Option Nat)) (size : Int) (ae : Int → Int) : Int × Int :=
  if size < 1 ∨ 64 < size then (0, 2) else if freeI l < 0 then (0, 71) else if ae (placeI (freeI l)) = 0 then (placeI (freeI l), 0) else (0, 12)
def ResPost (w : World) (x : RG) (s : Mem.MS) (size : Int) (e : Ending) (w' : World) : Prop :=
  e = .returned (.tuple #[.int .u64 (resP x.recs size fun b => Mem.addE s.rs b size 3).1, .int .i64 (resP x.recs size fun b => Mem.addE s.rs b size 3).2]) ∧
  (((resP x.recs size fun b => Mem.addE s.rs b size 3).2 ≠ 0 ∧ GStep w w' x x s s) ∨ ∃ (n i : Nat) (r : Mem.Reg) (s' : Mem.MS), n < 8 ∧ freeI x.recs = n ∧ x.recs[n]? = some none ∧ (resP x.recs size fun b => Mem.addE s.rs b size 3) = (placeI n, 0) ∧ Mem.addE s.rs (placeI n) size 3 = 0 ∧ i ≤ s.rs.length ∧
    s'.rs = s.rs.take i ++ r :: s.rs.drop i ∧ s'.next = s.next + 1 ∧ Mem.NewReg r s.next (placeI n) size 3 ∧ GStep w w' x { x with recs := x.recs.set n (some s.next) } s s')
theorem held_new {w : World} {x : RG} {s : Mem.MS} (h : GBoth w x s) {n i : Nat} {r : Mem.Reg} {size : Int} (hs : size ≤ 64) (hr : Mem.NewReg r s.next (placeI n) size 3) :
    ∀ n' i' : Nat, (x.recs.set n (some s.next))[n']? = some (some i') → ∃ r' ∈ s.rs.take i ++ r :: s.rs.drop i, r'.id = i' ∧ r'.base = placeI n' ∧ r'.bytes.length ≤ 64 := fun n' i' hn' => by
  rw [List.getElem?_set] at hn'
  by_cases hnn : n = n'
  · subst hnn
    rw [if_pos rfl] at hn'
    split at hn' <;> simp at hn'
    subst hn'
    exact ⟨r, by simp, hr.hid, hr.hbase, by rw [hr.hbytes]; simp; omega⟩
  · rw [if_neg hnn] at hn'
    obtain ⟨r', h1, h2, h3, h4⟩ := h.held n' i' hn'
    refine ⟨r', ?_, h2, h3, h4⟩
    rw [← List.take_append_drop i s.rs] at h1
    rcases List.mem_append.1 h1 with h1 | h1
    · exact List.mem_append_left _ h1
    · exact List.mem_append_right _ (List.mem_cons_of_mem _ h1)
set_option maxHeartbeats 4000000 in
set_option maxRecDepth 100000 in
theorem greserve_any {w : World} {x : RG} {s : Mem.MS} (h : GBoth w x s) (hnext : s.next < 4611686018427387904) (size : Int) (z0 : 0 ≤ size) (z1 : size ≤ 18446744073709551615) :
    Calls Try.prog 12 #[.pointer (some ⟨x.r, 0, none⟩), .int .u64 size] w (ResPost w x s size) := by
  by_cases hbad : size < 1 ∨ 64 < size
  · have HF : Hid (ResPost w x s size (.returned (.tuple #[.int .u64 0, .int .i64 2])) w) := by
      have hp : (resP x.recs size fun b => Mem.addE s.rs b size 3) = (0, 2) := by unfold resP; rw [if_pos hbad]
      unfold ResPost
      rw [hp]
      exact ⟨rfl, Or.inl ⟨by decide, GStep.same h (Touch.refl _ _)⟩⟩
    clear h hnext
    rcases hbad with hb | hb
    · go_enter Try.func12, Try.ntmps12
      go_wp2
      go_ret2
      exact HF.out
    · have hb1 : ¬ size < 1 := by omega
      go_enter Try.func12, Try.ntmps12
      go_wp2
      go_ret2
      exact HF.out
  · have hg1 : ¬ size < 1 := by omega
    have hg2 : ¬ 64 < size := by omega
    have hwr : IntKind.i64.wrap size = size := by
      simp only [IntKind.wrap, IntKind.bits, IntKind.signed]
      simp
      omega
    have H1 := toHid (gfree_any h.ring)
    rcases freeI_cases h.ring.eight with ⟨hf, _⟩ | ⟨n, hn8, hf, hn, _⟩
    · rw [hf] at H1
      have HF : Hid (∀ w', Touch [] w w' → ResPost w x s size (.returned (.tuple #[.int .u64 0, .int .i64 71])) w') := fun w' ht => by
        have hp : (resP x.recs size fun b => Mem.addE s.rs b size 3) = (0, 71) := by unfold resP; rw [if_neg hbad, if_pos (by rw [hf]; decide)]
        unfold ResPost
        rw [hp]
        exact ⟨rfl, Or.inl ⟨by decide, GStep.same h ht⟩⟩
      clear h hnext hbad hf
      go_enter Try.func12, Try.ntmps12
      go_wp2_with fail
      refine Calls.mono H1.out ?_
      rintro e w2 ⟨rfl, ht⟩
      have HG := toHid (HF.out w2 ht)
      clear HF ht H1
      go_wp2
      go_ret2
      exact HG.out
    · rw [hf] at H1
      have hp0 : 0 ≤ placeI n ∧ placeI n ≤ 18446744073709551615 := by unfold placeI; omega
      have H2 : Hid (∀ w2, Calls Try.prog 31 #[.int .i64 (n : Int)] w2 fun e w' => e = .returned (.int .u64 (placeI n)) ∧ w' = w2) := fun w2 => gplace_any n hn8 w2
      have H3 : Hid (∀ w2, Touch [] w w2 → Calls Try.prog 8 #[.pointer (some ⟨s.m, 0, none⟩), .int .u64 (placeI n), .int .i64 size, .int .i64 3] w2 (Mem.AddPost w2 s (placeI n) size 3)) := fun w2 ht => Mem.add_any (h.still ht).mem _ _ _ hp0.1 hp0.2 hnext
      have HR := toHid h
      have HAP : Hid (x.r ∉ s.blocks) := h.apart _ (by simp [RG.blocks])
      have hm : x.m = s.m := h.at_
      have HSS : Hid (∀ S w2, Touch S w w2 → x.r ∉ S → w2.cell? ⟨x.r, 0, none⟩ = some (.pointer (some ⟨s.m, 0, none⟩))) := fun S w' ht hh => by
        have h9 := ht.blk HR.out.ring.self hh
        rw [← hm]
        exact h9.cell rfl
      have hn0 : (0 : Int) ≤ n := by omega
      have hn8' : (n : Int) < 8 := by omega
      unfold Mem.AddPost at H3
      have HFN := toHid (And.intro hf (And.intro hn (And.intro hn8 hbad)))
      by_cases he : Mem.addE s.rs (placeI n) size 3 = 0
      · simp only [he, if_true] at H3
        have HX : Hid (∀ w1 s' i r, Mem.MemAt w1 s' → Touch s.blocks w w1 → Mem.Own w s s' → i ≤ s.rs.length → s'.rs = s.rs.take i ++ r :: s.rs.drop i → s'.next = s.next + 1 → Mem.NewReg r s.next (placeI n) size 3 → ResPost w x s size (.returned (.tuple #[.int .u64 (placeI n), .int .i64 0])) ((w1.setCell ⟨x.r, 1 + n * 2, none⟩ (.bool true)).setCell ⟨x.r, 1 + n * 2 + 1, none⟩ (.int .i64 s.next))) := fun w1 s' i r hM ht hown hi hrs hnx hr => by
          obtain ⟨hf, hn, hn8, hbad⟩ := HFN.out
          have hp : (resP x.recs size fun b => Mem.addE s.rs b size 3) = (placeI n, 0) := by
            unfold resP
            rw [if_neg hbad, if_neg (by rw [hf]; omega), hf, if_pos he]
          unfold ResPost
          refine ⟨by rw [hp], Or.inr ⟨n, i, r, s', hn8, hf, hn, hp, he, hi, hrs, hnx, hr, ?_⟩⟩
          exact HR.out.turn hM ht hown hn8 (some s.next) (by rw [hrs]; exact held_new HR.out (by omega) hr)
        have HB : Hid (∀ w1, Touch s.blocks w w1 → Blk w1 x.r x.cells 82) := fun w1 ht => ht.blk HR.out.ring.self HAP.out
        have HRS := toHid (And.intro HR.out.ring.eight hn)
        generalize hr : x.r = r at *
        have HRR := toHid hr
        clear h hr hm hf hn hbad hnext hn8 he
        generalize s.m = M at *
        go_enter Try.func12, Try.ntmps12
        go_wp2_with fail
        refine Calls.mono H1.out ?_
        rintro e w2 ⟨rfl, ht2⟩
        have HT2 := toHid ht2
        clear ht2 H1
        go_wp2_with fail
        refine wp_region_held_drew (S := fun w' => w'.cell? ⟨r, 0, none⟩ = some (.pointer (some ⟨M, 0, none⟩))) (by kernel_rfl) ?_ (fun hHeld => ?_)
        · exact HSS.out [] _ HT2.out.drew (by simp)
        refine wpAnyH_take (i := 0) (v := ?_) rfl (by kernel_rfl) (by kernel_rfl) (by kernel_rfl) (fun _ _ _ h => h) (Or.inl ⟨by rfl, ?_⟩) (by assumption) ?_
        rotate_left
        · (intro w hSw; (try dsimp only at hSw); go_simp; try with_reducible rfl)
        simp only [Act.put, List.getElem_toArray, List.getElem_cons_zero, List.setIfInBounds_toArray, List.set_cons_zero, List.set_cons_succ]
        refine wpAnyH_take (i := 1) (v := ?_) rfl (by kernel_rfl) (by kernel_rfl) (by kernel_rfl) (fun _ _ _ h => h) (Or.inl ⟨by rfl, ?_⟩) (by assumption) ?_
        rotate_left
        · (intro w hSw; (try dsimp only at hSw); go_simp; try with_reducible rfl)
        simp only [Act.put, List.getElem_toArray, List.getElem_cons_zero, List.getElem_cons_succ, List.setIfInBounds_toArray, List.set_cons_zero, List.set_cons_succ]
        refine wpAnyH_take (i := 2) (v := ?_) rfl (by kernel_rfl) (by kernel_rfl) (by kernel_rfl) (fun _ _ _ h => h) (Or.inl ⟨by rfl, ?_⟩) (by assumption) ?_
        rotate_left
        · (intro w hSw; (try dsimp only at hSw); go_simp; try with_reducible rfl)
        simp only [Act.put, List.getElem_toArray, List.getElem_cons_zero, List.getElem_cons_succ, List.setIfInBounds_toArray, List.set_cons_zero, List.set_cons_succ]
        refine wpAnyH_take (i := 3) (v := ?_) rfl (by kernel_rfl) (by kernel_rfl) (by kernel_rfl) (fun _ _ _ h => h) (Or.inl ⟨by rfl, ?_⟩) (by assumption) ?_
        rotate_left
        · (intro w hSw; (try dsimp only at hSw); go_simp; try with_reducible rfl)
        simp only [Act.put, List.getElem_toArray, List.getElem_cons_zero, List.getElem_cons_succ, List.setIfInBounds_toArray, List.set_cons_zero, List.set_cons_succ]
        refine wpAnyH_take (i := 4) (v := ?_) rfl (by kernel_rfl) (by kernel_rfl) (by kernel_rfl) (fun _ _ _ h => h) (Or.inl ⟨by rfl, ?_⟩) (by assumption) ?_
        rotate_left
        · (intro w hSw; (try dsimp only at hSw); go_simp; try with_reducible rfl)
        simp only [Act.put, List.getElem_toArray, List.getElem_cons_zero, List.getElem_cons_succ, List.setIfInBounds_toArray, List.set_cons_zero, List.set_cons_succ]
        refine wpAnyH_take (i := 6) (v := ?_) rfl (by kernel_rfl) (by kernel_rfl) (by kernel_rfl) (fun _ _ _ h => h) (Or.inl ⟨by rfl, ?_⟩) (by assumption) ?_
        rotate_left
        · (intro w hSw; (try dsimp only at hSw); go_simp; try with_reducible rfl)
        simp only [Act.put, List.getElem_toArray, List.getElem_cons_zero, List.getElem_cons_succ, List.setIfInBounds_toArray, List.set_cons_zero, List.set_cons_succ]
        refine wpAnyH_take (i := 7) (v := ?_) rfl (by kernel_rfl) (by kernel_rfl) (by kernel_rfl) (fun _ _ _ h => h) (Or.inl ⟨by rfl, ?_⟩) (by assumption) ?_
        rotate_left
        · (intro w hSw; (try dsimp only at hSw); go_simp; try with_reducible rfl)
        simp only [Act.put, List.getElem_toArray, List.getElem_cons_zero, List.getElem_cons_succ, List.setIfInBounds_toArray, List.set_cons_zero, List.set_cons_succ]
        refine wpAnyH_ready (rs := [5]) (by kernel_rfl) (by simp) ?_
        refine AllReadyH.cons rfl (fun K hK => ?_) AllReadyH.nil
        simp only [List.getElem_toArray, List.getElem_cons_zero, List.getElem_cons_succ]
        go_simp
        refine (H2.out _).mono ?_; rintro e w3 ⟨rfl, rfl⟩
        go_wp2_with fail
        refine hK.out _ _ ?_ (fun hHeld => ?_)
        · exact HSS.out [] _ HT2.out.drew (by simp)
        clear hK K
        try simp only [Act.put, List.getElem_toArray, List.getElem_cons_zero, List.getElem_cons_succ, List.setIfInBounds_toArray, List.set_cons_zero, List.set_cons_succ]
        refine wpAnyH_ready (rs := [8]) (by kernel_rfl) (by simp) ?_
        refine AllReadyH.cons rfl (fun K hK => ?_) AllReadyH.nil
        simp only [List.getElem_toArray, List.getElem_cons_zero, List.getElem_cons_succ]
        go_simp
        refine Calls.mono (H3.out _ HT2.out.drew) ?_; rintro e w3 ⟨rfl, ht3, s', hM', hown, _, hgood⟩; obtain ⟨hnx, i, rg, hi, hrs, hnr⟩ := hgood trivial; have HT3 := toHid (HT2.out.drew.nil.trans ht3 (fun b hb => Or.inl hb)); have HM := toHid (And.intro hM' (And.intro hown (And.intro hi (And.intro hrs (And.intro hnx hnr))))); clear hM' hown hi hrs hnx hnr ht3 hgood
        go_wp2_with fail
        refine hK.out _ _ ?_ (fun hHeld => ?_)
        · exact HSS.out _ _ HT3.out HAP.out
        clear hK K
        try simp only [Act.put, List.getElem_toArray, List.getElem_cons_zero, List.getElem_cons_succ, List.setIfInBounds_toArray, List.set_cons_zero, List.set_cons_succ]
        refine wpAnyH_take (i := 9) (v := ?_) rfl (by kernel_rfl) (by kernel_rfl) (by kernel_rfl) (fun _ _ _ h => h) (Or.inl ⟨by rfl, ?_⟩) (by assumption) ?_
        rotate_left
        · (intro w hSw; (try dsimp only at hSw); go_simp; try with_reducible rfl)
        simp only [Act.put, List.getElem_toArray, List.getElem_cons_zero, List.getElem_cons_succ, List.setIfInBounds_toArray, List.set_cons_zero, List.set_cons_succ]
        refine wpAnyH_take (i := 10) (v := ?_) rfl (by kernel_rfl) (by kernel_rfl) (by kernel_rfl) (fun _ _ _ h => h) (Or.inl ⟨by rfl, ?_⟩) (by assumption) ?_
        rotate_left
        · (intro w hSw; (try dsimp only at hSw); go_simp; try with_reducible rfl)
        simp only [Act.put, List.getElem_toArray, List.getElem_cons_zero, List.getElem_cons_succ, List.setIfInBounds_toArray, List.set_cons_zero, List.set_cons_succ]
        refine wpAnyH_take (i := 11) (v := ?_) rfl (by kernel_rfl) (by kernel_rfl) (by kernel_rfl) (fun _ _ _ h => h) (Or.inl ⟨by rfl, ?_⟩) (by assumption) ?_
        rotate_left
        · (intro w hSw; (try dsimp only at hSw); go_simp; try with_reducible rfl)
        simp only [Act.put, List.getElem_toArray, List.getElem_cons_zero, List.getElem_cons_succ, List.setIfInBounds_toArray, List.set_cons_zero, List.set_cons_succ]
        refine wpAnyH_take (i := 12) (v := ?_) rfl (by kernel_rfl) (by kernel_rfl) (by kernel_rfl) (fun _ _ _ h => h) (Or.inl ⟨by rfl, ?_⟩) (by assumption) ?_
        rotate_left
        · (intro w hSw; (try dsimp only at hSw); go_simp; try with_reducible rfl)
        simp only [Act.put, List.getElem_toArray, List.getElem_cons_zero, List.getElem_cons_succ, List.setIfInBounds_toArray, List.set_cons_zero, List.set_cons_succ]
        refine wpAnyH_take (i := 13) (v := ?_) rfl (by kernel_rfl) (by kernel_rfl) (by kernel_rfl) (fun _ _ _ h => h) (Or.inl ⟨by rfl, ?_⟩) (by assumption) ?_
        rotate_left
        · (intro w hSw; (try dsimp only at hSw); go_simp; try with_reducible rfl)
        simp only [Act.put, List.getElem_toArray, List.getElem_cons_zero, List.getElem_cons_succ, List.setIfInBounds_toArray, List.set_cons_zero, List.set_cons_succ]
        refine wpAnyH_done (by kernel_rfl) ?_ _
        obtain ⟨d1, d2, d3, d4⟩ := rec_store (HB.out _ HT3.out) HRS.out.1 HRS.out.2 (.bool true)
        clear hHeld
        go_wp2_with fail
        refine (H2.out _).mono ?_
        rintro e w4 ⟨rfl, rfl⟩
        clear d1 d2 d3 d4
        go_wp2
        go_ret2
        obtain ⟨hM', hown, hi, hrs, hnx, hnr⟩ := HM.out
        exact HX.out _ s' i rg hM' HT3.out ⟨hown.1, fun b hb => (hown.2 b hb).imp id (fun h9 => by have := HT2.out.size; exact Nat.le_trans this h9)⟩ hi hrs hnx hnr
      · simp only [he, if_false] at H3
        have HX : Hid (∀ w1, Mem.MemAt w1 s → Touch s.blocks w w1 → ResPost w x s size (.returned (.tuple #[.int .u64 0, .int .i64 12])) w1) := fun w1 hM ht => by
          obtain ⟨hf, hn, hn8, hbad⟩ := HFN.out
          have hp : (resP x.recs size fun b => Mem.addE s.rs b size 3) = (0, 12) := by
            unfold resP
            rw [if_neg hbad, if_neg (by rw [hf]; omega), hf, if_neg he]
          unfold ResPost
          rw [hp]
          exact ⟨rfl, Or.inl ⟨by decide, ⟨HR.out.ring.touch ht HR.out.apart, hM, HR.out.at_, HR.out.apart, HR.out.held⟩, rfl, rfl, ht.mono (fun b hb => Or.inl (List.mem_append_right _ hb)), fun _ hb => Or.inl hb, fun _ hb => Or.inl hb⟩⟩
        generalize hE : Mem.addE s.rs (placeI n) size 3 = E at *
        have heb : (E != 0) = true := by simpa using he
        generalize hr : x.r = r at *
        clear h hr hm hf hn hbad hnext hn8 hE
        generalize s.m = M at *
        go_enter Try.func12, Try.ntmps12
        go_wp2_with fail
        refine Calls.mono H1.out ?_
        rintro e w2 ⟨rfl, ht2⟩
        have HT2 := toHid ht2
        clear ht2 H1
        go_wp2_with fail
        refine wp_region_held_drew (S := fun w' => w'.cell? ⟨r, 0, none⟩ = some (.pointer (some ⟨M, 0, none⟩))) (by kernel_rfl) ?_ (fun hHeld => ?_)
        · exact HSS.out [] _ HT2.out.drew (by simp)
        refine wpAnyH_take (i := 0) (v := ?_) rfl (by kernel_rfl) (by kernel_rfl) (by kernel_rfl) (fun _ _ _ h => h) (Or.inl ⟨by rfl, ?_⟩) (by assumption) ?_
        rotate_left
        · (intro w hSw; (try dsimp only at hSw); go_simp; try with_reducible rfl)
        simp only [Act.put, List.getElem_toArray, List.getElem_cons_zero, List.setIfInBounds_toArray, List.set_cons_zero, List.set_cons_succ]
        refine wpAnyH_take (i := 1) (v := ?_) rfl (by kernel_rfl) (by kernel_rfl) (by kernel_rfl) (fun _ _ _ h => h) (Or.inl ⟨by rfl, ?_⟩) (by assumption) ?_
        rotate_left
        · (intro w hSw; (try dsimp only at hSw); go_simp; try with_reducible rfl)
        simp only [Act.put, List.getElem_toArray, List.getElem_cons_zero, List.getElem_cons_succ, List.setIfInBounds_toArray, List.set_cons_zero, List.set_cons_succ]
        refine wpAnyH_take (i := 2) (v := ?_) rfl (by kernel_rfl) (by kernel_rfl) (by kernel_rfl) (fun _ _ _ h => h) (Or.inl ⟨by rfl, ?_⟩) (by assumption) ?_
        rotate_left
        · (intro w hSw; (try dsimp only at hSw); go_simp; try with_reducible rfl)
        simp only [Act.put, List.getElem_toArray, List.getElem_cons_zero, List.getElem_cons_succ, List.setIfInBounds_toArray, List.set_cons_zero, List.set_cons_succ]
        refine wpAnyH_take (i := 3) (v := ?_) rfl (by kernel_rfl) (by kernel_rfl) (by kernel_rfl) (fun _ _ _ h => h) (Or.inl ⟨by rfl, ?_⟩) (by assumption) ?_
        rotate_left
        · (intro w hSw; (try dsimp only at hSw); go_simp; try with_reducible rfl)
        simp only [Act.put, List.getElem_toArray, List.getElem_cons_zero, List.getElem_cons_succ, List.setIfInBounds_toArray, List.set_cons_zero, List.set_cons_succ]
        refine wpAnyH_take (i := 4) (v := ?_) rfl (by kernel_rfl) (by kernel_rfl) (by kernel_rfl) (fun _ _ _ h => h) (Or.inl ⟨by rfl, ?_⟩) (by assumption) ?_
        rotate_left
        · (intro w hSw; (try dsimp only at hSw); go_simp; try with_reducible rfl)
        simp only [Act.put, List.getElem_toArray, List.getElem_cons_zero, List.getElem_cons_succ, List.setIfInBounds_toArray, List.set_cons_zero, List.set_cons_succ]
        refine wpAnyH_take (i := 6) (v := ?_) rfl (by kernel_rfl) (by kernel_rfl) (by kernel_rfl) (fun _ _ _ h => h) (Or.inl ⟨by rfl, ?_⟩) (by assumption) ?_
        rotate_left
        · (intro w hSw; (try dsimp only at hSw); go_simp; try with_reducible rfl)
        simp only [Act.put, List.getElem_toArray, List.getElem_cons_zero, List.getElem_cons_succ, List.setIfInBounds_toArray, List.set_cons_zero, List.set_cons_succ]
        refine wpAnyH_take (i := 7) (v := ?_) rfl (by kernel_rfl) (by kernel_rfl) (by kernel_rfl) (fun _ _ _ h => h) (Or.inl ⟨by rfl, ?_⟩) (by assumption) ?_
        rotate_left
        · (intro w hSw; (try dsimp only at hSw); go_simp; try with_reducible rfl)
        simp only [Act.put, List.getElem_toArray, List.getElem_cons_zero, List.getElem_cons_succ, List.setIfInBounds_toArray, List.set_cons_zero, List.set_cons_succ]
        refine wpAnyH_ready (rs := [5]) (by kernel_rfl) (by simp) ?_
        refine AllReadyH.cons rfl (fun K hK => ?_) AllReadyH.nil
        simp only [List.getElem_toArray, List.getElem_cons_zero, List.getElem_cons_succ]
        go_simp
        refine (H2.out _).mono ?_; rintro e w3 ⟨rfl, rfl⟩
        go_wp2_with fail
        refine hK.out _ _ ?_ (fun hHeld => ?_)
        · exact HSS.out [] _ HT2.out.drew (by simp)
        clear hK K
        try simp only [Act.put, List.getElem_toArray, List.getElem_cons_zero, List.getElem_cons_succ, List.setIfInBounds_toArray, List.set_cons_zero, List.set_cons_succ]
        refine wpAnyH_ready (rs := [8]) (by kernel_rfl) (by simp) ?_
        refine AllReadyH.cons rfl (fun K hK => ?_) AllReadyH.nil
        simp only [List.getElem_toArray, List.getElem_cons_zero, List.getElem_cons_succ]
        go_simp
        refine Calls.mono (H3.out _ HT2.out.drew) ?_; rintro e w3 ⟨rfl, ht3, s', hM', _, hs', _⟩; obtain rfl := hs' (by simp [he]); have HT3 := toHid (HT2.out.drew.nil.trans ht3 (fun b hb => Or.inl hb)); have HM := toHid hM'; clear hM' ht3
        go_wp2_with fail
        refine hK.out _ _ ?_ (fun hHeld => ?_)
        · exact HSS.out _ _ HT3.out HAP.out
        clear hK K
        try simp only [Act.put, List.getElem_toArray, List.getElem_cons_zero, List.getElem_cons_succ, List.setIfInBounds_toArray, List.set_cons_zero, List.set_cons_succ]
        refine wpAnyH_take (i := 9) (v := ?_) rfl (by kernel_rfl) (by kernel_rfl) (by kernel_rfl) (fun _ _ _ h => h) (Or.inl ⟨by rfl, ?_⟩) (by assumption) ?_
        rotate_left
        · (intro w hSw; (try dsimp only at hSw); go_simp; try with_reducible rfl)
        simp only [Act.put, List.getElem_toArray, List.getElem_cons_zero, List.getElem_cons_succ, List.setIfInBounds_toArray, List.set_cons_zero, List.set_cons_succ]
        refine wpAnyH_take (i := 10) (v := ?_) rfl (by kernel_rfl) (by kernel_rfl) (by kernel_rfl) (fun _ _ _ h => h) (Or.inl ⟨by rfl, ?_⟩) (by assumption) ?_
        rotate_left
        · (intro w hSw; (try dsimp only at hSw); go_simp; try with_reducible rfl)
        simp only [Act.put, List.getElem_toArray, List.getElem_cons_zero, List.getElem_cons_succ, List.setIfInBounds_toArray, List.set_cons_zero, List.set_cons_succ]
        refine wpAnyH_take (i := 11) (v := ?_) rfl (by kernel_rfl) (by kernel_rfl) (by kernel_rfl) (fun _ _ _ h => h) (Or.inl ⟨by rfl, ?_⟩) (by assumption) ?_
        rotate_left
        · (intro w hSw; (try dsimp only at hSw); go_simp; try with_reducible rfl)
        simp only [Act.put, List.getElem_toArray, List.getElem_cons_zero, List.getElem_cons_succ, List.setIfInBounds_toArray, List.set_cons_zero, List.set_cons_succ]
        refine wpAnyH_take (i := 12) (v := ?_) rfl (by kernel_rfl) (by kernel_rfl) (by kernel_rfl) (fun _ _ _ h => h) (Or.inl ⟨by rfl, ?_⟩) (by assumption) ?_
        rotate_left
        · (intro w hSw; (try dsimp only at hSw); go_simp; try with_reducible rfl)
        simp only [Act.put, List.getElem_toArray, List.getElem_cons_zero, List.getElem_cons_succ, List.setIfInBounds_toArray, List.set_cons_zero, List.set_cons_succ]
        refine wpAnyH_take (i := 13) (v := ?_) rfl (by kernel_rfl) (by kernel_rfl) (by kernel_rfl) (fun _ _ _ h => h) (Or.inl ⟨by rfl, ?_⟩) (by assumption) ?_
        rotate_left
        · (intro w hSw; (try dsimp only at hSw); go_simp; try with_reducible rfl)
        simp only [Act.put, List.getElem_toArray, List.getElem_cons_zero, List.getElem_cons_succ, List.setIfInBounds_toArray, List.set_cons_zero, List.set_cons_succ]
        refine wpAnyH_done (by kernel_rfl) ?_ _
        clear hHeld
        go_wp2
        go_ret2
        exact HX.out _ HM.out HT3.out
end Go.Proofs.Ytkfmhabplcikiaa.Ring
