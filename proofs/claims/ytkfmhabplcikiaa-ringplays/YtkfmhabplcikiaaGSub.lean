/-
  Package ring: Discard, Submit; a nil ring.
-/
import Derived.Test.YtkfmhabplcikiaaGCall
namespace Go.Proofs.Ytkfmhabplcikiaa.Ring
open Go.RowKit
attribute [local go_sem ↓] Go.wp_at_zero Go.wp_at_succ

def DisPost (w : World) (x : RG) (s : Mem.MS) (addr : Int) (e : Ending) (w' : World) : Prop :=
  e = .returned (.int .i64 (if numI x.recs addr = -1 then 14 else 0)) ∧
  ((numI x.recs addr = -1 ∧ GStep w w' x x s s) ∨ ∃ (n i : Nat) (s' : Mem.MS), n < 8 ∧ numI x.recs addr = n ∧ x.recs[n]? = some (some i) ∧ s'.rs = Mem.killRs s.rs i ∧ s'.next = s.next ∧ GStep w w' x { x with recs := x.recs.set n none } s s')
set_option maxHeartbeats 2000000 in
set_option maxRecDepth 100000 in
theorem gdiscard_any {w : World} {x : RG} {s : Mem.MS} (h : GBoth w x s) (addr : Int) :
    Calls Try.prog 17 #[.pointer (some ⟨x.r, 0, none⟩), .int .u64 addr] w (DisPost w x s addr) := by
  have H1 := toHid (gnumber_any h.ring addr)
  rcases numI_cases x.recs addr with ⟨hf, _⟩ | ⟨n, i, hn8, hf, hn, _⟩
  · have HF : Hid (∀ w', Touch [] w w' → DisPost w x s addr (.returned (.int .i64 14)) w') := fun w' ht => ⟨by rw [if_pos hf], Or.inl ⟨hf, GStep.same h ht⟩⟩
    rw [hf] at H1
    clear h hf
    go_enter Try.func17, Try.ntmps17
    go_wp2_with fail
    refine Calls.mono H1.out ?_
    rintro e w2 ⟨rfl, ht⟩
    have HG := toHid (HF.out w2 ht)
    clear HF ht H1
    go_wp2
    go_ret
    exact HG.out
  · have h8 := h.ring.eight
    have HF : Hid (∀ w1 w' s', Touch [] w w1 → s'.rs = Mem.killRs s.rs i → s'.next = s.next → GStep w1 w' x { x with recs := x.recs.set n none } s s' → DisPost w x s addr (.returned (.int .i64 0)) w') := fun w1 w' s' ht hrs hnx hst =>
      ⟨by rw [if_neg (by rw [hf]; omega)], Or.inr ⟨n, i, s', by omega, hf, hn, hrs, hnx, (GStep.same h ht).trans hst⟩⟩
    have H2 : Hid (∀ w1, Touch [] w w1 → Calls Try.prog 34 #[.pointer (some ⟨x.r, 0, none⟩), .int .i64 (n : Int)] w1 fun e w' => e = .returned (.tuple #[]) ∧ ∃ s', s'.rs = Mem.killRs s.rs i ∧ s'.next = s.next ∧ GStep w1 w' x { x with recs := x.recs.set n none } s s') := fun w1 ht => gend_any (h.still ht) hn
    rw [hf] at H1
    have hn0 : ¬ (n : Int) < 0 := by omega
    clear h hf hn h8
    go_enter Try.func17, Try.ntmps17
    go_wp2_with fail
    refine Calls.mono H1.out ?_
    rintro e w2 ⟨rfl, ht⟩
    have HT := toHid ht
    clear ht H1
    go_wp2_with fail
    refine Calls.mono (H2.out _ HT.out) ?_
    rintro e w3 ⟨rfl, s', hrs, hnx, hst⟩
    have HG := toHid (HF.out _ _ s' HT.out hrs hnx hst)
    clear hrs hnx hst HF
    go_wp2
    go_ret
    exact HG.out
def SubPost (w : World) (x : RG) (s : Mem.MS) (addr : Int) (e : Ending) (w' : World) : Prop :=
  e = .returned (.int .i64 (if numI x.recs addr = -1 then 14 else 0)) ∧
  ((numI x.recs addr = -1 ∧ GStep w w' x x s s) ∨ ∃ (n i : Nat) (r : Mem.Reg) (s' : Mem.MS) (g' : Option Nat) (cap' : Nat) (k : KR), n < 8 ∧ numI x.recs addr = n ∧ x.recs[n]? = some (some i) ∧ r ∈ s.rs ∧ r.id = i ∧ k.bs = r.bytes ∧ s'.rs = Mem.killRs s.rs i ∧ s'.next = s.next ∧
    GStep w w' x { x with recs := x.recs.set n none, g := g', cap := cap', l := x.l ++ [k] } s s')
/-- A row put behind what is out. -/
theorem GBoth.pushed {w w1 w2 : World} {x : RG} {s : Mem.MS} (h : GBoth w x s) (ht : Touch [] w w1) {k : KR} (hk : k.At w1) (hkf : w.heap.size ≤ k.b) {g' : Option Nat} {cap' : Nat} (hR : Rows w2 g' cap' (x.l ++ [k])) (ht2 : Touch x.g.toList w1 w2) (hg : g' = x.g ∨ ∃ b, g' = some b ∧ w1.heap.size ≤ b) :
    GStep w (w2.setCell ⟨x.r, 17, none⟩ (slV g' (x.l.length + 1) cap')) x { x with g := g', cap := cap', l := x.l ++ [k] } s s := by
  have hz := ht.size
  have hz2 := ht2.size
  have hxr : x.r ∈ x.blocks := by simp [RG.blocks]
  have hgx : ∀ b ∈ x.g.toList, b ∈ x.blocks := fun b hb => by
    simp only [Option.mem_toList] at hb
    exact List.mem_cons_of_mem _ (mem_g hb)
  have hrg : x.r ∉ x.g.toList := fun hx => by
    simp only [Option.mem_toList] at hx
    exact h.ring.own (mem_g hx)
  have hset : Touch [x.r] w2 (w2.setCell ⟨x.r, 17, none⟩ (slV g' (x.l.length + 1) cap')) := (Touch.refl _ _).setCell _ _ (Or.inl (by simp))
  have hnew : ∀ b ∈ rowsBl g' (x.l ++ [k]), b ∈ rowsBl x.g x.l ∨ w.heap.size ≤ b := fun b hb => by
    rcases rowsBl_cases hb with hb | ⟨y, hy, rfl⟩
    · rcases hg with rfl | ⟨b', hb', hge⟩
      · exact Or.inl (mem_g hb)
      · rw [hb] at hb'
        injection hb' with hb'
        exact Or.inr (by omega)
    · rcases List.mem_append.1 hy with hy | hy
      · exact Or.inl (mem_k hy)
      · simp only [List.mem_singleton] at hy
        subst hy
        exact Or.inr hkf
  have hlt := h.ring.lt
  have hown : x.r ∉ rowsBl g' (x.l ++ [k]) := fun hx => by
    rcases hnew _ hx with h1 | h1
    · exact h.ring.own h1
    · have := hlt _ hxr
      omega
  have hbl : ∀ b ∈ ({ x with g := g', cap := cap', l := x.l ++ [k] } : RG).blocks, b ∈ x.blocks ∨ w.heap.size ≤ b := fun b hb => by
    rcases List.mem_cons.1 hb with rfl | hb
    · exact Or.inl hxr
    · rcases hnew b hb with h1 | h1
      · exact Or.inl (List.mem_cons_of_mem _ h1)
      · exact Or.inr h1
  refine ⟨⟨⟨?_, h.ring.eight, hR.touch hset (fun b hb hx => ?_), hown⟩, (h.mem.touch (ht.nil.trans ht2 (fun y hy => Or.inl hy)) (fun b hb hx => h.apart b (hgx b hx) hb)).touch hset (fun b hb hx => ?_), h.at_, fun b hb hx => ?_, h.held⟩, rfl, rfl, ?_, hbl, fun b hb => Or.inl hb⟩
  · have hb2 := ht2.blk (ht.blk h.ring.self (by simp)) hrg
    have := hb2.setCell 17 (slV g' (x.l.length + 1) cap')
    have hc : x.cells.set 17 (slV g' (x.l.length + 1) cap') = ({ x with g := g', cap := cap', l := x.l ++ [k] } : RG).cells := by
      have h8 := h.ring.eight
      obtain ⟨r, m, recs, g, cap, l⟩ := x
      dsimp only at h8 ⊢
      obtain ⟨a0, a1, a2, a3, a4, a5, a6, a7, rfl⟩ := eightL h8
      unfold RG.cells
      simp [recC]
    rw [hc] at this
    exact this
  · simp only [List.mem_singleton] at hx
    subst hx
    exact hown hb
  · simp only [List.mem_singleton] at hx
    subst hx
    exact h.apart _ hxr hb
  · rcases hbl b hb with h1 | h1
    · exact h.apart b h1 hx
    · have := h.mem.lt b hx
      omega
  · refine ((ht.nil (S := x.blocks ++ s.blocks)).trans ht2 (fun y hy => Or.inl (List.mem_append_left _ (hgx y hy)))).trans hset (fun y hy => ?_)
    simp only [List.mem_singleton] at hy
    subst hy
    exact Or.inl (List.mem_append_left _ hxr)
set_option maxHeartbeats 4000000 in
set_option maxRecDepth 100000 in
theorem gsubmit_any {w : World} {x : RG} {s : Mem.MS} (h : GBoth w x s) (hl : x.l.length ≤ 1000) (addr : Int) :
    Calls Try.prog 14 #[.pointer (some ⟨x.r, 0, none⟩), .int .u64 addr] w (SubPost w x s addr) := by
  have H1 := toHid (gnumber_any h.ring addr)
  rcases numI_cases x.recs addr with ⟨hf, _⟩ | ⟨n, i, hn8, hf, hn, _⟩
  · have HF : Hid (∀ w', Touch [] w w' → SubPost w x s addr (.returned (.int .i64 14)) w') := fun w' ht => ⟨by rw [if_pos hf], Or.inl ⟨hf, GStep.same h ht⟩⟩
    rw [hf] at H1
    clear h hf hl
    go_enter Try.func14, Try.ntmps14
    go_wp2_with fail
    refine Calls.mono H1.out ?_
    rintro e w2 ⟨rfl, ht⟩
    have HG := toHid (HF.out w2 ht)
    clear HF ht H1
    go_wp2
    go_ret
    exact HG.out
  · have h8 := h.ring.eight
    obtain ⟨rg, hrg, hid, hbase, hlen⟩ := h.held n i hn
    have hok := h.mem.ok rg hrg
    have hby := hok.byte
    have hs1 := hok.size1
    have HF : Hid (∀ w1 w' s' k g' cap', GStep w w1 x { x with g := g', cap := cap', l := x.l ++ [k] } s s → k.bs = rg.bytes → s'.rs = Mem.killRs s.rs i → s'.next = s.next → GStep w1 w' { x with g := g', cap := cap', l := x.l ++ [k] } { x with recs := x.recs.set n none, g := g', cap := cap', l := x.l ++ [k] } s s' → SubPost w x s addr (.returned (.int .i64 0)) w') := fun w1 w' s' k g' cap' h1 hk hrs hnx hst =>
      ⟨by rw [if_neg (by rw [hf]; omega)], Or.inr ⟨n, i, rg, s', g', cap', k, by omega, hf, hn, hrg, hid, hk, hrs, hnx, h1.trans hst⟩⟩
    have H2 : Hid (∀ w1, Touch [] w w1 → Calls Try.prog 33 #[.pointer (some ⟨s.m, 0, none⟩), .int .i64 (i : Int)] w1 fun e w' => ∃ N, e = .returned (.tuple #[.slice (some ⟨N, 0, none⟩) rg.bytes.length rg.bytes.length, .int .i64 0]) ∧ Blk w' N (rg.bytes.map (Value.int .u8)) 5 ∧ w1.heap.size ≤ N ∧ Touch [] w1 w') := fun w1 ht => bytes_new (h.still ht).mem hrg hid
    have H3 : Hid (∀ w1 x1, GStep w w1 x x1 s s → x1.recs = x.recs → Calls Try.prog 34 #[.pointer (some ⟨x.r, 0, none⟩), .int .i64 (n : Int)] w1 fun e w' => e = .returned (.tuple #[]) ∧ ∃ s', s'.rs = Mem.killRs s.rs i ∧ s'.next = s.next ∧ GStep w1 w' x1 { x1 with recs := x.recs.set n none } s s') := fun w1 x1 hst he => by
      have h9 := gend_any hst.both (n := n) (i := i) (by rw [he]; exact hn)
      rw [← hst.r, ← he]
      exact h9
    have HR := toHid h
    have hm : x.m = s.m := h.at_
    have hcs := rec_at h8 hn
    have hc17 : x.cells[17]? = some (slV x.g x.l.length x.cap) := by
      have h8' := h8
      obtain ⟨r, m, recs, g, cap, l⟩ := x
      dsimp only at h8' ⊢
      obtain ⟨a0, a1, a2, a3, a4, a5, a6, a7, rfl⟩ := eightL h8'
      rfl
    have HSS : Hid (∀ w2, Touch [] w w2 → w2.cell? ⟨x.r, 0, none⟩ = some (.pointer (some ⟨s.m, 0, none⟩)) ∧ w2.cell? ⟨x.r, 1 + n * 2 + 1, none⟩ = some (.int .i64 i) ∧ w2.cell? ⟨x.r, 17, none⟩ = some (slV x.g x.l.length x.cap)) := fun w' ht => by
      have h9 := ht.blk HR.out.ring.self (by simp)
      refine ⟨?_, h9.cell hcs.2, h9.cell hc17⟩
      rw [← hm]
      exact h9.cell rfl
    have HS17 : Hid (∀ w1 w2, Touch [] w w1 → Touch x.g.toList w1 w2 → w2.cell? ⟨x.r, 17, none⟩ = some (slV x.g x.l.length x.cap) ∧ w2.frozen? ⟨x.r, 17, none⟩ = false) := fun w1 w2 ht ht2 => by
      have h9 := ht2.blk (ht.blk HR.out.ring.self (by simp)) (fun hx => by
        simp only [Option.mem_toList] at hx
        exact HR.out.ring.own (mem_g hx))
      exact ⟨h9.cell hc17, h9.frozen _⟩
    have HK := toHid (And.intro hby (And.intro hs1 (And.intro hlen hl)))
    rw [hf] at H1
    have hn0 : (0 : Int) ≤ n := by omega
    have hn8' : (n : Int) < 8 := by omega
    generalize hr : x.r = r at *
    have HRR := toHid hr
    clear h hf hn h8 hm hr hby hs1 hlen hok hrg hid hbase hcs hc17 hl
    generalize s.m = M at *
    go_enter Try.func14, Try.ntmps14
    go_wp2_with fail
    refine Calls.mono H1.out ?_
    rintro e w2 ⟨rfl, ht⟩
    have HT := toHid ht
    clear ht H1
    go_wp2_with fail
    refine wp_region_held_drew (S := fun w' => w'.cell? ⟨r, 0, none⟩ = some (.pointer (some ⟨M, 0, none⟩)) ∧ w'.cell? ⟨r, 1 + n * 2 + 1, none⟩ = some (.int .i64 i) ∧ w'.cell? ⟨r, 17, none⟩ = some (slV x.g x.l.length x.cap)) (by kernel_rfl) ?_ (fun hHeld => ?_)
    · exact HSS.out _ HT.out.drew
    refine wpAnyH_take (i := 0) (v := ?_) rfl (by kernel_rfl) (by kernel_rfl) (by kernel_rfl) (fun _ _ _ h => h) (Or.inl ⟨by rfl, ?_⟩) (by assumption) ?_
    rotate_left
    · (intro w hSw; (try dsimp only at hSw); go_simp; try with_reducible rfl)
    simp only [Act.put, List.getElem_toArray, List.getElem_cons_zero, List.setIfInBounds_toArray, List.set_cons_zero, List.set_cons_succ]
    refine wpAnyH_take (i := 1) (v := ?_) rfl (by kernel_rfl) (by kernel_rfl) (by kernel_rfl) (fun _ _ _ h => h) (Or.inl ⟨by rfl, ?_⟩) (by assumption) ?_
    rotate_left
    · (intro w hSw; (try dsimp only at hSw); go_simp; try with_reducible rfl)
    simp only [Act.put, List.getElem_toArray, List.getElem_cons_zero, List.getElem_cons_succ, List.setIfInBounds_toArray, List.set_cons_zero, List.set_cons_succ]
    refine wpAnyH_take (i := 2) (v := ?_) rfl (by kernel_rfl) (by kernel_rfl) (by kernel_rfl) (fun _ _ _ h => h) (Or.inl ⟨by rfl, ?_⟩) (by assumption) ?_
    rotate_left
    · (intro w hSw; (try dsimp only at hSw); go_simp; try with_reducible rfl)
    simp only [Act.put, List.getElem_toArray, List.getElem_cons_zero, List.getElem_cons_succ, List.setIfInBounds_toArray, List.set_cons_zero, List.set_cons_succ]
    refine wpAnyH_take (i := 3) (v := ?_) rfl (by kernel_rfl) (by kernel_rfl) (by kernel_rfl) (fun _ _ _ h => h) (Or.inl ⟨by rfl, ?_⟩) (by assumption) ?_
    rotate_left
    · (intro w hSw; (try dsimp only at hSw); go_simp; try with_reducible rfl)
    simp only [Act.put, List.getElem_toArray, List.getElem_cons_zero, List.getElem_cons_succ, List.setIfInBounds_toArray, List.set_cons_zero, List.set_cons_succ]
    refine wpAnyH_take (i := 4) (v := ?_) rfl (by kernel_rfl) (by kernel_rfl) (by kernel_rfl) (fun _ _ _ h => h) (Or.inl ⟨by rfl, ?_⟩) (by assumption) ?_
    rotate_left
    · (intro w hSw; (try dsimp only at hSw); go_simp; try with_reducible rfl)
    simp only [Act.put, List.getElem_toArray, List.getElem_cons_zero, List.getElem_cons_succ, List.setIfInBounds_toArray, List.set_cons_zero, List.set_cons_succ]
    refine wpAnyH_take (i := 5) (v := ?_) rfl (by kernel_rfl) (by kernel_rfl) (by kernel_rfl) (fun _ _ _ h => h) (Or.inl ⟨by rfl, ?_⟩) (by assumption) ?_
    rotate_left
    · (intro w hSw; (try dsimp only at hSw); go_simp; try with_reducible rfl)
    simp only [Act.put, List.getElem_toArray, List.getElem_cons_zero, List.getElem_cons_succ, List.setIfInBounds_toArray, List.set_cons_zero, List.set_cons_succ]
    refine wpAnyH_take (i := 6) (v := ?_) rfl (by kernel_rfl) (by kernel_rfl) (by kernel_rfl) (fun _ _ _ h => h) (Or.inl ⟨by rfl, ?_⟩) (by assumption) ?_
    rotate_left
    · (intro w hSw; (try dsimp only at hSw); go_simp; try with_reducible rfl)
    simp only [Act.put, List.getElem_toArray, List.getElem_cons_zero, List.getElem_cons_succ, List.setIfInBounds_toArray, List.set_cons_zero, List.set_cons_succ]
    refine wpAnyH_take (i := 7) (v := ?_) rfl (by kernel_rfl) (by kernel_rfl) (by kernel_rfl) (fun _ _ _ h => h) (Or.inl ⟨by rfl, ?_⟩) (by assumption) ?_
    rotate_left
    · (intro w hSw; (try dsimp only at hSw); go_simp; try with_reducible rfl)
    simp only [Act.put, List.getElem_toArray, List.getElem_cons_zero, List.getElem_cons_succ, List.setIfInBounds_toArray, List.set_cons_zero, List.set_cons_succ]
    refine wpAnyH_take (i := 8) (v := ?_) rfl (by kernel_rfl) (by kernel_rfl) (by kernel_rfl) (fun _ _ _ h => h) (Or.inl ⟨by rfl, ?_⟩) (by assumption) ?_
    rotate_left
    · (intro w hSw; (try dsimp only at hSw); go_simp; try with_reducible rfl)
    simp only [Act.put, List.getElem_toArray, List.getElem_cons_zero, List.getElem_cons_succ, List.setIfInBounds_toArray, List.set_cons_zero, List.set_cons_succ]
    refine wpAnyH_take (i := 9) (v := ?_) rfl (by kernel_rfl) (by kernel_rfl) (by kernel_rfl) (fun _ _ _ h => h) (Or.inl ⟨by rfl, ?_⟩) (by assumption) ?_
    rotate_left
    · (intro w hSw; (try dsimp only at hSw); go_simp; try with_reducible rfl)
    simp only [Act.put, List.getElem_toArray, List.getElem_cons_zero, List.getElem_cons_succ, List.setIfInBounds_toArray, List.set_cons_zero, List.set_cons_succ]
    refine wpAnyH_take (i := 10) (v := ?_) rfl (by kernel_rfl) (by kernel_rfl) (by kernel_rfl) (fun _ _ _ h => h) (Or.inl ⟨by rfl, ?_⟩) (by assumption) ?_
    rotate_left
    · (intro w hSw; (try dsimp only at hSw); go_simp; try with_reducible rfl)
    simp only [Act.put, List.getElem_toArray, List.getElem_cons_zero, List.getElem_cons_succ, List.setIfInBounds_toArray, List.set_cons_zero, List.set_cons_succ]
    refine wpAnyH_ready (rs := [11]) (by kernel_rfl) (by simp) ?_
    refine AllReadyH.cons rfl (fun K hK => ?_) AllReadyH.nil
    simp only [List.getElem_toArray, List.getElem_cons_zero, List.getElem_cons_succ]
    go_simp
    refine Calls.mono (H2.out _ HT.out.drew) ?_; rintro e w3 ⟨N, rfl, hB, hN, ht3⟩; have HT3 := toHid (HT.out.drew.trans ht3 (by simp)); have HN := toHid (And.intro hB (show w.heap.size ≤ N from Nat.le_trans HT.out.size hN)); clear hB hN ht3
    go_wp2_with fail
    refine hK.out _ _ ?_ (fun hHeld => ?_)
    · exact HSS.out _ HT3.out
    clear hK K
    try simp only [Act.put, List.getElem_toArray, List.getElem_cons_zero, List.getElem_cons_succ, List.setIfInBounds_toArray, List.set_cons_zero, List.set_cons_succ]
    refine wpAnyH_take (i := 12) (v := ?_) rfl (by kernel_rfl) (by kernel_rfl) (by kernel_rfl) (fun _ _ _ h => h) (Or.inl ⟨by rfl, ?_⟩) (by assumption) ?_
    rotate_left
    · (intro w hSw; (try dsimp only at hSw); go_simp; try with_reducible rfl)
    simp only [Act.put, List.getElem_toArray, List.getElem_cons_zero, List.getElem_cons_succ, List.setIfInBounds_toArray, List.set_cons_zero, List.set_cons_succ]
    refine wpAnyH_take (i := 13) (v := ?_) rfl (by kernel_rfl) (by kernel_rfl) (by kernel_rfl) (fun _ _ _ h => h) (Or.inl ⟨by rfl, ?_⟩) (by assumption) ?_
    rotate_left
    · (intro w hSw; (try dsimp only at hSw); go_simp; try with_reducible rfl)
    simp only [Act.put, List.getElem_toArray, List.getElem_cons_zero, List.getElem_cons_succ, List.setIfInBounds_toArray, List.set_cons_zero, List.set_cons_succ]
    refine wpAnyH_take (i := 14) (v := ?_) rfl (by kernel_rfl) (by kernel_rfl) (by kernel_rfl) (fun _ _ _ h => h) (Or.inl ⟨by rfl, ?_⟩) (by assumption) ?_
    rotate_left
    · (intro w hSw; (try dsimp only at hSw); go_simp; try with_reducible rfl)
    simp only [Act.put, List.getElem_toArray, List.getElem_cons_zero, List.getElem_cons_succ, List.setIfInBounds_toArray, List.set_cons_zero, List.set_cons_succ]
    refine wpAnyH_take (i := 15) (v := ?_) rfl (by kernel_rfl) (by kernel_rfl) (by kernel_rfl) (fun _ _ _ h => h) (Or.inl ⟨by rfl, ?_⟩) (by assumption) ?_
    rotate_left
    · (intro w hSw; (try dsimp only at hSw); go_simp; try with_reducible rfl)
    simp only [Act.put, List.getElem_toArray, List.getElem_cons_zero, List.getElem_cons_succ, List.setIfInBounds_toArray, List.set_cons_zero, List.set_cons_succ]
    refine wpAnyH_take (i := 16) (v := ?_) rfl (by kernel_rfl) (by kernel_rfl) (by kernel_rfl) (fun _ _ _ h => h) (Or.inl ⟨by rfl, ?_⟩) (by assumption) ?_
    rotate_left
    · (intro w hSw; (try dsimp only at hSw); go_simp; try with_reducible rfl)
    simp only [Act.put, List.getElem_toArray, List.getElem_cons_zero, List.getElem_cons_succ, List.setIfInBounds_toArray, List.set_cons_zero, List.set_cons_succ]
    refine wpAnyH_done (by kernel_rfl) ?_ _
    obtain ⟨_, _, c17⟩ := HSS.out _ HT3.out
    clear hHeld
    have hA : (⟨N, rg.bytes.length, rg.bytes⟩ : KR).At w3 := ⟨⟨[], by rw [List.append_nil]; exact HN.out.1⟩, HK.out.1, HK.out.2.2.1, HK.out.2.1, Nat.le_refl _⟩
    obtain ⟨g', cap', w4, hr4, hR4, ht4, hg4⟩ := (HR.out.ring.rows.still HT3.out).push ⟨N, rg.bytes.length, rg.bytes⟩ hA (fun e => by have := HR.out.ring.rows.lt _ (mem_g e); have := HN.out.2; dsimp only at *; omega) HK.out.2.2.2
    obtain ⟨e17, f17⟩ := HS17.out _ _ HT3.out ht4
    have hP := HR.out.pushed HT3.out hA HN.out.2 hR4 ht4 hg4
    have HP := toHid hP
    have HR4 := toHid hr4
    have H4 := toHid (H3.out _ _ hP rfl)
    clear hA hR4 ht4 hg4 hr4 hP H3
    rw [HRR.out] at H4
    unfold KR.v at HR4
    unfold slV at c17 HR4 e17 HP H4
    generalize x.l.length = ln at *
    generalize (Option.map (fun b => (⟨b, 0, none⟩ : Addr)) g') = ga' at *
    generalize (Option.map (fun b => (⟨b, 0, none⟩ : Addr)) x.g) = ga at *
    go_wp2_with (first | (at_builtin; refine Lib.wpList_append_run _ rfl _ _ _ _ rfl _ _ rfl rfl _ _ HR4.out ?_))
    refine Calls.mono H4.out ?_
    rintro e w5 ⟨rfl, s', hrs, hnx, hst⟩
    rw [HRR.out] at HP
    have HG := toHid (HF.out _ _ s' _ g' cap' HP.out rfl hrs hnx hst)
    clear hrs hnx hst HF
    go_wp2
    go_ret
    exact HG.out
set_option maxRecDepth 100000 in
theorem greserve_nil (size : Int) (w : World) : Calls Try.prog 12 #[.pointer none, .int .u64 size] w fun e w' => e = .returned (.tuple #[.int .u64 0, .int .i64 1]) ∧ w' = w := by
  go_enter Try.func12, Try.ntmps12
  go_wp2
  go_ret2
  exact ⟨rfl, rfl⟩
set_option maxRecDepth 100000 in
theorem gsubmit_nil (addr : Int) (w : World) : Calls Try.prog 14 #[.pointer none, .int .u64 addr] w fun e w' => e = .returned (.int .i64 1) ∧ w' = w := by
  go_enter Try.func14, Try.ntmps14
  go_wp2
  go_ret
  exact ⟨rfl, rfl⟩
set_option maxRecDepth 100000 in
theorem gdiscard_nil (addr : Int) (w : World) : Calls Try.prog 17 #[.pointer none, .int .u64 addr] w fun e w' => e = .returned (.int .i64 1) ∧ w' = w := by
  go_enter Try.func17, Try.ntmps17
  go_wp2
  go_ret
  exact ⟨rfl, rfl⟩
set_option maxRecDepth 100000 in
theorem gopen_nil (w : World) : Calls Try.prog 20 #[.pointer none] w fun e w' => e = .returned (.int .i64 0) ∧ w' = w := by
  go_enter Try.func20, Try.ntmps20
  go_wp2
  go_ret
  exact ⟨rfl, rfl⟩
set_option maxRecDepth 100000 in
theorem gout_nil (w : World) : Calls Try.prog 24 #[.pointer none] w fun e w' => e = .returned (.slice none 0 0) ∧ w' = w := by
  go_enter Try.func24, Try.ntmps24
  go_wp2
  go_ret
  exact ⟨rfl, rfl⟩
end Go.Proofs.Ytkfmhabplcikiaa.Ring
