/-
  A ring of a call's own, with no region but its records'.
-/
import Derived.Test.YtkfmhabplcikiaaGSub
namespace Go.Proofs.Ytkfmhabplcikiaa.Ring
open Go.RowKit
attribute [local go_sem ↓] Go.wp_at_zero Go.wp_at_succ

/-- A region, behind a store. -/
theorem store_there {w : World} {s : Mem.MS} (_h : Mem.MemAt w s) (addr n v : Int) {r : Mem.Reg} (hr : r ∈ s.rs) : ∃ r' ∈ Mem.storeRs s.rs addr n v, r'.id = r.id ∧ r'.base = r.base ∧ r'.bytes.length = r.bytes.length ∧ r'.perm = r.perm := by
  unfold Mem.storeRs
  split
  · unfold Mem.layRs
    split
    · exact ⟨r, hr, rfl, rfl, rfl, rfl⟩
    · rename_i r0 hf
      split
      · rename_i hm
        by_cases hid : r.id = r0.id
        · refine ⟨Mem.layR r _ _, List.mem_map.2 ⟨r, hr, if_pos hid⟩, rfl, rfl, ?_, rfl⟩
          have hr0 := (Mem.findR_mem hf).1
          obtain rfl := id_eq _h hr0 hr hid
          have hb := (Mem.findR_mem hf).2
          unfold Mem.hasB at hb
          unfold Mem.mayB at hm
          rw [decide_eq_true_eq] at hb hm
          exact Mem.layR_len (by omega)
        · exact ⟨r, List.mem_map.2 ⟨r, hr, if_neg hid⟩, rfl, rfl, rfl, rfl⟩
      · exact ⟨r, hr, rfl, rfl, rfl, rfl⟩
  · exact ⟨r, hr, rfl, rfl, rfl, rfl⟩
theorem store_back {w : World} {s : Mem.MS} (_h : Mem.MemAt w s) (addr n v : Int) {r' : Mem.Reg} (hr : r' ∈ Mem.storeRs s.rs addr n v) : ∃ r ∈ s.rs, r'.id = r.id ∧ r'.base = r.base ∧ r'.perm = r.perm := by
  unfold Mem.storeRs at hr
  split at hr
  · unfold Mem.layRs at hr
    split at hr
    · exact ⟨r', hr, rfl, rfl, rfl⟩
    · split at hr
      · unfold Mem.updR at hr
        obtain ⟨y, hy, rfl⟩ := List.mem_map.1 hr
        refine ⟨y, hy, ?_⟩
        split <;> exact ⟨rfl, rfl, rfl⟩
      · exact ⟨r', hr, rfl, rfl, rfl⟩
  · exact ⟨r', hr, rfl, rfl, rfl⟩
theorem store_len {s : Mem.MS} (addr n v : Int) : (Mem.storeRs s.rs addr n v).length = s.rs.length := by
  unfold Mem.storeRs
  split
  · unfold Mem.layRs
    split
    · rfl
    · split
      · unfold Mem.updR
        rw [List.length_map]
      · rfl
  · rfl
theorem GBoth.store {w w' : World} {x : RG} {s : Mem.MS} (h : GBoth w x s) {addr n v : Int} {e : Ending} (hp : Mem.StorePost w s addr n v e w') : GStep w w' x x s { s with rs := Mem.storeRs s.rs addr n v } := by
  obtain ⟨_, ht, hM, hb⟩ := hp
  refine ⟨⟨h.ring.touch ht h.apart, hM, h.at_, by rw [hb]; exact h.apart, fun k i hk => ?_⟩, rfl, rfl, ht.mono (fun b hb => Or.inl (List.mem_append_right _ hb)), fun b hb => Or.inl hb, fun b hb' => Or.inl (by rw [hb] at hb'; exact hb')⟩
  obtain ⟨r, hr, h1, h2, h3⟩ := h.held k i hk
  obtain ⟨r', hr', e1, e2, e3, _⟩ := store_there h.mem addr n v hr
  exact ⟨r', hr', e1.trans h1, e2.trans h2, by omega⟩
structure GSolo (w0 w : World) (x : RG) (s : Mem.MS) : Prop where
  b : GBoth w x s
  own : ∀ b, b ∈ x.blocks ∨ b ∈ s.blocks → w0.heap.size ≤ b
  touch : Touch [] w0 w
  only : ∀ r ∈ s.rs, r.perm = 3 ∧ ∃ n i : Nat, x.recs[n]? = some (some i) ∧ r.id = i
theorem GSolo.still {w0 w w' : World} {x : RG} {s : Mem.MS} (h : GSolo w0 w x s) (ht : Touch [] w w') : GSolo w0 w' x s := ⟨h.b.still ht, h.own, h.touch.trans ht (by simp), h.only⟩
theorem GSolo.step {w0 w w' : World} {x x' : RG} {s s' : Mem.MS} (h : GSolo w0 w x s) (st : GStep w w' x x' s s') (ho : ∀ r ∈ s'.rs, r.perm = 3 ∧ ∃ n i : Nat, x'.recs[n]? = some (some i) ∧ r.id = i) : GSolo w0 w' x' s' := by
  have hz := h.touch.size
  refine ⟨st.both, fun b hb => ?_, h.touch.trans st.touch (fun b hb => Or.inr (h.own b (List.mem_append.1 hb))), ho⟩
  rcases hb with hb | hb
  · rcases st.xb b hb with h1 | h1
    · exact h.own b (Or.inl h1)
    · omega
  · rcases st.sb b hb with h1 | h1
    · exact h.own b (Or.inr h1)
    · omega
theorem GSolo.place {w0 w : World} {x : RG} {s : Mem.MS} (h : GSolo w0 w x s) {r : Mem.Reg} (hr : r ∈ s.rs) : ∃ n i : Nat, x.recs[n]? = some (some i) ∧ r.id = i ∧ r.base = placeI n ∧ r.bytes.length ≤ 64 := by
  obtain ⟨_, n, i, hn, hi⟩ := h.only r hr
  obtain ⟨r2, hr2, h1, h2, h3⟩ := h.b.held n i hn
  obtain rfl := id_eq h.b.mem hr hr2 (by rw [h1, hi])
  exact ⟨n, i, hn, hi, h2, h3⟩
theorem GSolo.addE {w0 w : World} {x : RG} {s : Mem.MS} (h : GSolo w0 w x s) {n : Nat} (hn : x.recs[n]? = some none) (hn8 : n < 8) {size : Int} (z1 : 1 ≤ size) (z2 : size ≤ 64) (hl : s.rs.length < 4096) : Mem.addE s.rs (placeI n) size 3 = 0 := by
  have hp : 0 ≤ placeI n ∧ placeI n + size ≤ 18446744073709551616 := by unfold placeI; omega
  have h1 : Mem.mayBeB (placeI n) size 3 = true := by
    unfold Mem.mayBeB
    rw [decide_eq_true_eq]
    omega
  have h2 : Mem.busyB s.rs (placeI n) size = false := by
    unfold Mem.busyB
    rw [List.any_eq_false]
    intro r hr
    obtain ⟨n', i, hn', _, hb, hlen⟩ := h.place hr
    have hne : n ≠ n' := fun e => by
      subst e
      rw [hn] at hn'
      cases hn'
    rw [decide_eq_true_eq]
    intro hh
    rw [hb] at hh
    unfold placeI at hh
    omega
  unfold Mem.addE
  rw [if_neg (by rw [h1]; decide), if_neg (by rw [h2]; decide), if_neg (by omega)]
/-- Reserve, where there is room. -/
theorem GSolo.reserve {w0 w : World} {x : RG} {s : Mem.MS} (h : GSolo w0 w x s) {n : Nat} (hn8 : n < 8) (hf : freeI x.recs = n) (hn : x.recs[n]? = some none) {size : Int} (z1 : 1 ≤ size) (z2 : size ≤ 64) (hl : s.rs.length < 4096) (hnx : s.next < 4611686018427387904) :
    Calls Try.prog 12 #[.pointer (some ⟨x.r, 0, none⟩), .int .u64 size] w fun e w' => e = .returned (.tuple #[.int .u64 (placeI n), .int .i64 0]) ∧ ∃ (s' : Mem.MS) (r : Mem.Reg) (i : Nat), i ≤ s.rs.length ∧ s'.rs = s.rs.take i ++ r :: s.rs.drop i ∧ s'.next = s.next + 1 ∧ Mem.NewReg r s.next (placeI n) size 3 ∧ s'.m = s.m ∧ GStep w w' x { x with recs := x.recs.set n (some s.next) } s s' ∧ GSolo w0 w' { x with recs := x.recs.set n (some s.next) } s' := by
  refine (greserve_any h.b hnx size (by omega) (by omega)).mono ?_
  rintro e w' ⟨he, hst⟩
  have hp : (resP x.recs size fun b => Mem.addE s.rs b size 3) = (placeI n, 0) := by
    unfold resP
    rw [if_neg (by omega), if_neg (by rw [hf]; omega), hf, if_pos (h.addE hn hn8 z1 z2 hl)]
  rw [hp] at he hst
  rcases hst with ⟨hne, _⟩ | ⟨n', i, r, s', _, hf', _, _, _, hi, hrs, hnx', hr, hst⟩
  · exact absurd rfl hne
  · obtain rfl : n' = n := by rw [hf] at hf'; omega
    refine ⟨he, s', r, i, hi, hrs, hnx', hr, hst.m, hst, h.step hst fun r' hr' => ?_⟩
    rw [hrs] at hr'
    have hl8 := h.b.ring.eight
    have hcase : r' = r ∨ r' ∈ s.rs := by
      rcases List.mem_append.1 hr' with h1 | h1
      · exact Or.inr (List.mem_of_mem_take h1)
      · rcases List.mem_cons.1 h1 with h1 | h1
        · exact Or.inl h1
        · exact Or.inr (List.mem_of_mem_drop h1)
    rcases hcase with rfl | h1
    · exact ⟨hr.hperm, n', s.next, by rw [List.getElem?_set, if_pos rfl, if_pos (by omega)], hr.hid⟩
    · obtain ⟨h2, m, i', h3, h4⟩ := h.only r' h1
      refine ⟨h2, m, i', ?_, h4⟩
      rw [List.getElem?_set, if_neg (fun e => by subst e; rw [hn] at h3; cases h3)]
      exact h3
theorem GSolo.full {w0 w : World} {x : RG} {s : Mem.MS} (h : GSolo w0 w x s) (hf : freeI x.recs = -1) {size : Int} (z1 : 1 ≤ size) (z2 : size ≤ 64) (hnx : s.next < 4611686018427387904) :
    Calls Try.prog 12 #[.pointer (some ⟨x.r, 0, none⟩), .int .u64 size] w fun e w' => e = .returned (.tuple #[.int .u64 0, .int .i64 71]) ∧ GStep w w' x x s s ∧ GSolo w0 w' x s := by
  refine (greserve_any h.b hnx size (by omega) (by omega)).mono ?_
  rintro e w' ⟨he, hst⟩
  have hp : (resP x.recs size fun b => Mem.addE s.rs b size 3) = (0, 71) := by
    unfold resP
    rw [if_neg (by omega), if_pos (by rw [hf]; decide)]
  rw [hp] at he hst
  rcases hst with ⟨_, hst⟩ | ⟨n', _, _, _, _, hf', _⟩
  · exact ⟨he, hst, h.step hst h.only⟩
  · rw [hf] at hf'; omega
/-- A record that ends takes its region along. -/
theorem GSolo.killed {w0 w w' : World} {x x' : RG} {s s' : Mem.MS} (h : GSolo w0 w x s) {n i : Nat} (hn : x.recs[n]? = some (some i)) (hrs : s'.rs = Mem.killRs s.rs i) (hx : x'.recs = x.recs.set n none) (st : GStep w w' x x' s s') : GSolo w0 w' x' s' := by
  refine h.step st fun r hr => ?_
  rw [hrs] at hr
  unfold Mem.killRs at hr
  obtain ⟨h1, h2⟩ := List.mem_filter.1 hr
  obtain ⟨hp, m, i', h3, h4⟩ := h.only r h1
  refine ⟨hp, m, i', ?_, h4⟩
  have hne : n ≠ m := fun e => by
    subst e
    rw [hn] at h3
    injection h3 with h3
    injection h3 with h3
    rw [h4, h3] at h2
    simp at h2
  rw [hx, List.getElem?_set, if_neg hne]
  exact h3
theorem GSolo.store {w0 w w' : World} {x : RG} {s : Mem.MS} (h : GSolo w0 w x s) {addr n v : Int} {e : Ending} (hp : Mem.StorePost w s addr n v e w') : GSolo w0 w' x { s with rs := Mem.storeRs s.rs addr n v } := by
  refine h.step (h.b.store hp) fun r hr => ?_
  obtain ⟨r0, hr0, e1, e2, e3⟩ := store_back h.b.mem addr n v hr
  obtain ⟨hp, m, i, h1, h2⟩ := h.only r0 hr0
  exact ⟨e3.trans hp, m, i, h1, e1.trans h2⟩
theorem bits32 : bits .and .i64 3 2 ≠ 0 := by decide
/-- A byte stored in a memory of one region. -/
theorem store_one {r : Mem.Reg} {off : Nat} (hp : r.perm = 3) (ho : off < r.bytes.length) (v : Int) : Mem.storeE [r] (r.base + off) 1 = 0 ∧ Mem.storeRs [r] (r.base + off) 1 v = [Mem.layR r off [Mem.byteOf v 0]] := by
  have hh : Mem.hasB r (r.base + off) = true := by
    unfold Mem.hasB
    rw [decide_eq_true_eq]
    omega
  have hf : Mem.findR [r] (r.base + off) = some r := by rw [Mem.findR_one, if_pos hh]
  have hm : Mem.mayB r (r.base + off) 1 2 = true := by
    unfold Mem.mayB
    rw [decide_eq_true_eq, hp]
    exact ⟨by omega, bits32⟩
  constructor
  · unfold Mem.storeE Mem.layE
    rw [if_pos (by decide), hf]
    dsimp only
    rw [if_pos hm]
  · unfold Mem.storeRs Mem.layRs
    rw [if_pos (by decide), hf]
    dsimp only
    have hb : (List.range (1 : Int).toNat).map (Mem.byteOf v) = [Mem.byteOf v 0] := rfl
    rw [hb]
    rw [if_pos (by exact hm)]
    unfold Mem.updR
    rw [List.map_cons, if_pos rfl, List.map_nil]
    rw [show (r.base + (off : Int) - r.base).toNat = off by omega]
theorem store_out {r : Mem.Reg} (v : Int) : Mem.storeE [r] (r.base + r.bytes.length) 1 = 10 ∧ Mem.storeRs [r] (r.base + r.bytes.length) 1 v = [r] := by
  have hh : Mem.hasB r (r.base + r.bytes.length) = false := by
    unfold Mem.hasB
    rw [decide_eq_false_iff_not]
    omega
  have hf : Mem.findR [r] (r.base + r.bytes.length) = none := by rw [Mem.findR_one, hh]; rfl
  constructor
  · unfold Mem.storeE Mem.layE
    rw [if_pos (by decide), hf]
  · unfold Mem.storeRs Mem.layRs
    rw [if_pos (by decide), hf]
theorem GSolo.new {w0 w w' : World} {s : Mem.MS} (h : GBoth w' (RG.new w.heap.size s.m) s) (hrs : s.rs = []) (h0 : Touch [] w0 w) (ht : Touch [] w w') (ho : ∀ b ∈ s.blocks, w0.heap.size ≤ b) : GSolo w0 w' (RG.new w.heap.size s.m) s := by
  refine ⟨h, fun b hb => ?_, h0.trans ht (by simp), fun r hr => by rw [hrs] at hr; cases hr⟩
  have := h0.size
  rcases hb with hb | hb
  · have : b = w.heap.size := by simpa [RG.blocks, RG.new, rowsBl] using hb
    omega
  · exact ho b hb
end Go.Proofs.Ytkfmhabplcikiaa.Ring
