/-
  twin: an equal region that shares nothing with the first.
-/
import Derived.Test.YtbidppeelophhaaBoth
import Derived.Deep.RegionHeld3
import Derived.Deep.DrawnRows
namespace Go.Proofs.Ytbidppeelophhaa
open Go.RowKit
attribute [local go_sem ↓] Go.wp_at_zero Go.wp_at_succ

theorem copy_nil (w : World) (ty : TypeId) : (Builtin.copy_ #[42, 42] ty #[.slice none 0 0, .slice none 0 0]).run Try.prog w = .ok (goInt 0) w := by
  obtain ⟨i, hi, _⟩ := info_of info4
  simp [Builtin.copy_, run_underlying Try.underlying42, hi, sizeOf, typeInfo, Builtin.lenOf, Builtin.firstCells]

/-- An equal region of the call's own. -/
def TwinPost (w : World) (r : Reg) (e : Ending) (w' : World) : Prop := ∃ r2 : Reg, e = .returned r2.ptr ∧ RegAt w' r2 ∧ RegOk r2 ∧ r2.id = r.id ∧ r2.base = r.base ∧ r2.perm = r.perm ∧ r2.bytes = r.bytes ∧ r2.set = r.set ∧ (r2.sb = none ↔ r.sb = none) ∧
  (∀ x ∈ r2.blocks, w.heap.size ≤ x) ∧ Touch [] w w'

set_option maxHeartbeats 2000000 in
set_option maxRecDepth 100000 in
theorem twin_any {w : World} {r : Reg} (h : RegAt w r) (ok : RegOk r) : Calls Try.prog 35 #[r.ptr] w (TwinPost w r) := by
  have c0 := h.c0
  have c1 := h.c1
  have c2 := h.c2
  have c3 := h.c3
  have HN := toHid (newRegion_any r.id r.base r.perm r.bytes.length w.drew ok.size1 ok.size2 ok.perm0 ok.perm1 ok.base0 ok.fits)
  have HH := toHid (And.intro h ok)
  obtain ⟨n, hn⟩ : ∃ n, r.bytes.length = n := ⟨_, rfl⟩
  rw [hn] at c3 HN
  have HLN := toHid hn
  clear h ok hn
  simp only [Reg.ptr]
  go_enter Try.func35, Try.ntmps35
  go_wp2_with fail
  refine wp_region_held_drew (S := (fun w' => w'.cell? ⟨r.p, 0, none⟩ = some (.int .i64 r.id) ∧ w'.cell? ⟨r.p, 1, none⟩ = some (.int .u64 r.base) ∧ w'.cell? ⟨r.p, 2, none⟩ = some (.int .i64 r.perm) ∧ w'.cell? ⟨r.p, 3, none⟩ = some (.slice (some ⟨r.bb, 0, none⟩) n n))) (by kernel_rfl) ?_ (fun hHeld => ?_)
  · exact ⟨c0, c1, c2, c3⟩
  refine wpAnyH_take (i := 0) (v := ?_) rfl (by kernel_rfl) (by kernel_rfl) (by kernel_rfl) (fun _ _ _ h => h) (Or.inl ⟨by rfl, ?_⟩) (by assumption) ?_
  rotate_left
  · (intro w hSw; (try dsimp only at hSw); go_simp; try with_reducible rfl)
  simp only [Act.put, List.getElem_toArray, List.getElem_cons_zero, List.setIfInBounds_toArray, List.set_cons_zero, List.set_cons_succ]
  refine wpAnyH_take (i := 1) (v := ?_) rfl (by kernel_rfl) (by kernel_rfl) (by kernel_rfl) (fun _ _ _ h => h) (Or.inl ⟨by rfl, ?_⟩) (by assumption) ?_
  rotate_left
  · (intro w hSw; (try dsimp only at hSw); go_simp; try with_reducible rfl)
  simp only [Act.put, List.getElem_toArray, List.getElem_cons_zero, List.getElem_cons_succ, List.setIfInBounds_toArray, List.set_cons_zero, List.set_cons_succ]
  refine wpAnyH_take (i := 2) (v := ?_) rfl (by kernel_rfl) (by kernel_rfl) (by kernel_rfl) (fun _ _ _ h => h) (Or.inl ⟨by rfl, ?_⟩) (by assumption) ?_
  rotate_left
  · (intro w hSw; (try dsimp only at hSw); go_simp; try with_reducible rfl)
  simp only [Act.put, List.getElem_toArray, List.getElem_cons_zero, List.getElem_cons_succ, List.setIfInBounds_toArray, List.set_cons_zero, List.set_cons_succ]
  refine wpAnyH_take (i := 3) (v := ?_) rfl (by kernel_rfl) (by kernel_rfl) (by kernel_rfl) (fun _ _ _ h => h) (Or.inl ⟨by rfl, ?_⟩) (by assumption) ?_
  rotate_left
  · (intro w hSw; (try dsimp only at hSw); go_simp; try with_reducible rfl)
  simp only [Act.put, List.getElem_toArray, List.getElem_cons_zero, List.getElem_cons_succ, List.setIfInBounds_toArray, List.set_cons_zero, List.set_cons_succ]
  refine wpAnyH_take (i := 4) (v := ?_) rfl (by kernel_rfl) (by kernel_rfl) (by kernel_rfl) (fun _ _ _ h => h) (Or.inl ⟨by rfl, ?_⟩) (by assumption) ?_
  rotate_left
  · (intro w hSw; (try dsimp only at hSw); go_simp; try with_reducible rfl)
  simp only [Act.put, List.getElem_toArray, List.getElem_cons_zero, List.getElem_cons_succ, List.setIfInBounds_toArray, List.set_cons_zero, List.set_cons_succ]
  refine wpAnyH_take (i := 5) (v := ?_) rfl (by kernel_rfl) (by kernel_rfl) (by kernel_rfl) (fun _ _ _ h => h) (Or.inl ⟨by rfl, ?_⟩) (by assumption) ?_
  rotate_left
  · (intro w hSw; (try dsimp only at hSw); go_simp; try with_reducible rfl)
  simp only [Act.put, List.getElem_toArray, List.getElem_cons_zero, List.getElem_cons_succ, List.setIfInBounds_toArray, List.set_cons_zero, List.set_cons_succ]
  refine wpAnyH_take (i := 6) (v := ?_) rfl (by kernel_rfl) (by kernel_rfl) (by kernel_rfl) (fun _ _ _ h => h) (Or.inl ⟨by rfl, ?_⟩) (by assumption) ?_
  rotate_left
  · (intro w hSw; (try dsimp only at hSw); go_simp; try with_reducible rfl)
  simp only [Act.put, List.getElem_toArray, List.getElem_cons_zero, List.getElem_cons_succ, List.setIfInBounds_toArray, List.set_cons_zero, List.set_cons_succ]
  refine wpAnyH_take (i := 7) (v := ?_) rfl (by kernel_rfl) (by kernel_rfl) (by kernel_rfl) (fun _ _ _ h => h) (Or.inl ⟨by rfl, ?_⟩) (by assumption) ?_
  rotate_left
  · (intro w hSw; (try dsimp only at hSw); go_simp; try with_reducible rfl)
  simp only [Act.put, List.getElem_toArray, List.getElem_cons_zero, List.getElem_cons_succ, List.setIfInBounds_toArray, List.set_cons_zero, List.set_cons_succ]
  refine wpAnyH_take (i := 8) (v := ?_) rfl (by kernel_rfl) (by kernel_rfl) (by kernel_rfl) (fun _ _ _ h => h) (Or.inl ⟨by rfl, ?_⟩) (by assumption) ?_
  rotate_left
  · (intro w hSw; (try dsimp only at hSw); go_simp; try with_reducible rfl)
  simp only [Act.put, List.getElem_toArray, List.getElem_cons_zero, List.getElem_cons_succ, List.setIfInBounds_toArray, List.set_cons_zero, List.set_cons_succ]
  refine wpAnyH_take (i := 9) (v := ?_) rfl (by kernel_rfl) (by kernel_rfl) (by kernel_rfl) (fun _ _ _ h => h) (Or.inl ⟨by rfl, ?_⟩) (by assumption) ?_
  rotate_left
  · (intro w hSw; (try dsimp only at hSw); go_simp; try with_reducible rfl)
  simp only [Act.put, List.getElem_toArray, List.getElem_cons_zero, List.getElem_cons_succ, List.setIfInBounds_toArray, List.set_cons_zero, List.set_cons_succ]
  refine wpAnyH_take (i := 10) (v := ?_) rfl (by kernel_rfl) (by kernel_rfl) (by kernel_rfl) (fun _ _ _ h => h) (Or.inl ⟨by rfl, ?_⟩) (by assumption) ?_
  rotate_left
  · (intro w hSw; (try dsimp only at hSw); go_simp; try with_reducible rfl)
  simp only [Act.put, List.getElem_toArray, List.getElem_cons_zero, List.getElem_cons_succ, List.setIfInBounds_toArray, List.set_cons_zero, List.set_cons_succ]
  refine wpAnyH_take (i := 11) (v := ?_) rfl (by kernel_rfl) (by kernel_rfl) (by kernel_rfl) (fun _ _ _ h => h) (Or.inl ⟨by rfl, ?_⟩) (by assumption) ?_
  rotate_left
  · (intro w hSw; (try dsimp only at hSw); go_simp; try with_reducible rfl)
  simp only [Act.put, List.getElem_toArray, List.getElem_cons_zero, List.getElem_cons_succ, List.setIfInBounds_toArray, List.set_cons_zero, List.set_cons_succ]
  refine wpAnyH_take (i := 12) (v := ?_) rfl (by kernel_rfl) (by kernel_rfl) (by kernel_rfl) (fun _ _ _ h => h) (Or.inl ⟨by rfl, ?_⟩) (by assumption) ?_
  rotate_left
  · (intro w hSw; (try dsimp only at hSw); go_simp; try with_reducible rfl)
  simp only [Act.put, List.getElem_toArray, List.getElem_cons_zero, List.getElem_cons_succ, List.setIfInBounds_toArray, List.set_cons_zero, List.set_cons_succ]
  refine wpAnyH_take (i := 13) (v := ?_) rfl (by kernel_rfl) (by kernel_rfl) (by kernel_rfl) (fun _ _ _ h => h) (Or.inl ⟨by rfl, ?_⟩) (by assumption) ?_
  rotate_left
  · (intro w hSw; (try dsimp only at hSw); go_simp; try with_reducible rfl)
  simp only [Act.put, List.getElem_toArray, List.getElem_cons_zero, List.getElem_cons_succ, List.setIfInBounds_toArray, List.set_cons_zero, List.set_cons_succ]
  refine wpAnyH_take (i := 14) (v := ?_) rfl (by kernel_rfl) (by kernel_rfl) (by kernel_rfl) (fun _ _ _ h => h) (Or.inl ⟨by rfl, ?_⟩) (by assumption) ?_
  rotate_left
  · (intro w hSw; (try dsimp only at hSw); go_simp; try with_reducible rfl)
  simp only [Act.put, List.getElem_toArray, List.getElem_cons_zero, List.getElem_cons_succ, List.setIfInBounds_toArray, List.set_cons_zero, List.set_cons_succ]
  refine wpAnyH_take (i := 15) (v := ?_) rfl (by kernel_rfl) (by kernel_rfl) (by kernel_rfl) (fun _ _ _ h => h) (Or.inl ⟨by rfl, ?_⟩) (by assumption) ?_
  rotate_left
  · (intro w hSw; (try dsimp only at hSw); go_simp; try with_reducible rfl)
  simp only [Act.put, List.getElem_toArray, List.getElem_cons_zero, List.getElem_cons_succ, List.setIfInBounds_toArray, List.set_cons_zero, List.set_cons_succ]
  refine wpAnyH_take (i := 16) (v := ?_) rfl (by kernel_rfl) (by kernel_rfl) (by kernel_rfl) (fun _ _ _ h => h) (Or.inl ⟨by rfl, ?_⟩) (by assumption) ?_
  rotate_left
  · (intro w hSw; (try dsimp only at hSw); go_simp; try with_reducible rfl)
  simp only [Act.put, List.getElem_toArray, List.getElem_cons_zero, List.getElem_cons_succ, List.setIfInBounds_toArray, List.set_cons_zero, List.set_cons_succ]
  refine wpAnyH_ready (rs := [17]) (by kernel_rfl) (by simp) ?_
  refine AllReadyH.cons rfl (fun K hK => ?_) AllReadyH.nil
  simp only [List.getElem_toArray, List.getElem_cons_zero, List.getElem_cons_succ]
  go_simp
  refine HN.out.mono ?_; rintro e w2 ⟨r2, rfl, hr2, hok2, hid2, hba2, hpe2, hby2, hse2, ht2, hbl2⟩; simp only [Reg.ptr]
  go_wp2_with fail
  refine hK.out _ _ ?_ (fun hHeld => ?_)
  · exact ⟨ht2.cell hHeld.1 (by simp), ht2.cell hHeld.2.1 (by simp), ht2.cell hHeld.2.2.1 (by simp), ht2.cell hHeld.2.2.2 (by simp)⟩
  clear hK K
  try simp only [Act.put, List.getElem_toArray, List.getElem_cons_zero, List.getElem_cons_succ, List.setIfInBounds_toArray, List.set_cons_zero, List.set_cons_succ]
  refine wpAnyH_ready (rs := [18]) (by kernel_rfl) (by simp) ?_
  refine AllReadyH.cons rfl (fun K hK => ?_) AllReadyH.nil
  simp only [List.getElem_toArray, List.getElem_cons_zero, List.getElem_cons_succ]
  go_simp
  refine hK.out _ _ ?_ (fun hHeld => ?_)
  · exact hHeld
  clear hK K
  try simp only [Act.put, List.getElem_toArray, List.getElem_cons_zero, List.getElem_cons_succ, List.setIfInBounds_toArray, List.set_cons_zero, List.set_cons_succ]
  refine wpAnyH_done (by kernel_rfl) ?_ _
  have hT2 : Touch [] w w2 := ((Touch.refl [] w).drew).trans ht2 (by simp)
  have hr := HH.out.1.touch hT2 (by simp)
  have hlt := HH.out.1.lt
  have hd3 := hr2.c3
  have he3 := hr.c3
  rw [hby2, List.length_replicate] at hd3
  rw [HLN.out] at he3
  have hb2 := hr2.bytes
  rw [hby2, List.map_replicate] at hb2
  have hcp := fun ty => run_copy_blk (P := Try.prog) w2.drew 31 31 ty 5 Try.underlying31 (size_of_info info5) r2.bb 0 n n ⟨r.bb, 0, none⟩ n n _ 5 (r.bytes.map (Value.int .u8)) hb2.drew (by simp [HLN.out]) (fun j v hj => by
    rw [Addr.add_lit, Nat.zero_add]
    exact hr.bytes.drew.cell hj) (by simp [HLN.out]) (fun v hv => by
      obtain ⟨x, _, rfl⟩ := List.mem_map.1 hv
      rfl)
  have hcs : (List.replicate n (Value.int .u8 0)).take 0 ++ r.bytes.map (Value.int .u8) ++ (List.replicate n (Value.int .u8 0)).drop (0 + (r.bytes.map (Value.int .u8)).length) = r.bytes.map (Value.int .u8) := by
    simp [HLN.out]
  rw [hcs] at hcp
  have hnd := hok2.own
  have hpb : r2.p ≠ r2.bb := fun e => by simp [Reg.blocks, e] at hnd
  have hB3 := hb2.drew.setRow (r.bytes.map (Value.int .u8))
  have hS3 := hr2.self.drew.setRow_other r2.bb (r.bytes.map (Value.int .u8)).toArray hpb
  have hset3 : ∀ s, r2.sb = some s → Blk (w2.drew.setRow r2.bb (r.bytes.map (Value.int .u8)).toArray) s (r2.set.map Value.bool) 4 := fun s hs => (hr2.set s hs).drew.setRow_other r2.bb _ (fun e => by
    subst e
    simp [Reg.blocks, hs] at hnd)
  have hT3 : Touch [] w (w2.drew.setRow r2.bb (r.bytes.map (Value.int .u8)).toArray) := hT2.drew.setRow _ _ (Or.inr (by have := hbl2 r2.bb r2.mem_bb; simpa using this))
  have hr3 := HH.out.1.touch hT3 (by simp)
  have HCP := toHid hcp
  have H3 := toHid (And.intro hB3 (And.intro hS3 (And.intro hset3 (And.intro hT3 hr3))))
  have HI2 := toHid (And.intro hok2 (And.intro hid2 (And.intro hba2 (And.intro hpe2 (And.intro hby2 (And.intro hse2 hbl2))))))
  have k3 := hS3.cell (i := 3) rfl
  have l3 := hr3.c3
  rw [hby2, List.length_replicate] at k3
  rw [HLN.out] at l3
  clear hcp hB3 hS3 hset3 hT3 hr3 hcs hb2 hr hr2 hok2 hid2 hba2 hpe2 hby2 hse2 hbl2 ht2 hT2 hlt hnd hpb HN c0 c1 c2 c3
  generalize w2.drew.setRow r2.bb (r.bytes.map (Value.int .u8)).toArray = w3 at *
  go_wp2_with fail
  refine wp_region_held_drew (S := (fun w' => w'.cell? ⟨r2.p, 3, none⟩ = some (.slice (some ⟨r2.bb, 0, none⟩) n n) ∧ w'.cell? ⟨r.p, 3, none⟩ = some (.slice (some ⟨r.bb, 0, none⟩) n n))) (by kernel_rfl) ?_ (fun hHeld => ?_)
  · exact ⟨hd3, he3⟩
  refine wpAnyH_take (i := 0) (v := ?_) rfl (by kernel_rfl) (by kernel_rfl) (by kernel_rfl) (fun _ _ _ h => h) (Or.inl ⟨by rfl, ?_⟩) (by assumption) ?_
  rotate_left
  · (intro w hSw; (try dsimp only at hSw); go_simp; try with_reducible rfl)
  simp only [Act.put, List.getElem_toArray, List.getElem_cons_zero, List.setIfInBounds_toArray, List.set_cons_zero, List.set_cons_succ]
  refine wpAnyH_take (i := 1) (v := ?_) rfl (by kernel_rfl) (by kernel_rfl) (by kernel_rfl) (fun _ _ _ h => h) (Or.inl ⟨by rfl, ?_⟩) (by assumption) ?_
  rotate_left
  · (intro w hSw; (try dsimp only at hSw); go_simp; try with_reducible rfl)
  simp only [Act.put, List.getElem_toArray, List.getElem_cons_zero, List.getElem_cons_succ, List.setIfInBounds_toArray, List.set_cons_zero, List.set_cons_succ]
  refine wpAnyH_take (i := 2) (v := ?_) rfl (by kernel_rfl) (by kernel_rfl) (by kernel_rfl) (fun _ _ _ h => h) (Or.inl ⟨by rfl, ?_⟩) (by assumption) ?_
  rotate_left
  · (intro w hSw; (try dsimp only at hSw); go_simp; try with_reducible rfl)
  simp only [Act.put, List.getElem_toArray, List.getElem_cons_zero, List.getElem_cons_succ, List.setIfInBounds_toArray, List.set_cons_zero, List.set_cons_succ]
  refine wpAnyH_take (i := 3) (v := ?_) rfl (by kernel_rfl) (by kernel_rfl) (by kernel_rfl) (fun _ _ _ h => h) (Or.inl ⟨by rfl, ?_⟩) (by assumption) ?_
  rotate_left
  · (intro w hSw; (try dsimp only at hSw); go_simp; try with_reducible rfl)
  simp only [Act.put, List.getElem_toArray, List.getElem_cons_zero, List.getElem_cons_succ, List.setIfInBounds_toArray, List.set_cons_zero, List.set_cons_succ]
  refine wpAnyH_take (i := 4) (v := ?_) rfl (by kernel_rfl) (by kernel_rfl) (by kernel_rfl) (fun _ _ _ h => h) (Or.inl ⟨by rfl, ?_⟩) (by assumption) ?_
  rotate_left
  · (intro w hSw; (try dsimp only at hSw); go_simp; try with_reducible rfl)
  simp only [Act.put, List.getElem_toArray, List.getElem_cons_zero, List.getElem_cons_succ, List.setIfInBounds_toArray, List.set_cons_zero, List.set_cons_succ]
  refine wpAnyH_take (i := 5) (v := ?_) rfl (by kernel_rfl) (by kernel_rfl) (by kernel_rfl) (fun _ _ _ h => h) (Or.inl ⟨by rfl, ?_⟩) (by assumption) ?_
  rotate_left
  · (intro w hSw; (try dsimp only at hSw); go_simp; try with_reducible rfl)
  simp only [Act.put, List.getElem_toArray, List.getElem_cons_zero, List.getElem_cons_succ, List.setIfInBounds_toArray, List.set_cons_zero, List.set_cons_succ]
  refine wpAnyH_take (i := 6) (v := ?_) rfl (by kernel_rfl) (by kernel_rfl) (by kernel_rfl) (fun _ _ _ h => h) (Or.inl ⟨by rfl, ?_⟩) (by assumption) ?_
  rotate_left
  · (intro w hSw; (try dsimp only at hSw); go_simp; try with_reducible rfl)
  simp only [Act.put, List.getElem_toArray, List.getElem_cons_zero, List.getElem_cons_succ, List.setIfInBounds_toArray, List.set_cons_zero, List.set_cons_succ]
  refine wpAnyH_take (i := 7) (v := ?_) rfl (by kernel_rfl) (by kernel_rfl) (by kernel_rfl) (fun _ _ _ h => h) (Or.inl ⟨by rfl, ?_⟩) (by assumption) ?_
  rotate_left
  · (intro w hSw; (try dsimp only at hSw); go_simp; try with_reducible rfl)
  simp only [Act.put, List.getElem_toArray, List.getElem_cons_zero, List.getElem_cons_succ, List.setIfInBounds_toArray, List.set_cons_zero, List.set_cons_succ]
  refine wpAnyH_ready (rs := [8]) (by kernel_rfl) (by simp) ?_
  refine AllReadyH.cons rfl (fun K hK => ?_) AllReadyH.nil
  refine step_copy_known rfl _ _ 31 31 rfl (.slice (some ⟨r2.bb, 0, none⟩) n n) (.slice (some ⟨r.bb, 0, none⟩) n n) (by simp [Act.eval]) (by simp [Act.eval]) (HCP.out _) ?_
  refine hK.out _ _ ?_ (fun hHeld => ?_)
  · exact ⟨k3, l3⟩
  clear hK K
  simp only [Act.put, List.getElem_toArray, List.getElem_cons_zero, List.getElem_cons_succ, List.setIfInBounds_toArray, List.set_cons_zero, List.set_cons_succ]
  refine wpAnyH_done (by kernel_rfl) ?_ _
  clear hd3 he3 k3 l3
  have hS3 := H3.out.2.1
  have hr3 := H3.out.2.2.2.2
  have hlen2 : r2.bytes.length = n := by rw [HI2.out.2.2.2.2.1]; simp
  have k4 := hS3.cell (i := 4) rfl
  have l4 := hr3.c4
  have hpl : r2.sb = none ↔ r.sb = none := by rw [HI2.out.1.plain, HI2.out.2.2.2.1, HH.out.2.plain]
  have hcells : ({ r2 with bytes := r.bytes } : Reg).cells = r2.cells := by
    unfold Reg.cells Reg.setV
    simp only
    rw [hlen2, HLN.out]
  cases hsb : r.sb with
  | none =>
    have hsb2 := hpl.2 hsb
    unfold Reg.setV at k4 l4
    rw [hsb2] at k4
    rw [hsb] at l4
    simp only at k4 l4
    have hc2 : ∀ ty, (Builtin.copy_ #[42, 42] ty #[.slice none 0 0, .slice none 0 0]).run Try.prog w3.drew = .ok (goInt 0) w3.drew := fun ty => copy_nil _ ty
    have HF : Hid (TwinPost w r (.returned r2.ptr) w3.drew) := by
      refine ⟨{ r2 with bytes := r.bytes }, rfl, ⟨?_, H3.out.1, fun s hs => ?_⟩, ⟨?_, HH.out.2.size1, HH.out.2.size2, ?_, HI2.out.1.perm0, HI2.out.1.perm1, HI2.out.1.plain, fun s hs => ?_, HI2.out.1.setNil, HH.out.2.byte, HI2.out.1.own⟩, HI2.out.2.1, HI2.out.2.2.1, HI2.out.2.2.2.1, rfl, ?_, hpl, ?_, H3.out.2.2.2.1.drew⟩
      · rw [hcells]
        exact hS3.drew
      · exact absurd hs (by simp [hsb2])
      · exact HI2.out.1.base0
      · have := HH.out.2.fits
        show r2.base + _ ≤ _
        rw [HI2.out.2.2.1]
        exact this
      · exact absurd hs (by simp [hsb2])
      · show r2.set = r.set
        rw [HI2.out.1.setNil hsb2, HH.out.2.setNil hsb]
      · exact HI2.out.2.2.2.2.2.2
    clear hS3 hr3 H3 HI2 HH hpl hcells hsb hsb2 hlen2 HLN
    go_wp2_with fail
    refine wp_region_held_drew (S := (fun w' => w'.cell? ⟨r2.p, 4, none⟩ = some (.slice none 0 0) ∧ w'.cell? ⟨r.p, 4, none⟩ = some (.slice none 0 0))) (by kernel_rfl) ?_ (fun hHeld => ?_)
    · exact ⟨k4, l4⟩
    refine wpAnyH_take (i := 0) (v := ?_) rfl (by kernel_rfl) (by kernel_rfl) (by kernel_rfl) (fun _ _ _ h => h) (Or.inl ⟨by rfl, ?_⟩) (by assumption) ?_
    rotate_left
    · (intro w hSw; (try dsimp only at hSw); go_simp; try with_reducible rfl)
    simp only [Act.put, List.getElem_toArray, List.getElem_cons_zero, List.setIfInBounds_toArray, List.set_cons_zero, List.set_cons_succ]
    refine wpAnyH_take (i := 1) (v := ?_) rfl (by kernel_rfl) (by kernel_rfl) (by kernel_rfl) (fun _ _ _ h => h) (Or.inl ⟨by rfl, ?_⟩) (by assumption) ?_
    rotate_left
    · (intro w hSw; (try dsimp only at hSw); go_simp; try with_reducible rfl)
    simp only [Act.put, List.getElem_toArray, List.getElem_cons_zero, List.getElem_cons_succ, List.setIfInBounds_toArray, List.set_cons_zero, List.set_cons_succ]
    refine wpAnyH_take (i := 2) (v := ?_) rfl (by kernel_rfl) (by kernel_rfl) (by kernel_rfl) (fun _ _ _ h => h) (Or.inl ⟨by rfl, ?_⟩) (by assumption) ?_
    rotate_left
    · (intro w hSw; (try dsimp only at hSw); go_simp; try with_reducible rfl)
    simp only [Act.put, List.getElem_toArray, List.getElem_cons_zero, List.getElem_cons_succ, List.setIfInBounds_toArray, List.set_cons_zero, List.set_cons_succ]
    refine wpAnyH_take (i := 3) (v := ?_) rfl (by kernel_rfl) (by kernel_rfl) (by kernel_rfl) (fun _ _ _ h => h) (Or.inl ⟨by rfl, ?_⟩) (by assumption) ?_
    rotate_left
    · (intro w hSw; (try dsimp only at hSw); go_simp; try with_reducible rfl)
    simp only [Act.put, List.getElem_toArray, List.getElem_cons_zero, List.getElem_cons_succ, List.setIfInBounds_toArray, List.set_cons_zero, List.set_cons_succ]
    refine wpAnyH_take (i := 4) (v := ?_) rfl (by kernel_rfl) (by kernel_rfl) (by kernel_rfl) (fun _ _ _ h => h) (Or.inl ⟨by rfl, ?_⟩) (by assumption) ?_
    rotate_left
    · (intro w hSw; (try dsimp only at hSw); go_simp; try with_reducible rfl)
    simp only [Act.put, List.getElem_toArray, List.getElem_cons_zero, List.getElem_cons_succ, List.setIfInBounds_toArray, List.set_cons_zero, List.set_cons_succ]
    refine wpAnyH_take (i := 5) (v := ?_) rfl (by kernel_rfl) (by kernel_rfl) (by kernel_rfl) (fun _ _ _ h => h) (Or.inl ⟨by rfl, ?_⟩) (by assumption) ?_
    rotate_left
    · (intro w hSw; (try dsimp only at hSw); go_simp; try with_reducible rfl)
    simp only [Act.put, List.getElem_toArray, List.getElem_cons_zero, List.getElem_cons_succ, List.setIfInBounds_toArray, List.set_cons_zero, List.set_cons_succ]
    refine wpAnyH_take (i := 6) (v := ?_) rfl (by kernel_rfl) (by kernel_rfl) (by kernel_rfl) (fun _ _ _ h => h) (Or.inl ⟨by rfl, ?_⟩) (by assumption) ?_
    rotate_left
    · (intro w hSw; (try dsimp only at hSw); go_simp; try with_reducible rfl)
    simp only [Act.put, List.getElem_toArray, List.getElem_cons_zero, List.getElem_cons_succ, List.setIfInBounds_toArray, List.set_cons_zero, List.set_cons_succ]
    refine wpAnyH_take (i := 7) (v := ?_) rfl (by kernel_rfl) (by kernel_rfl) (by kernel_rfl) (fun _ _ _ h => h) (Or.inl ⟨by rfl, ?_⟩) (by assumption) ?_
    rotate_left
    · (intro w hSw; (try dsimp only at hSw); go_simp; try with_reducible rfl)
    simp only [Act.put, List.getElem_toArray, List.getElem_cons_zero, List.getElem_cons_succ, List.setIfInBounds_toArray, List.set_cons_zero, List.set_cons_succ]
    refine wpAnyH_ready (rs := [8]) (by kernel_rfl) (by simp) ?_
    refine AllReadyH.cons rfl (fun K hK => ?_) AllReadyH.nil
    refine step_copy_known rfl _ _ 42 42 rfl (.slice none 0 0) (.slice none 0 0) (by simp [Act.eval]) (by simp [Act.eval]) (hc2 _) ?_
    refine hK.out _ _ ?_ (fun hHeld => ?_)
    · exact ⟨k4, l4⟩
    clear hK K
    simp only [Act.put, List.getElem_toArray, List.getElem_cons_zero, List.getElem_cons_succ, List.setIfInBounds_toArray, List.set_cons_zero, List.set_cons_succ]
    refine wpAnyH_done (by kernel_rfl) ?_ _
    go_wp2
    go_ret
    exact HF.out
  | some s1 =>
    have hne : r2.sb ≠ none := fun e => by rw [hpl.1 e] at hsb; cases hsb
    obtain ⟨s2, hsb2⟩ := Option.ne_none_iff_exists'.1 hne
    have hp4 : ¬ r.perm < 4 := fun e => by rw [HH.out.2.plain.2 e] at hsb; cases hsb
    have hsl := HH.out.2.setLen s1 hsb
    rw [HLN.out] at hsl
    have hs2 : r2.set = List.replicate n false := by rw [HI2.out.2.2.2.2.2.1, if_neg hp4]
    unfold Reg.setV at k4 l4
    rw [hsb2] at k4
    rw [hsb] at l4
    simp only at k4 l4
    rw [hlen2] at k4
    rw [HLN.out] at l4
    have hb4 := H3.out.2.2.1 s2 hsb2
    rw [hs2, List.map_replicate] at hb4
    have ha4 := hr3.set s1 hsb
    have hnd := HI2.out.1.own
    have hc2 := fun ty => run_copy_blk (P := Try.prog) w3.drew 42 42 ty 4 Try.underlying42 (size_of_info info4) s2 0 n n ⟨s1, 0, none⟩ n n _ 4 (r.set.map Value.bool) hb4.drew (by simp [hsl]) (fun j v hj => by
      rw [Addr.add_lit, Nat.zero_add]
      exact ha4.drew.cell hj) (by simp [hsl]) (fun v hv => by
        obtain ⟨x, _, rfl⟩ := List.mem_map.1 hv
        rfl)
    have hcs : (List.replicate n (Value.bool false)).take 0 ++ r.set.map Value.bool ++ (List.replicate n (Value.bool false)).drop (0 + (r.set.map Value.bool).length) = r.set.map Value.bool := by
      simp [hsl]
    rw [hcs] at hc2
    have hT4 : Touch [] w (w3.drew.setRow s2 (r.set.map Value.bool).toArray) := H3.out.2.2.2.1.drew.setRow _ _ (Or.inr (HI2.out.2.2.2.2.2.2 s2 (r2.mem_sb hsb2)))
    have hps : r2.p ≠ s2 := fun e => by simp [Reg.blocks, hsb2, e] at hnd
    have hbs : r2.bb ≠ s2 := fun e => by simp [Reg.blocks, hsb2, e] at hnd
    have HF : Hid (TwinPost w r (.returned r2.ptr) (w3.drew.setRow s2 (r.set.map Value.bool).toArray)) := by
      refine ⟨{ r2 with bytes := r.bytes, set := r.set }, rfl, ⟨?_, H3.out.1.drew.setRow_other s2 _ hbs, fun s hs => ?_⟩, ⟨?_, HH.out.2.size1, HH.out.2.size2, ?_, HI2.out.1.perm0, HI2.out.1.perm1, HI2.out.1.plain, fun s _ => HH.out.2.setLen s1 hsb, fun hs => ?_, HH.out.2.byte, HI2.out.1.own⟩, HI2.out.2.1, HI2.out.2.2.1, HI2.out.2.2.2.1, rfl, rfl, hpl, ?_, hT4⟩
      · have := hS3.drew.setRow_other s2 (r.set.map Value.bool).toArray hps
        rw [← hcells] at this
        exact this
      · have : s2 = s := by
          have hs' : r2.sb = some s := hs
          rw [hsb2] at hs'
          injection hs'
        subst this
        exact hb4.drew.setRow _
      · exact HI2.out.1.base0
      · have := HH.out.2.fits
        show r2.base + _ ≤ _
        rw [HI2.out.2.2.1]
        exact this
      · exact absurd hs (by simp [hsb2])
      · exact HI2.out.2.2.2.2.2.2
    have k5 := (hS3.drew.setRow_other s2 (r.set.map Value.bool).toArray hps).cell (i := 4) rfl
    have l5 := (HH.out.1.touch hT4 (by simp)).c4
    unfold Reg.setV at k5 l5
    rw [hsb2] at k5
    rw [hsb] at l5
    simp only at k5 l5
    rw [hlen2] at k5
    rw [HLN.out] at l5
    have HC2 := toHid hc2
    clear hS3 hr3 H3 HI2 HH hpl hcells hsb hsb2 hlen2 HLN hne hp4 hsl hs2 hb4 ha4 hnd hc2 hcs hT4 hps hbs
    generalize w3.drew.setRow s2 (r.set.map Value.bool).toArray = w4 at *
    go_wp2_with fail
    refine wp_region_held_drew (S := (fun w' => w'.cell? ⟨r2.p, 4, none⟩ = some (.slice (some ⟨s2, 0, none⟩) n n) ∧ w'.cell? ⟨r.p, 4, none⟩ = some (.slice (some ⟨s1, 0, none⟩) n n))) (by kernel_rfl) ?_ (fun hHeld => ?_)
    · exact ⟨k4, l4⟩
    refine wpAnyH_take (i := 0) (v := ?_) rfl (by kernel_rfl) (by kernel_rfl) (by kernel_rfl) (fun _ _ _ h => h) (Or.inl ⟨by rfl, ?_⟩) (by assumption) ?_
    rotate_left
    · (intro w hSw; (try dsimp only at hSw); go_simp; try with_reducible rfl)
    simp only [Act.put, List.getElem_toArray, List.getElem_cons_zero, List.setIfInBounds_toArray, List.set_cons_zero, List.set_cons_succ]
    refine wpAnyH_take (i := 1) (v := ?_) rfl (by kernel_rfl) (by kernel_rfl) (by kernel_rfl) (fun _ _ _ h => h) (Or.inl ⟨by rfl, ?_⟩) (by assumption) ?_
    rotate_left
    · (intro w hSw; (try dsimp only at hSw); go_simp; try with_reducible rfl)
    simp only [Act.put, List.getElem_toArray, List.getElem_cons_zero, List.getElem_cons_succ, List.setIfInBounds_toArray, List.set_cons_zero, List.set_cons_succ]
    refine wpAnyH_take (i := 2) (v := ?_) rfl (by kernel_rfl) (by kernel_rfl) (by kernel_rfl) (fun _ _ _ h => h) (Or.inl ⟨by rfl, ?_⟩) (by assumption) ?_
    rotate_left
    · (intro w hSw; (try dsimp only at hSw); go_simp; try with_reducible rfl)
    simp only [Act.put, List.getElem_toArray, List.getElem_cons_zero, List.getElem_cons_succ, List.setIfInBounds_toArray, List.set_cons_zero, List.set_cons_succ]
    refine wpAnyH_take (i := 3) (v := ?_) rfl (by kernel_rfl) (by kernel_rfl) (by kernel_rfl) (fun _ _ _ h => h) (Or.inl ⟨by rfl, ?_⟩) (by assumption) ?_
    rotate_left
    · (intro w hSw; (try dsimp only at hSw); go_simp; try with_reducible rfl)
    simp only [Act.put, List.getElem_toArray, List.getElem_cons_zero, List.getElem_cons_succ, List.setIfInBounds_toArray, List.set_cons_zero, List.set_cons_succ]
    refine wpAnyH_take (i := 4) (v := ?_) rfl (by kernel_rfl) (by kernel_rfl) (by kernel_rfl) (fun _ _ _ h => h) (Or.inl ⟨by rfl, ?_⟩) (by assumption) ?_
    rotate_left
    · (intro w hSw; (try dsimp only at hSw); go_simp; try with_reducible rfl)
    simp only [Act.put, List.getElem_toArray, List.getElem_cons_zero, List.getElem_cons_succ, List.setIfInBounds_toArray, List.set_cons_zero, List.set_cons_succ]
    refine wpAnyH_take (i := 5) (v := ?_) rfl (by kernel_rfl) (by kernel_rfl) (by kernel_rfl) (fun _ _ _ h => h) (Or.inl ⟨by rfl, ?_⟩) (by assumption) ?_
    rotate_left
    · (intro w hSw; (try dsimp only at hSw); go_simp; try with_reducible rfl)
    simp only [Act.put, List.getElem_toArray, List.getElem_cons_zero, List.getElem_cons_succ, List.setIfInBounds_toArray, List.set_cons_zero, List.set_cons_succ]
    refine wpAnyH_take (i := 6) (v := ?_) rfl (by kernel_rfl) (by kernel_rfl) (by kernel_rfl) (fun _ _ _ h => h) (Or.inl ⟨by rfl, ?_⟩) (by assumption) ?_
    rotate_left
    · (intro w hSw; (try dsimp only at hSw); go_simp; try with_reducible rfl)
    simp only [Act.put, List.getElem_toArray, List.getElem_cons_zero, List.getElem_cons_succ, List.setIfInBounds_toArray, List.set_cons_zero, List.set_cons_succ]
    refine wpAnyH_take (i := 7) (v := ?_) rfl (by kernel_rfl) (by kernel_rfl) (by kernel_rfl) (fun _ _ _ h => h) (Or.inl ⟨by rfl, ?_⟩) (by assumption) ?_
    rotate_left
    · (intro w hSw; (try dsimp only at hSw); go_simp; try with_reducible rfl)
    simp only [Act.put, List.getElem_toArray, List.getElem_cons_zero, List.getElem_cons_succ, List.setIfInBounds_toArray, List.set_cons_zero, List.set_cons_succ]
    refine wpAnyH_ready (rs := [8]) (by kernel_rfl) (by simp) ?_
    refine AllReadyH.cons rfl (fun K hK => ?_) AllReadyH.nil
    refine step_copy_known rfl _ _ 42 42 rfl (.slice (some ⟨s2, 0, none⟩) n n) (.slice (some ⟨s1, 0, none⟩) n n) (by simp [Act.eval]) (by simp [Act.eval]) (HC2.out _) ?_
    refine hK.out _ _ ?_ (fun hHeld => ?_)
    · exact ⟨k5, l5⟩
    clear hK K
    simp only [Act.put, List.getElem_toArray, List.getElem_cons_zero, List.getElem_cons_succ, List.setIfInBounds_toArray, List.set_cons_zero, List.set_cons_succ]
    refine wpAnyH_done (by kernel_rfl) ?_ _
    go_wp2
    go_ret
    exact HF.out
end Go.Proofs.Ytbidppeelophhaa
