/-
  one: Poke, Write.
-/
import Derived.Test.YtbidppeelophhaaBoth
import Derived.Deep.RegionHeld3
import Derived.Deep.DrawnRows
import Derived.Test.YtbidppeelophhaaArg
namespace Go.Proofs.Ytbidppeelophhaa
open Go.RowKit
attribute [local go_sem ↓] Go.wp_at_zero Go.wp_at_succ

set_option maxHeartbeats 2000000 in
set_option maxRecDepth 100000 in
theorem one_poke {w0 w : World} {s : MS} {t : RS} (h : Pair w0 w s t) (hr : Rel s.rs s.next t.all) (k0 a0 n0 m0 v0 : Int) (sa : Option Addr) (sl sc : Nat) (bs : List Int) (hv : ArgIn w0 sa sl bs) (hk : (IntKind.u64.wrap k0).tmod 9 = 6) :
    Calls Try.prog 11 #[.pointer (some ⟨s.m, 0, none⟩), .pointer (some ⟨t.m, 0, none⟩), opV k0 a0 n0 m0 v0 sa sl sc] w (OnePost w0 s t) := by
  have hP := (h.still ((Touch.refl [] w).alloc (.cells #[.int .i64 k0, .int .u64 a0, .int .i64 n0, .int .i64 m0, .int .u64 v0, .slice sa sl sc] 33))).still ((Touch.refl [] _).drewN 1)
  have hB := Blk.newA w #[.int .i64 k0, .int .u64 a0, .int .i64 n0, .int .i64 m0, .int .u64 v0, .slice sa sl sc] _ 33 rfl
  have hns : w.heap.size ∉ s.blocks := fun hx => by have := h.mem.lt _ hx; omega
  have hnt : w.heap.size ∉ t.blocks := fun hx => by have := h.ref.lt _ hx; omega
  have H1 := toHid (poke_any hP.mem n0 m0 _ bs (hv.arg hP.touch sc))
  have HE := toHid (hr.pokeE n0 m0 bs)
  have HRS := toHid (hr.poke n0 m0 bs)
  have HV := toHid hv
  clear hv
  have HP := toHid hP
  have HR := toHid hr
  have c1 : (w.alloc (.cells #[.int .i64 k0, .int .u64 a0, .int .i64 n0, .int .i64 m0, .int .u64 v0, .slice sa sl sc] 33)).cell? ⟨w.heap.size, 1, none⟩ = some (.int .u64 a0) := hB.cell rfl
  have c2 : (w.alloc (.cells #[.int .i64 k0, .int .u64 a0, .int .i64 n0, .int .i64 m0, .int .u64 v0, .slice sa sl sc] 33)).cell? ⟨w.heap.size, 2, none⟩ = some (.int .i64 n0) := hB.cell rfl
  have c3 : (w.alloc (.cells #[.int .i64 k0, .int .u64 a0, .int .i64 n0, .int .i64 m0, .int .u64 v0, .slice sa sl sc] 33)).cell? ⟨w.heap.size, 3, none⟩ = some (.int .i64 m0) := hB.cell rfl
  have c4 : (w.alloc (.cells #[.int .i64 k0, .int .u64 a0, .int .i64 n0, .int .i64 m0, .int .u64 v0, .slice sa sl sc] 33)).cell? ⟨w.heap.size, 4, none⟩ = some (.int .u64 v0) := hB.cell rfl
  have c5 : (w.alloc (.cells #[.int .i64 k0, .int .u64 a0, .int .i64 n0, .int .i64 m0, .int .u64 v0, .slice sa sl sc] 33)).cell? ⟨w.heap.size, 5, none⟩ = some (.slice sa sl sc) := hB.cell rfl
  clear hP hr h hB
  simp only [opV]
  go_enter Try.func11, Try.ntmps11
  go_wp2_with fail
  generalize w.alloc (.cells #[.int .i64 k0, .int .u64 a0, .int .i64 n0, .int .i64 m0, .int .u64 v0, .slice sa sl sc] 33) = W at *
  generalize w.heap.size = N at *
  refine wp_region_held_drew (S := (fun w' => w'.cell? ⟨N, 1, none⟩ = some (.int .u64 a0) ∧ w'.cell? ⟨N, 2, none⟩ = some (.int .i64 n0) ∧ w'.cell? ⟨N, 3, none⟩ = some (.int .i64 m0) ∧ w'.cell? ⟨N, 4, none⟩ = some (.int .u64 v0) ∧ w'.cell? ⟨N, 5, none⟩ = some (.slice sa sl sc))) (by kernel_rfl) ?_ (fun hHeld => ?_)
  · exact ⟨c1, c2, c3, c4, c5⟩
  refine wpAnyH_take (i := 0) (v := ?_) rfl (by kernel_rfl) (by kernel_rfl) (by kernel_rfl) (fun _ _ _ h => h) (Or.inl ⟨by rfl, ?_⟩) (by assumption) ?_
  rotate_left
  · (intro w hSw; (try dsimp only at hSw); go_simp; try with_reducible rfl)
  simp only [Act.put, List.getElem_toArray, List.getElem_cons_zero, List.setIfInBounds_toArray, List.set_cons_zero, List.set_cons_succ]
  refine wpAnyH_take (i := 1) (v := ?_) rfl (by kernel_rfl) (by kernel_rfl) (by kernel_rfl) (fun _ _ _ h => h) (Or.inl ⟨by rfl, ?_⟩) (by assumption) ?_
  rotate_left
  · (intro w hSw; (try dsimp only at hSw); go_simp; try with_reducible rfl)
  simp only [Act.put, List.getElem_toArray, List.getElem_cons_zero, List.getElem_cons_succ, List.setIfInBounds_toArray, List.set_cons_zero, List.set_cons_succ]
  refine wpAnyH_take (i := 2) (v := ?_) rfl (by kernel_rfl) (by kernel_rfl) (by kernel_rfl) (fun _ _ _ h => h) (Or.inl ⟨by rfl, ?_⟩) (by assumption) ?_
  rotate_left
  · (intro w hSw; (try dsimp only at hSw); go_simp; try with_reducible rfl)
  simp only [Act.put, List.getElem_toArray, List.getElem_cons_zero, List.getElem_cons_succ, List.setIfInBounds_toArray, List.set_cons_zero, List.set_cons_succ]
  refine wpAnyH_take (i := 3) (v := ?_) rfl (by kernel_rfl) (by kernel_rfl) (by kernel_rfl) (fun _ _ _ h => h) (Or.inl ⟨by rfl, ?_⟩) (by assumption) ?_
  rotate_left
  · (intro w hSw; (try dsimp only at hSw); go_simp; try with_reducible rfl)
  simp only [Act.put, List.getElem_toArray, List.getElem_cons_zero, List.getElem_cons_succ, List.setIfInBounds_toArray, List.set_cons_zero, List.set_cons_succ]
  refine wpAnyH_take (i := 4) (v := ?_) rfl (by kernel_rfl) (by kernel_rfl) (by kernel_rfl) (fun _ _ _ h => h) (Or.inl ⟨by rfl, ?_⟩) (by assumption) ?_
  rotate_left
  · (intro w hSw; (try dsimp only at hSw); go_simp; try with_reducible rfl)
  simp only [Act.put, List.getElem_toArray, List.getElem_cons_zero, List.getElem_cons_succ, List.setIfInBounds_toArray, List.set_cons_zero, List.set_cons_succ]
  refine wpAnyH_take (i := 5) (v := ?_) rfl (by kernel_rfl) (by kernel_rfl) (by kernel_rfl) (fun _ _ _ h => h) (Or.inl ⟨by rfl, ?_⟩) (by assumption) ?_
  rotate_left
  · (intro w hSw; (try dsimp only at hSw); go_simp; try with_reducible rfl)
  simp only [Act.put, List.getElem_toArray, List.getElem_cons_zero, List.getElem_cons_succ, List.setIfInBounds_toArray, List.set_cons_zero, List.set_cons_succ]
  refine wpAnyH_take (i := 6) (v := ?_) rfl (by kernel_rfl) (by kernel_rfl) (by kernel_rfl) (fun _ _ _ h => h) (Or.inl ⟨by rfl, ?_⟩) (by assumption) ?_
  rotate_left
  · (intro w hSw; (try dsimp only at hSw); go_simp; try with_reducible rfl)
  simp only [Act.put, List.getElem_toArray, List.getElem_cons_zero, List.getElem_cons_succ, List.setIfInBounds_toArray, List.set_cons_zero, List.set_cons_succ]
  refine wpAnyH_take (i := 8) (v := ?_) rfl (by kernel_rfl) (by kernel_rfl) (by kernel_rfl) (fun _ _ _ h => h) (Or.inl ⟨by rfl, ?_⟩) (by assumption) ?_
  rotate_left
  · (intro w hSw; (try dsimp only at hSw); go_simp; try with_reducible rfl)
  simp only [Act.put, List.getElem_toArray, List.getElem_cons_zero, List.getElem_cons_succ, List.setIfInBounds_toArray, List.set_cons_zero, List.set_cons_succ]
  refine wpAnyH_take (i := 9) (v := ?_) rfl (by kernel_rfl) (by kernel_rfl) (by kernel_rfl) (fun _ _ _ h => h) (Or.inl ⟨by rfl, ?_⟩) (by assumption) ?_
  rotate_left
  · (intro w hSw; (try dsimp only at hSw); go_simp; try with_reducible rfl)
  simp only [Act.put, List.getElem_toArray, List.getElem_cons_zero, List.getElem_cons_succ, List.setIfInBounds_toArray, List.set_cons_zero, List.set_cons_succ]
  refine wpAnyH_take (i := 10) (v := ?_) rfl (by kernel_rfl) (by kernel_rfl) (by kernel_rfl) (fun _ _ _ h => h) (Or.inl ⟨by rfl, ?_⟩) (by assumption) ?_
  rotate_left
  · (intro w hSw; (try dsimp only at hSw); go_simp; try with_reducible rfl)
  simp only [Act.put, List.getElem_toArray, List.getElem_cons_zero, List.getElem_cons_succ, List.setIfInBounds_toArray, List.set_cons_zero, List.set_cons_succ]
  refine wpAnyH_take (i := 11) (v := ?_) rfl (by kernel_rfl) (by kernel_rfl) (by kernel_rfl) (fun _ _ _ h => h) (Or.inl ⟨by rfl, ?_⟩) (by assumption) ?_
  rotate_left
  · (intro w hSw; (try dsimp only at hSw); go_simp; try with_reducible rfl)
  simp only [Act.put, List.getElem_toArray, List.getElem_cons_zero, List.getElem_cons_succ, List.setIfInBounds_toArray, List.set_cons_zero, List.set_cons_succ]
  refine wpAnyH_take (i := 12) (v := ?_) rfl (by kernel_rfl) (by kernel_rfl) (by kernel_rfl) (fun _ _ _ h => h) (Or.inl ⟨by rfl, ?_⟩) (by assumption) ?_
  rotate_left
  · (intro w hSw; (try dsimp only at hSw); go_simp; try with_reducible rfl)
  simp only [Act.put, List.getElem_toArray, List.getElem_cons_zero, List.getElem_cons_succ, List.setIfInBounds_toArray, List.set_cons_zero, List.set_cons_succ]
  refine wpAnyH_take (i := 13) (v := ?_) rfl (by kernel_rfl) (by kernel_rfl) (by kernel_rfl) (fun _ _ _ h => h) (Or.inl ⟨by rfl, ?_⟩) (by assumption) ?_
  rotate_left
  · (intro w hSw; (try dsimp only at hSw); go_simp; try with_reducible rfl)
  simp only [Act.put, List.getElem_toArray, List.getElem_cons_zero, List.getElem_cons_succ, List.setIfInBounds_toArray, List.set_cons_zero, List.set_cons_succ]
  refine wpAnyH_take (i := 14) (v := ?_) rfl (by kernel_rfl) (by kernel_rfl) (by kernel_rfl) (fun _ _ _ h => h) (Or.inl ⟨by rfl, ?_⟩) (by assumption) ?_
  rotate_left
  · (intro w hSw; (try dsimp only at hSw); go_simp; try with_reducible rfl)
  simp only [Act.put, List.getElem_toArray, List.getElem_cons_zero, List.getElem_cons_succ, List.setIfInBounds_toArray, List.set_cons_zero, List.set_cons_succ]
  refine wpAnyH_ready (rs := [7]) (by kernel_rfl) (by simp) ?_
  refine AllReadyH.cons rfl (fun K hK => ?_) AllReadyH.nil
  simp only [List.getElem_toArray, List.getElem_cons_zero, List.getElem_cons_succ]
  go_simp
  refine H1.out.mono ?_; rintro e w2 ⟨rfl, ht2, hM2, hb2⟩
  go_wp2_with fail
  refine hK.out _ _ ?_ (fun hHeld => ?_)
  · exact ⟨ht2.cell hHeld.1 hns, ht2.cell hHeld.2.1 hns, ht2.cell hHeld.2.2.1 hns, ht2.cell hHeld.2.2.2.1 hns, ht2.cell hHeld.2.2.2.2 hns⟩
  clear hK K
  try simp only [Act.put, List.getElem_toArray, List.getElem_cons_zero, List.getElem_cons_succ, List.setIfInBounds_toArray, List.set_cons_zero, List.set_cons_succ]
  have hP2 := HP.out.goM hM2 ht2 (fun x hx => Or.inl (by rw [hb2] at hx; exact hx))
  have H2 := toHid (rpoke_any hP2.ref n0 m0 _ bs (HV.out.out hP2.touch sc hP2.own'))
  have HP2 := toHid hP2
  clear hP2 hM2 ht2 hb2
  refine wpAnyH_ready (rs := [15]) (by kernel_rfl) (by simp) ?_
  refine AllReadyH.cons rfl (fun K hK => ?_) AllReadyH.nil
  simp only [List.getElem_toArray, List.getElem_cons_zero, List.getElem_cons_succ]
  go_simp
  refine H2.out.mono ?_; rintro e w3 ⟨rfl, hs3⟩; rw [HE.out]
  go_wp2_with fail
  refine hK.out _ _ ?_ (fun hHeld => ?_)
  · exact ⟨hs3.2.2.cell hHeld.1 hnt, hs3.2.2.cell hHeld.2.1 hnt, hs3.2.2.cell hHeld.2.2.1 hnt, hs3.2.2.cell hHeld.2.2.2.1 hnt, hs3.2.2.cell hHeld.2.2.2.2 hnt⟩
  clear hK K
  try simp only [Act.put, List.getElem_toArray, List.getElem_cons_zero, List.getElem_cons_succ, List.setIfInBounds_toArray, List.set_cons_zero, List.set_cons_succ]
  have HP3 := toHid (HP2.out.stepR hs3)
  clear hs3
  refine wpAnyH_take (i := 16) (v := ?_) rfl (by kernel_rfl) (by kernel_rfl) (by kernel_rfl) (fun _ _ _ h => h) (Or.inl ⟨by rfl, ?_⟩) (by assumption) ?_
  rotate_left
  · (intro w hSw; (try dsimp only at hSw); go_simp; try with_reducible rfl)
  simp only [Act.put, List.getElem_toArray, List.getElem_cons_zero, List.getElem_cons_succ, List.setIfInBounds_toArray, List.set_cons_zero, List.set_cons_succ]
  refine wpAnyH_ready (rs := [17]) (by kernel_rfl) (by simp) ?_
  refine AllReadyH.cons rfl (fun K hK => ?_) AllReadyH.nil
  simp only [List.getElem_toArray, List.getElem_cons_zero, List.getElem_cons_succ]
  go_simp
  refine hK.out _ _ ?_ (fun hHeld => ?_)
  · exact hHeld
  clear hK K
  try simp only [Act.put, List.getElem_toArray, List.getElem_cons_zero, List.getElem_cons_succ, List.setIfInBounds_toArray, List.set_cons_zero, List.set_cons_succ]
  refine wpAnyH_done (by kernel_rfl) ?_ _
  go_wp2
  go_ret
  exact ⟨rfl, _, _, HP3.out, HRS.out, rfl, rfl, by
    have e1 := HRS.out.len
    have e2 := HR.out.len
    show (rpokeAll t.all n0 m0 bs).length ≤ _
    omega⟩

set_option maxHeartbeats 2000000 in
set_option maxRecDepth 100000 in
theorem one_write {w0 w : World} {s : MS} {t : RS} (h : Pair w0 w s t) (hr : Rel s.rs s.next t.all) (k0 a0 n0 m0 v0 : Int) (sa : Option Addr) (sl sc : Nat) (ha0 : 0 ≤ a0) (ha1 : a0 ≤ 18446744073709551615) (bs : List Int) (hv : ArgIn w0 sa sl bs) (hk : (IntKind.u64.wrap k0).tmod 9 = 5) :
    Calls Try.prog 11 #[.pointer (some ⟨s.m, 0, none⟩), .pointer (some ⟨t.m, 0, none⟩), opV k0 a0 n0 m0 v0 sa sl sc] w (OnePost w0 s t) := by
  have hP := (h.still ((Touch.refl [] w).alloc (.cells #[.int .i64 k0, .int .u64 a0, .int .i64 n0, .int .i64 m0, .int .u64 v0, .slice sa sl sc] 33))).still ((Touch.refl [] _).drewN 1)
  have hB := Blk.newA w #[.int .i64 k0, .int .u64 a0, .int .i64 n0, .int .i64 m0, .int .u64 v0, .slice sa sl sc] _ 33 rfl
  have hns : w.heap.size ∉ s.blocks := fun hx => by have := h.mem.lt _ hx; omega
  have hnt : w.heap.size ∉ t.blocks := fun hx => by have := h.ref.lt _ hx; omega
  have H1 := toHid (write_any hP.mem a0 _ bs ha0 ha1 (hv.arg hP.touch sc))
  have HE := toHid (hr.layE hP.mem.sorted hP.perm a0 bs)
  have HRS := toHid (hr.write hP.mem.sorted hP.perm a0 bs)
  have hcv := fun w' (ht : Touch [] w0 w') => hv.conv ht sc
  generalize strOfNums bs = Z at hcv
  have hcw := hcv _ (h.touch.alloc (.cells #[.int .i64 k0, .int .u64 a0, .int .i64 n0, .int .i64 m0, .int .u64 v0, .slice sa sl sc] 33))
  have HCV := toHid hcv
  have HV := toHid hv
  clear hv hcv
  have HP := toHid hP
  have HR := toHid hr
  have c1 : (w.alloc (.cells #[.int .i64 k0, .int .u64 a0, .int .i64 n0, .int .i64 m0, .int .u64 v0, .slice sa sl sc] 33)).cell? ⟨w.heap.size, 1, none⟩ = some (.int .u64 a0) := hB.cell rfl
  have c2 : (w.alloc (.cells #[.int .i64 k0, .int .u64 a0, .int .i64 n0, .int .i64 m0, .int .u64 v0, .slice sa sl sc] 33)).cell? ⟨w.heap.size, 2, none⟩ = some (.int .i64 n0) := hB.cell rfl
  have c3 : (w.alloc (.cells #[.int .i64 k0, .int .u64 a0, .int .i64 n0, .int .i64 m0, .int .u64 v0, .slice sa sl sc] 33)).cell? ⟨w.heap.size, 3, none⟩ = some (.int .i64 m0) := hB.cell rfl
  have c4 : (w.alloc (.cells #[.int .i64 k0, .int .u64 a0, .int .i64 n0, .int .i64 m0, .int .u64 v0, .slice sa sl sc] 33)).cell? ⟨w.heap.size, 4, none⟩ = some (.int .u64 v0) := hB.cell rfl
  have c5 : (w.alloc (.cells #[.int .i64 k0, .int .u64 a0, .int .i64 n0, .int .i64 m0, .int .u64 v0, .slice sa sl sc] 33)).cell? ⟨w.heap.size, 5, none⟩ = some (.slice sa sl sc) := hB.cell rfl
  clear hP hr h hB
  simp only [opV]
  go_enter Try.func11, Try.ntmps11
  go_wp2_with fail
  generalize w.alloc (.cells #[.int .i64 k0, .int .u64 a0, .int .i64 n0, .int .i64 m0, .int .u64 v0, .slice sa sl sc] 33) = W at *
  generalize w.heap.size = N at *
  refine wp_region_held_drew (S := (fun w' => w'.cell? ⟨N, 1, none⟩ = some (.int .u64 a0) ∧ w'.cell? ⟨N, 2, none⟩ = some (.int .i64 n0) ∧ w'.cell? ⟨N, 3, none⟩ = some (.int .i64 m0) ∧ w'.cell? ⟨N, 4, none⟩ = some (.int .u64 v0) ∧ w'.cell? ⟨N, 5, none⟩ = some (.slice sa sl sc) ∧ (convert 31 9 (.slice sa sl sc)).run Try.prog w' = .ok (.string Z) w')) (by kernel_rfl) ?_ (fun hHeld => ?_)
  · exact ⟨c1, c2, c3, c4, c5, HCV.out _ HP.out.touch⟩
  refine wpAnyH_take (i := 0) (v := ?_) rfl (by kernel_rfl) (by kernel_rfl) (by kernel_rfl) (fun _ _ _ h => h) (Or.inl ⟨by rfl, ?_⟩) (by assumption) ?_
  rotate_left
  · (intro w hSw; (try dsimp only at hSw); go_simp; try with_reducible rfl)
  simp only [Act.put, List.getElem_toArray, List.getElem_cons_zero, List.setIfInBounds_toArray, List.set_cons_zero, List.set_cons_succ]
  refine wpAnyH_take (i := 1) (v := ?_) rfl (by kernel_rfl) (by kernel_rfl) (by kernel_rfl) (fun _ _ _ h => h) (Or.inl ⟨by rfl, ?_⟩) (by assumption) ?_
  rotate_left
  · (intro w hSw; (try dsimp only at hSw); go_simp; try with_reducible rfl)
  simp only [Act.put, List.getElem_toArray, List.getElem_cons_zero, List.getElem_cons_succ, List.setIfInBounds_toArray, List.set_cons_zero, List.set_cons_succ]
  refine wpAnyH_take (i := 2) (v := ?_) rfl (by kernel_rfl) (by kernel_rfl) (by kernel_rfl) (fun _ _ _ h => h) (Or.inl ⟨by rfl, ?_⟩) (by assumption) ?_
  rotate_left
  · (intro w hSw; (try dsimp only at hSw); go_simp; try with_reducible rfl)
  simp only [Act.put, List.getElem_toArray, List.getElem_cons_zero, List.getElem_cons_succ, List.setIfInBounds_toArray, List.set_cons_zero, List.set_cons_succ]
  refine wpAnyH_take (i := 3) (v := ?_) rfl (by kernel_rfl) (by kernel_rfl) (by kernel_rfl) (fun _ _ _ h => h) (Or.inl ⟨by rfl, ?_⟩) (by assumption) ?_
  rotate_left
  · (intro w hSw; (try dsimp only at hSw); go_simp; try with_reducible rfl)
  simp only [Act.put, List.getElem_toArray, List.getElem_cons_zero, List.getElem_cons_succ, List.setIfInBounds_toArray, List.set_cons_zero, List.set_cons_succ]
  refine wpAnyH_take (i := 4) (v := ?_) rfl (by kernel_rfl) (by kernel_rfl) (by kernel_rfl) (fun _ _ _ h => h) (Or.inl ⟨by rfl, ?_⟩) (by assumption) ?_
  rotate_left
  · (intro w hSw; (try dsimp only at hSw); go_simp; try with_reducible rfl)
  simp only [Act.put, List.getElem_toArray, List.getElem_cons_zero, List.getElem_cons_succ, List.setIfInBounds_toArray, List.set_cons_zero, List.set_cons_succ]
  refine wpAnyH_take (i := 6) (v := ?_) rfl (by kernel_rfl) (by kernel_rfl) (by kernel_rfl) (fun _ _ _ h => h) (Or.inl ⟨by rfl, ?_⟩) (by assumption) ?_
  rotate_left
  · (intro w hSw; (try dsimp only at hSw); go_simp; try with_reducible rfl)
  simp only [Act.put, List.getElem_toArray, List.getElem_cons_zero, List.getElem_cons_succ, List.setIfInBounds_toArray, List.set_cons_zero, List.set_cons_succ]
  refine wpAnyH_take (i := 7) (v := ?_) rfl (by kernel_rfl) (by kernel_rfl) (by kernel_rfl) (fun _ _ _ h => h) (Or.inl ⟨by rfl, ?_⟩) (by assumption) ?_
  rotate_left
  · (intro w hSw; (try dsimp only at hSw); go_simp; try with_reducible rfl)
  simp only [Act.put, List.getElem_toArray, List.getElem_cons_zero, List.getElem_cons_succ, List.setIfInBounds_toArray, List.set_cons_zero, List.set_cons_succ]
  refine wpAnyH_take (i := 8) (v := ?_) rfl (by kernel_rfl) (by kernel_rfl) (by kernel_rfl) (fun _ _ _ h => h) (Or.inl ⟨by rfl, ?_⟩) (by assumption) ?_
  rotate_left
  · (intro w hSw; (try dsimp only at hSw); go_simp; try with_reducible rfl)
  simp only [Act.put, List.getElem_toArray, List.getElem_cons_zero, List.getElem_cons_succ, List.setIfInBounds_toArray, List.set_cons_zero, List.set_cons_succ]
  refine wpAnyH_take (i := 9) (v := ?_) rfl (by kernel_rfl) (by kernel_rfl) (by kernel_rfl) (fun _ _ _ h => h) (Or.inl ⟨by rfl, ?_⟩) (by assumption) ?_
  rotate_left
  · (intro w hSw; (try dsimp only at hSw); go_simp; try with_reducible rfl)
  simp only [Act.put, List.getElem_toArray, List.getElem_cons_zero, List.getElem_cons_succ, List.setIfInBounds_toArray, List.set_cons_zero, List.set_cons_succ]
  refine wpAnyH_take (i := 10) (v := ?_) rfl (by kernel_rfl) (by kernel_rfl) (by kernel_rfl) (fun _ _ _ h => h) (Or.inl ⟨by rfl, ?_⟩) (by assumption) ?_
  rotate_left
  · (intro w hSw; (try dsimp only at hSw); go_simp; try with_reducible rfl)
  simp only [Act.put, List.getElem_toArray, List.getElem_cons_zero, List.getElem_cons_succ, List.setIfInBounds_toArray, List.set_cons_zero, List.set_cons_succ]
  refine wpAnyH_ready (rs := [5]) (by kernel_rfl) (by simp) ?_
  refine AllReadyH.cons rfl (fun K hK => ?_) AllReadyH.nil
  simp only [List.getElem_toArray, List.getElem_cons_zero, List.getElem_cons_succ]
  go_simp
  refine H1.out.mono ?_; rintro e w2 ⟨rfl, ht2, hM2, hb2⟩; have hP2 := HP.out.goM hM2 ht2 (fun x hx => Or.inl (by rw [hb2] at hx; exact hx))
  go_wp2_with fail
  refine hK.out _ _ ?_ (fun hHeld => ?_)
  · exact ⟨ht2.cell hHeld.1 hns, ht2.cell hHeld.2.1 hns, ht2.cell hHeld.2.2.1 hns, ht2.cell hHeld.2.2.2.1 hns, ht2.cell hHeld.2.2.2.2.1 hns, HCV.out _ hP2.touch⟩
  clear hK K
  try simp only [Act.put, List.getElem_toArray, List.getElem_cons_zero, List.getElem_cons_succ, List.setIfInBounds_toArray, List.set_cons_zero, List.set_cons_succ]
  have H2 := toHid (rwrite_any hP2.ref a0 _ bs ha0 ha1 (HV.out.out hP2.touch sc hP2.own'))
  have HP2 := toHid hP2
  clear hP2 hM2 ht2 hb2
  refine wpAnyH_ready (rs := [11]) (by kernel_rfl) (by simp) ?_
  refine AllReadyH.cons rfl (fun K hK => ?_) AllReadyH.nil
  simp only [List.getElem_toArray, List.getElem_cons_zero, List.getElem_cons_succ]
  go_simp
  refine H2.out.mono ?_; rintro e w3 ⟨rfl, hs3⟩; rw [HE.out]; have hP3 := HP2.out.stepR hs3
  go_wp2_with fail
  refine hK.out _ _ ?_ (fun hHeld => ?_)
  · exact ⟨hs3.2.2.cell hHeld.1 hnt, hs3.2.2.cell hHeld.2.1 hnt, hs3.2.2.cell hHeld.2.2.1 hnt, hs3.2.2.cell hHeld.2.2.2.1 hnt, hs3.2.2.cell hHeld.2.2.2.2.1 hnt, HCV.out _ hP3.touch⟩
  clear hK K
  try simp only [Act.put, List.getElem_toArray, List.getElem_cons_zero, List.getElem_cons_succ, List.setIfInBounds_toArray, List.set_cons_zero, List.set_cons_succ]
  have HP3 := toHid hP3
  clear hs3 hP3
  refine wpAnyH_take (i := 12) (v := ?_) rfl (by kernel_rfl) (by kernel_rfl) (by kernel_rfl) (fun _ _ _ h => h) (Or.inl ⟨by rfl, ?_⟩) (by assumption) ?_
  rotate_left
  · (intro w hSw; (try dsimp only at hSw); go_simp; try with_reducible rfl)
  simp only [Act.put, List.getElem_toArray, List.getElem_cons_zero, List.getElem_cons_succ, List.setIfInBounds_toArray, List.set_cons_zero, List.set_cons_succ]
  refine wpAnyH_take (i := 13) (v := ?_) rfl (by kernel_rfl) (by kernel_rfl) (by kernel_rfl) (fun _ _ _ h => h) (Or.inl ⟨by rfl, ?_⟩) (by assumption) ?_
  rotate_left
  · (intro w hSw; (try dsimp only at hSw); go_simp; try with_reducible rfl)
  simp only [Act.put, List.getElem_toArray, List.getElem_cons_zero, List.getElem_cons_succ, List.setIfInBounds_toArray, List.set_cons_zero, List.set_cons_succ]
  refine wpAnyH_take (i := 14) (v := ?_) rfl (by kernel_rfl) (by kernel_rfl) (by kernel_rfl) (fun _ _ _ h => h) (Or.inl ⟨by rfl, ?_⟩) (by assumption) ?_
  rotate_left
  · (intro w hSw; (try dsimp only at hSw); go_simp; try with_reducible rfl)
  simp only [Act.put, List.getElem_toArray, List.getElem_cons_zero, List.getElem_cons_succ, List.setIfInBounds_toArray, List.set_cons_zero, List.set_cons_succ]
  refine wpAnyH_take (i := 15) (v := ?_) rfl (by kernel_rfl) (by kernel_rfl) (by kernel_rfl) (fun _ _ _ h => h) (Or.inl ⟨by rfl, ?_⟩) (by assumption) ?_
  rotate_left
  · (intro w hSw; (try dsimp only at hSw); go_simp; try with_reducible rfl)
  simp only [Act.put, List.getElem_toArray, List.getElem_cons_zero, List.getElem_cons_succ, List.setIfInBounds_toArray, List.set_cons_zero, List.set_cons_succ]
  refine wpAnyH_take (i := 16) (v := ?_) rfl (by kernel_rfl) (by kernel_rfl) (by kernel_rfl) (fun _ _ _ h => h) (Or.inl ⟨by rfl, ?_⟩) (by assumption) ?_
  rotate_left
  · (intro w hSw; (try dsimp only at hSw); go_simp; try with_reducible rfl)
  simp only [Act.put, List.getElem_toArray, List.getElem_cons_zero, List.getElem_cons_succ, List.setIfInBounds_toArray, List.set_cons_zero, List.set_cons_succ]
  refine wpAnyH_take (i := 17) (v := ?_) rfl (by kernel_rfl) (by kernel_rfl) (by kernel_rfl) (fun _ _ _ h => h) (Or.inl ⟨by rfl, ?_⟩) (by assumption) ?_
  rotate_left
  · (intro w hSw; (try dsimp only at hSw); go_simp; try with_reducible rfl)
  simp only [Act.put, List.getElem_toArray, List.getElem_cons_zero, List.getElem_cons_succ, List.setIfInBounds_toArray, List.set_cons_zero, List.set_cons_succ]
  refine wpAnyH_take (i := 18) (v := ?_) rfl (by kernel_rfl) (by kernel_rfl) (by kernel_rfl) (fun _ _ _ h => h) (Or.inl ⟨by rfl, ?_⟩) (by assumption) ?_
  rotate_left
  · (intro w hSw; (try dsimp only at hSw); go_simp; try with_reducible rfl)
  simp only [Act.put, List.getElem_toArray, List.getElem_cons_zero, List.getElem_cons_succ, List.setIfInBounds_toArray, List.set_cons_zero, List.set_cons_succ]
  refine wpAnyH_take (i := 19) (v := ?_) rfl (by kernel_rfl) (by kernel_rfl) (by kernel_rfl) (fun _ _ _ h => h) (Or.inl ⟨by rfl, ?_⟩) (by assumption) ?_
  rotate_left
  · (intro w hSw; (try dsimp only at hSw); go_simp; try with_reducible rfl)
  simp only [Act.put, List.getElem_toArray, List.getElem_cons_zero, List.getElem_cons_succ, List.setIfInBounds_toArray, List.set_cons_zero, List.set_cons_succ]
  refine wpAnyH_ready (rs := [20]) (by kernel_rfl) (by simp) ?_
  refine AllReadyH.cons rfl (fun K hK => ?_) AllReadyH.nil
  simp only [List.getElem_toArray, List.getElem_cons_zero, List.getElem_cons_succ]
  go_simp
  refine hK.out _ _ ?_ (fun hHeld => ?_)
  · exact hHeld
  clear hK K
  try simp only [Act.put, List.getElem_toArray, List.getElem_cons_zero, List.getElem_cons_succ, List.setIfInBounds_toArray, List.set_cons_zero, List.set_cons_succ]
  refine wpAnyH_done (by kernel_rfl) ?_ _
  go_wp2
  go_ret
  exact ⟨rfl, _, _, HP3.out, HRS.out, rfl, rfl, by
    have e1 := HRS.out.len
    have e2 := HR.out.len
    show (rwriteAll t.all a0 bs).length ≤ _
    omega⟩
end Go.Proofs.Ytbidppeelophhaa
