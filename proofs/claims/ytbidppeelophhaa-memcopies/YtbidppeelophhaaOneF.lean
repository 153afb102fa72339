/-
  one: Bytes.
-/
import Derived.Test.YtbidppeelophhaaArg
import Derived.Deep.RegionHeld3
import Derived.Deep.DrawnRows
namespace Go.Proofs.Ytbidppeelophhaa
open Go.RowKit
attribute [local go_sem ↓] Go.wp_at_zero Go.wp_at_succ

set_option maxHeartbeats 2000000 in
set_option maxRecDepth 100000 in
theorem one_bytes {w0 w : World} {s : MS} {t : RS} (h : Pair w0 w s t) (hr : Rel s.rs s.next t.all) (k0 a0 n0 m0 v0 : Int) (sa : Option Addr) (sl sc : Nat) (hk : (IntKind.u64.wrap k0).tmod 9 = 7) :
    Calls Try.prog 11 #[.pointer (some ⟨s.m, 0, none⟩), .pointer (some ⟨t.m, 0, none⟩), opV k0 a0 n0 m0 v0 sa sl sc] w (OnePost w0 s t) := by
  have hP := h.still ((Touch.refl [] w).alloc (.cells #[.int .i64 k0, .int .u64 a0, .int .i64 n0, .int .i64 m0, .int .u64 v0, .slice sa sl sc] 33))
  have hB := Blk.newA w #[.int .i64 k0, .int .u64 a0, .int .i64 n0, .int .i64 m0, .int .u64 v0, .slice sa sl sc] _ 33 rfl
  have H1 := toHid (bytes_any hP.mem n0)
  have HH := toHid (hr.has n0)
  have HP := toHid hP
  have HR := toHid hr
  have HB := toHid hB
  cases hf : regOf s.rs n0 with
  | none =>
    have HF := toHid hf
    clear hP hr h hB hf
    simp only [opV]
    go_enter Try.func11, Try.ntmps11
    go_wp2_with fail
    refine H1.out.mono ?_
    rintro e w2 ⟨ht2, he⟩
    rw [HF.out] at he
    simp only at he
    subst he
    have hP2 := HP.out.still ht2
    have hB2 := ht2.blk HB.out (by simp)
    have d2 : w2.cell? ⟨w.heap.size, 2, none⟩ = some _ := hB2.cell rfl
    have H2 := toHid (has_any hP2.ref n0)
    have H3 := toHid (live_any hP2.mem n0)
    rw [HH.out, HF.out] at H2
    rw [HF.out] at H3
    simp only [Option.isSome_none] at H2 H3
    have HP2 := toHid hP2
    clear hP2 hB2 ht2 H1
    go_wp2_with fail
    refine H2.out.mono ?_
    rintro e w2 ⟨rfl, rfl⟩
    go_wp2_with fail
    refine H3.out.mono ?_
    rintro e w4 ⟨rfl, ht4⟩
    have HP4 := toHid (HP2.out.still ht4)
    clear ht4 H3 H2
    go_wp2
    go_ret
    exact OnePost.same HP4.out HR.out
  | some r =>
    have hrm : r ∈ s.rs := List.mem_of_find?_eq_some hf
    have hid : r.id = n0 := by have := List.find?_some hf; simpa using this
    obtain ⟨i, x, hx, hri, htw⟩ := hr.there r hrm
    have hni : n0 = (i : Int) := by omega
    subst hni
    have hil : i < t.all.length := (List.getElem?_eq_some_iff.1 hx).1
    obtain ⟨gb, hgb⟩ := h.ref.some_g hil
    have HF := toHid hf
    have HX := toHid (And.intro hgb (And.intro hx (And.intro htw.bytes hil)))
    clear hP hr h hB hf hrm hid hri htw hgb hx
    simp only [opV]
    go_enter Try.func11, Try.ntmps11
    go_wp2_with fail
    refine H1.out.mono ?_
    rintro e w2 ⟨ht2, he⟩
    rw [HF.out] at he
    obtain ⟨x2, rfl, hs2⟩ := he
    have hP2 := HP.out.still ht2
    have hB2 := ht2.blk HB.out (by simp)
    have d2 : w2.cell? ⟨w.heap.size, 2, none⟩ = some (.int .i64 i) := hB2.cell rfl
    have H2 := toHid (has_any hP2.ref i)
    have H3 := toHid (live_any (hP2.still ((Touch.refl [] w2).drew)).mem i)
    rw [HH.out, HF.out] at H2
    rw [HF.out] at H3
    simp only [Option.isSome_some] at H2 H3
    have e0 := hP2.ref.c0
    rw [HX.out.1, slV_some] at e0
    have e1 := hP2.ref.at HX.out.1 HX.out.2.1 (j := 3) (by omega) rfl
    obtain ⟨rest, hxB⟩ := (hP2.ref.regs x (List.mem_of_getElem? HX.out.2.1)).bytes
    have hcv1 : ∀ w', Touch [] w2 w' → (convert 31 9 x2).run Try.prog w' = .ok (.string (strOfNums r.bytes)) w' := fun w' ht => (hs2.touch ht).conv
    have hcv2 : ∀ w', Touch [] w2 w' → (convert 31 9 (.slice (some ⟨x.bb, 0, none⟩) x.bytes.length x.bcap)).run Try.prog w' = .ok (.string (strOfNums r.bytes)) w' := fun w' ht => by
      have := conv_at w' x.bb 0 x.bcap x.bytes (fun j v hj => by
        rw [Nat.zero_add]
        exact (ht.blk hxB (by simp)).cell (by rw [List.getElem?_append_left (List.getElem?_eq_some_iff.1 hj).1]; exact hj))
      rw [HX.out.2.2.1] at this ⊢
      exact this
    have HP2 := toHid hP2
    have hii : (i : Int) < (t.all.length : Int) := by have := HX.out.2.2.2; omega
    generalize strOfNums r.bytes = Z at *
    generalize x.bb = xb at *
    generalize x.bytes.length = xl at *
    generalize x.bcap = xc at *
    generalize t.all.length = al at *
    generalize t.cap = cap at *
    clear hP2 hB2 ht2 H1 hs2 hxB HX hil
    go_wp2_with fail
    refine H2.out.mono ?_
    rintro e w2 ⟨rfl, rfl⟩
    go_wp2_with fail
    generalize w.heap.size = N at *
    refine wp_region_held_drew (S := (fun w' => w'.cell? ⟨N, 2, none⟩ = some (.int .i64 i) ∧ w'.cell? ⟨t.m, 0, none⟩ = some (.slice (some ⟨gb, 0, none⟩) al cap) ∧ w'.cell? ⟨gb, i * 5 + 3, none⟩ = some (.slice (some ⟨xb, 0, none⟩) xl xc) ∧ (convert 31 9 x2).run Try.prog w' = .ok (.string Z) w' ∧ (convert 31 9 (.slice (some ⟨xb, 0, none⟩) xl xc)).run Try.prog w' = .ok (.string Z) w')) (by kernel_rfl) ?_ (fun hHeld => ?_)
    · exact ⟨d2, e0, e1, hcv1 _ ((Touch.refl [] w2).drew), hcv2 _ ((Touch.refl [] w2).drew)⟩
    refine wpAnyH_take (i := 0) (v := ?_) rfl (by kernel_rfl) (by kernel_rfl) (by kernel_rfl) (fun _ _ _ h => h) (Or.inl ⟨by rfl, ?_⟩) (by assumption) ?_
    rotate_left
    · (intro w hSw; (try dsimp only at hSw); go_simp; try with_reducible rfl)
    simp only [Act.put, List.getElem_toArray, List.getElem_cons_zero, List.setIfInBounds_toArray, List.set_cons_zero, List.set_cons_succ]
    refine wpAnyH_take (i := 1) (v := ?_) rfl (by kernel_rfl) (by kernel_rfl) (by kernel_rfl) (fun _ _ _ h => h) (Or.inl ⟨by rfl, ?_⟩) (by assumption) ?_
    rotate_left
    · (intro w hSw; (try dsimp only at hSw); go_simp; try with_reducible rfl)
    simp only [Act.put, List.getElem_toArray, List.getElem_cons_zero, List.getElem_cons_succ, List.setIfInBounds_toArray, List.set_cons_zero, List.set_cons_succ]
    refine wpAnyH_take (i := 2) (v := ?_) rfl (by kernel_rfl) (by kernel_rfl) (by kernel_rfl) (fun _ _ _ h => h) (Or.inl ⟨by rfl, ?_⟩) (by assumption) ?_
    rotate_left
    · (intro w hSw; (try dsimp only at hSw); go_simp; try with_reducible rfl)
    simp only [Act.put, List.getElem_toArray, List.getElem_cons_zero, List.getElem_cons_succ, List.setIfInBounds_toArray, List.set_cons_zero, List.set_cons_succ]
    refine wpAnyH_take (i := 3) (v := ?_) rfl (by kernel_rfl) (by kernel_rfl) (by kernel_rfl) (fun _ _ _ h => h) (Or.inl ⟨by rfl, ?_⟩) (by assumption) ?_
    rotate_left
    · (intro w hSw; (try dsimp only at hSw); go_simp; try with_reducible rfl)
    simp only [Act.put, List.getElem_toArray, List.getElem_cons_zero, List.getElem_cons_succ, List.setIfInBounds_toArray, List.set_cons_zero, List.set_cons_succ]
    refine wpAnyH_take (i := 4) (v := ?_) rfl (by kernel_rfl) (by kernel_rfl) (by kernel_rfl) (fun _ _ _ h => h) (Or.inl ⟨by rfl, ?_⟩) (by assumption) ?_
    rotate_left
    · (intro w hSw; (try dsimp only at hSw); go_simp; try with_reducible rfl)
    simp only [Act.put, List.getElem_toArray, List.getElem_cons_zero, List.getElem_cons_succ, List.setIfInBounds_toArray, List.set_cons_zero, List.set_cons_succ]
    refine wpAnyH_take (i := 5) (v := ?_) rfl (by kernel_rfl) (by kernel_rfl) (by kernel_rfl) (fun _ _ _ h => h) (Or.inl ⟨by rfl, ?_⟩) (by assumption) ?_
    rotate_left
    · (intro w hSw; (try dsimp only at hSw); go_simp; try with_reducible rfl)
    simp only [Act.put, List.getElem_toArray, List.getElem_cons_zero, List.getElem_cons_succ, List.setIfInBounds_toArray, List.set_cons_zero, List.set_cons_succ]
    refine wpAnyH_take (i := 6) (v := ?_) rfl (by kernel_rfl) (by kernel_rfl) (by kernel_rfl) (fun _ _ _ h => h) (Or.inl ⟨by rfl, ?_⟩) (by assumption) ?_
    rotate_left
    · (intro w hSw; (try dsimp only at hSw); go_simp; try with_reducible rfl)
    simp only [Act.put, List.getElem_toArray, List.getElem_cons_zero, List.getElem_cons_succ, List.setIfInBounds_toArray, List.set_cons_zero, List.set_cons_succ]
    refine wpAnyH_take (i := 7) (v := ?_) rfl (by kernel_rfl) (by kernel_rfl) (by kernel_rfl) (fun _ _ _ h => h) (Or.inl ⟨by rfl, ?_⟩) (by assumption) ?_
    rotate_left
    · (intro w hSw; (try dsimp only at hSw); go_simp; try with_reducible rfl)
    simp only [Act.put, List.getElem_toArray, List.getElem_cons_zero, List.getElem_cons_succ, List.setIfInBounds_toArray, List.set_cons_zero, List.set_cons_succ]
    refine wpAnyH_take (i := 8) (v := ?_) rfl (by kernel_rfl) (by kernel_rfl) (by kernel_rfl) (fun _ _ _ h => h) (Or.inl ⟨by rfl, ?_⟩) (by assumption) ?_
    rotate_left
    · (intro w hSw; (try dsimp only at hSw); go_simp; try with_reducible rfl)
    simp only [Act.put, List.getElem_toArray, List.getElem_cons_zero, List.getElem_cons_succ, List.setIfInBounds_toArray, List.set_cons_zero, List.set_cons_succ]
    refine wpAnyH_take (i := 9) (v := ?_) rfl (by kernel_rfl) (by kernel_rfl) (by kernel_rfl) (fun _ _ _ h => h) (Or.inl ⟨by rfl, ?_⟩) (by assumption) ?_
    rotate_left
    · (intro w hSw; (try dsimp only at hSw); go_simp; try with_reducible rfl)
    simp only [Act.put, List.getElem_toArray, List.getElem_cons_zero, List.getElem_cons_succ, List.setIfInBounds_toArray, List.set_cons_zero, List.set_cons_succ]
    refine wpAnyH_take (i := 10) (v := ?_) rfl (by kernel_rfl) (by kernel_rfl) (by kernel_rfl) (fun _ _ _ h => h) (Or.inl ⟨by rfl, ?_⟩) (by assumption) ?_
    rotate_left
    · (intro w hSw; (try dsimp only at hSw); go_simp; try with_reducible rfl)
    simp only [Act.put, List.getElem_toArray, List.getElem_cons_zero, List.getElem_cons_succ, List.setIfInBounds_toArray, List.set_cons_zero, List.set_cons_succ]
    refine wpAnyH_take (i := 11) (v := ?_) rfl (by kernel_rfl) (by kernel_rfl) (by kernel_rfl) (fun _ _ _ h => h) (Or.inl ⟨by rfl, ?_⟩) (by assumption) ?_
    rotate_left
    · (intro w hSw; (try dsimp only at hSw); go_simp; try with_reducible rfl)
    simp only [Act.put, List.getElem_toArray, List.getElem_cons_zero, List.getElem_cons_succ, List.setIfInBounds_toArray, List.set_cons_zero, List.set_cons_succ]
    refine wpAnyH_take (i := 12) (v := ?_) rfl (by kernel_rfl) (by kernel_rfl) (by kernel_rfl) (fun _ _ _ h => h) (Or.inl ⟨by rfl, ?_⟩) (by assumption) ?_
    rotate_left
    · (intro w hSw; (try dsimp only at hSw); go_simp; try with_reducible rfl)
    simp only [Act.put, List.getElem_toArray, List.getElem_cons_zero, List.getElem_cons_succ, List.setIfInBounds_toArray, List.set_cons_zero, List.set_cons_succ]
    refine wpAnyH_take (i := 13) (v := ?_) rfl (by kernel_rfl) (by kernel_rfl) (by kernel_rfl) (fun _ _ _ h => h) (Or.inl ⟨by rfl, ?_⟩) (by assumption) ?_
    rotate_left
    · (intro w hSw; (try dsimp only at hSw); go_simp; try with_reducible rfl)
    simp only [Act.put, List.getElem_toArray, List.getElem_cons_zero, List.getElem_cons_succ, List.setIfInBounds_toArray, List.set_cons_zero, List.set_cons_succ]
    refine wpAnyH_take (i := 14) (v := ?_) rfl (by kernel_rfl) (by kernel_rfl) (by kernel_rfl) (fun _ _ _ h => h) (Or.inl ⟨by rfl, ?_⟩) (by assumption) ?_
    rotate_left
    · (intro w hSw; (try dsimp only at hSw); go_simp; try with_reducible rfl)
    simp only [Act.put, List.getElem_toArray, List.getElem_cons_zero, List.getElem_cons_succ, List.setIfInBounds_toArray, List.set_cons_zero, List.set_cons_succ]
    refine wpAnyH_take (i := 15) (v := ?_) rfl (by kernel_rfl) (by kernel_rfl) (by kernel_rfl) (fun _ _ _ h => h) (Or.inl ⟨by rfl, ?_⟩) (by assumption) ?_
    rotate_left
    · (intro w hSw; (try dsimp only at hSw); go_simp; try with_reducible rfl)
    simp only [Act.put, List.getElem_toArray, List.getElem_cons_zero, List.getElem_cons_succ, List.setIfInBounds_toArray, List.set_cons_zero, List.set_cons_succ]
    refine wpAnyH_take (i := 16) (v := ?_) rfl (by kernel_rfl) (by kernel_rfl) (by kernel_rfl) (fun _ _ _ h => h) (Or.inl ⟨by rfl, ?_⟩) (by assumption) ?_
    rotate_left
    · (intro w hSw; (try dsimp only at hSw); go_simp; try with_reducible rfl)
    simp only [Act.put, List.getElem_toArray, List.getElem_cons_zero, List.getElem_cons_succ, List.setIfInBounds_toArray, List.set_cons_zero, List.set_cons_succ]
    refine wpAnyH_take (i := 17) (v := ?_) rfl (by kernel_rfl) (by kernel_rfl) (by kernel_rfl) (fun _ _ _ h => h) (Or.inl ⟨by rfl, ?_⟩) (by assumption) ?_
    rotate_left
    · (intro w hSw; (try dsimp only at hSw); go_simp; try with_reducible rfl)
    simp only [Act.put, List.getElem_toArray, List.getElem_cons_zero, List.getElem_cons_succ, List.setIfInBounds_toArray, List.set_cons_zero, List.set_cons_succ]
    refine wpAnyH_take (i := 18) (v := ?_) rfl (by kernel_rfl) (by kernel_rfl) (by kernel_rfl) (fun _ _ _ h => h) (Or.inl ⟨by rfl, ?_⟩) (by assumption) ?_
    rotate_left
    · (intro w hSw; (try dsimp only at hSw); go_simp; try with_reducible rfl)
    simp only [Act.put, List.getElem_toArray, List.getElem_cons_zero, List.getElem_cons_succ, List.setIfInBounds_toArray, List.set_cons_zero, List.set_cons_succ]
    refine wpAnyH_take (i := 19) (v := ?_) rfl (by kernel_rfl) (by kernel_rfl) (by kernel_rfl) (fun _ _ _ h => h) (Or.inl ⟨by rfl, ?_⟩) (by assumption) ?_
    rotate_left
    · (intro w hSw; (try dsimp only at hSw); go_simp; try with_reducible rfl)
    simp only [Act.put, List.getElem_toArray, List.getElem_cons_zero, List.getElem_cons_succ, List.setIfInBounds_toArray, List.set_cons_zero, List.set_cons_succ]
    refine wpAnyH_take (i := 20) (v := ?_) rfl (by kernel_rfl) (by kernel_rfl) (by kernel_rfl) (fun _ _ _ h => h) (Or.inl ⟨by rfl, ?_⟩) (by assumption) ?_
    rotate_left
    · (intro w hSw; (try dsimp only at hSw); go_simp; try with_reducible rfl)
    simp only [Act.put, List.getElem_toArray, List.getElem_cons_zero, List.getElem_cons_succ, List.setIfInBounds_toArray, List.set_cons_zero, List.set_cons_succ]
    refine wpAnyH_ready (rs := [21]) (by kernel_rfl) (by simp) ?_
    refine AllReadyH.cons rfl (fun K hK => ?_) AllReadyH.nil
    simp only [List.getElem_toArray, List.getElem_cons_zero, List.getElem_cons_succ]
    go_simp
    refine H3.out.mono ?_; rintro e w4 ⟨rfl, ht4⟩
    go_wp2_with fail
    refine hK.out _ _ ?_ (fun hHeld => ?_)
    · exact ⟨ht4.cell hHeld.1 (by simp), ht4.cell hHeld.2.1 (by simp), ht4.cell hHeld.2.2.1 (by simp), hcv1 _ (((Touch.refl [] w2).drew).trans ht4 (by simp)), hcv2 _ (((Touch.refl [] w2).drew).trans ht4 (by simp))⟩
    clear hK K
    try simp only [Act.put, List.getElem_toArray, List.getElem_cons_zero, List.getElem_cons_succ, List.setIfInBounds_toArray, List.set_cons_zero, List.set_cons_succ]
    have HP4 := toHid (HP2.out.still (((Touch.refl [] w2).drew).trans ht4 (by simp)))
    clear ht4
    refine wpAnyH_take (i := 22) (v := ?_) rfl (by kernel_rfl) (by kernel_rfl) (by kernel_rfl) (fun _ _ _ h => h) (Or.inl ⟨by rfl, ?_⟩) (by assumption) ?_
    rotate_left
    · (intro w hSw; (try dsimp only at hSw); go_simp; try with_reducible rfl)
    simp only [Act.put, List.getElem_toArray, List.getElem_cons_zero, List.getElem_cons_succ, List.setIfInBounds_toArray, List.set_cons_zero, List.set_cons_succ]
    refine wpAnyH_ready (rs := [23]) (by kernel_rfl) (by simp) ?_
    refine AllReadyH.cons rfl (fun K hK => ?_) AllReadyH.nil
    simp only [List.getElem_toArray, List.getElem_cons_zero, List.getElem_cons_succ]
    go_simp
    refine hK.out _ _ ?_ (fun hHeld => ?_)
    · exact hHeld
    clear hK K
    try simp only [Act.put, List.getElem_toArray, List.getElem_cons_zero, List.getElem_cons_succ, List.setIfInBounds_toArray, List.set_cons_zero, List.set_cons_succ]
    refine wpAnyH_done (by kernel_rfl) ?_ _
    go_wp2
    go_ret
    exact OnePost.same HP4.out HR.out
end Go.Proofs.Ytbidppeelophhaa
