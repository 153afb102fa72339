/-
  For every input MemCopies returns true, and each argument reads afterwards as it read before. No conditions. (The walk.)
-/
import Derived.Test.YtbidppeelophhaaCopies0
import Derived.Deep.RegionHeld3
import Derived.Deep.DrawnRows
import Derived.Deep.CutRange
namespace Go.Proofs.Ytbidppeelophhaa
open Go.RowKit
attribute [local go_sem ↓] Go.wp_at_zero Go.wp_at_succ

set_option maxHeartbeats 8000000 in
set_option maxRecDepth 100000 in
theorem memCopies_walk (sa : Option Addr) (n c : Nat) (f : Nat → OpC) (sb : Option Addr) (n2 c2 : Nat) (f2 : Nat → OpC) (w : World) (hs : Script w sa n f) (hn : n ≤ 9223372036854775807) (hs2 : Script w sb n2 f2) (hn2 : n2 ≤ 9223372036854775807) (hnc : n ≤ c) (hnc2 : n2 ≤ c2) :
    Calls Try.prog 4 #[.slice sa n c, .slice sb n2 c2] w fun e w' => e = .returned (.bool true) ∧ Touch [] w w' := by
  have HS := toHid hs
  have HS2 := toHid hs2
  clear hs hs2
  go_enter Try.func4, Try.ntmps4
  go_wp2_with fail
  refine (first_any w).mono ?_
  rintro e w2 ⟨rfl, ht2⟩
  have HT2 := toHid ht2
  clear ht2
  go_wp2_with fail
  refine (newM_any _).mono ?_
  rintro e w3 ⟨rfl, hM3, ht3⟩
  have HP := toHid (pair_new (w0 := w) w2.heap.size hM3 (HT2.out.trans ht3 (by simp)) HT2.out.size)
  generalize w2.heap.size = M at *
  clear hM3 ht3 HT2
  go_upto_region 4 with fail
  generalize w3.heap.size = R at *
  generalize w3.alloc (.cells #[.slice none 0 0] 29) = W3 at *
  go_cut [25, 26, 27] from 21 to 27 (fun a b i wx => ∃ h : Nat, h ≤ n ∧ h ≤ 30 ∧ a = .slice sa h c ∧ b = .int .i64 h ∧ i = .int .i64 0 ∧ wx = W3)
  case first =>
    go_wp2
    all_goals
      go_meet
      first
        | exact ⟨n, Nat.le_refl _, by omega, rfl, rfl, rfl, rfl⟩
        | exact ⟨30, by omega, Nat.le_refl _, rfl, rfl, rfl, rfl⟩
  case rest =>
    obtain ⟨h, hh1, hh2, rfl, rfl, rfl, rfl⟩ := hcut
    go_wp2_with fail
    go_loopw [27] (fun x w' => ∃ k : Nat, k ≤ h ∧ x = .int .i64 k ∧ Hid (∃ s t, Pair w w' s t ∧ Rel s.rs s.next t.all ∧ s.m = M ∧ t.m = R ∧ t.all.length ≤ k)) (fun x _ => h - (intOf x).toNat)
    case atStart => exact ⟨0, by omega, rfl, _, _, HP.out, Rel.empty, rfl, rfl, by simp⟩
    case round =>
      obtain ⟨k, hk, rfl, HI⟩ := hrel
      obtain ⟨s, t, hP, hR, hsM, htR, hlen⟩ := HI.out
      by_cases hlt : k < h
      · obtain ⟨b, off, hsa, hcell⟩ : ∃ b off, sa = some ⟨b, off, none⟩ ∧ ∀ j, j < n → (f j).Ok w ∧ w.cell? ⟨b, off + j * 6, none⟩ = some (.int .i64 (f j).k) ∧ w.cell? ⟨b, off + j * 6 + 1, none⟩ = some (.int .u64 (f j).a) ∧
            w.cell? ⟨b, off + j * 6 + 2, none⟩ = some (.int .i64 (f j).n) ∧ w.cell? ⟨b, off + j * 6 + 3, none⟩ = some (.int .i64 (f j).m) ∧ w.cell? ⟨b, off + j * 6 + 4, none⟩ = some (.int .u64 (f j).v) ∧ w.cell? ⟨b, off + j * 6 + 5, none⟩ = some (.slice (f j).sa (f j).sl (f j).sc) := by
          rcases HS.out with h | h
          · omega
          · exact h
        subst hsa
        obtain ⟨ok, c0, c1, c2, c3, c4, c5⟩ := hcell k (by omega)
        replace c0 := hP.touch.cell c0 (by simp)
        replace c1 := hP.touch.cell c1 (by simp)
        replace c2 := hP.touch.cell c2 (by simp)
        replace c3 := hP.touch.cell c3 (by simp)
        replace c4 := hP.touch.cell c4 (by simp)
        replace c5 := hP.touch.cell c5 (by simp)
        generalize f k = o at *
        have hkn : (k : Int) < h := by omega
        have hP1 := hP.still ((Touch.refl [] wr).alloc (.cells #[.int .i64 o.k, .int .u64 o.a, .int .i64 o.n, .int .i64 o.m, .int .u64 o.v, .slice o.sa o.sl o.sc] 33))
        have H1 := toHid (one_any hP1 hR (by omega) o.k o.a o.n o.m o.v o.sa o.sl o.sc ok.a0 ok.a1 ok.n1 ok.v0 ok.v1 o.bs ok.arg)
        rw [hsM, htR] at H1
        simp only [opV] at H1
        have HL := toHid hlen
        have HM := toHid (And.intro hsM htR)
        clear hP hR hcell HI ok hP1 hsM htR hlen
        go_wp2_with fail
        refine H1.out.mono ?_
        rintro e w4 ⟨rfl, s', t', hP4, hR4, hs4, ht4, hl4⟩
        have HX := toHid (And.intro hP4 (And.intro hR4 (And.intro (hs4.trans HM.out.1) (And.intro (ht4.trans HM.out.2) hl4))))
        clear hP4 hR4 hs4 ht4 hl4 H1
        go_wp2
        go_roundw
        case rel => exact ⟨k + 1, by omega, by go_num, s', t', HX.out.1, HX.out.2.1, HX.out.2.2.1, HX.out.2.2.2.1, by have := HX.out.2.2.2.2; have := HL.out; omega⟩
        case measure => simp [intOf]; omega
      · have hkh : k = h := by omega
        subst hkh
        generalize hw4 : wr = w4 at *
        clear hw4 HI HP
        have H1 := toHid (copy_any hP.mem)
        rw [hsM] at H1
        have HPP := toHid (And.intro hP (And.intro hR (And.intro hsM (And.intro htR hlen))))
        clear hP hR hsM htR hlen
        go_wp2_with fail
        refine H1.out.mono ?_
        rintro e w5 ⟨C, G, rs, rfl, hC1, hCG, hCl, hGl⟩
        have H2 := toHid (rcopy_any (HPP.out.1.ref.touch hC1.touch (by simp)) (by have := HPP.out.2.2.2.2; omega))
        rw [HPP.out.2.2.2.1] at H2
        have HC1 := toHid (And.intro hC1 (And.intro hCG (And.intro hCl hGl)))
        clear hC1 hCG hCl hGl H1
        go_wp2_with fail
        refine H2.out.mono ?_
        rintro e w6 ⟨O, t2, rfl, hC2⟩
        have HQ := toHid (And.intro (pair_copy HPP.out.1 HC1.out.1 HC1.out.2.1 HC1.out.2.2.1 HC1.out.2.2.2 hC2) (And.intro (HPP.out.2.1.copy HPP.out.1.mem HC1.out.1 hC2) (And.intro hC2.m hC2.len)))
        clear hC2 H2 HC1
        go_upto_region 12 with fail
        go_cut [46, 47, 48] from 42 to 48 (fun a b i wx => ∃ h : Nat, h ≤ n2 ∧ h ≤ 30 ∧ a = .slice sb h c2 ∧ b = .int .i64 h ∧ i = .int .i64 0 ∧ wx = w6)
        case first =>
          go_wp2
          all_goals
            go_meet
            first
              | exact ⟨n2, Nat.le_refl _, by omega, rfl, rfl, rfl, rfl⟩
              | exact ⟨30, by omega, Nat.le_refl _, rfl, rfl, rfl, rfl⟩
        case rest =>
          obtain ⟨h, hj1, hj2, rfl, rfl, rfl, rfl⟩ := hcut
          go_wp2_with fail
          have HS4 := toHid (HS2.out.up HPP.out.1.touch)
          go_loopw [48] (fun x w' => ∃ j : Nat, j ≤ h ∧ x = .int .i64 j ∧ Hid (∃ s t, Pair w4 w' s t ∧ Rel s.rs s.next t.all ∧ s.m = C ∧ t.m = O ∧ t.all.length ≤ 30 + j)) (fun x _ => h - (intOf x).toNat)
          case atStart => exact ⟨0, by omega, rfl, _, _, HQ.out.1, HQ.out.2.1, rfl, HQ.out.2.2.1, by have := HQ.out.2.2.2; have := HPP.out.2.2.2.2; omega⟩
          case round =>
            obtain ⟨j, hj, rfl, HI⟩ := hrel
            obtain ⟨s1, t1, hP, hR, hsM, htR, hlen⟩ := HI.out
            by_cases hlt : j < h
            · obtain ⟨b, off, hsa, hcell⟩ : ∃ b off, sb = some ⟨b, off, none⟩ ∧ ∀ j, j < n2 → (f2 j).Ok w4 ∧ w4.cell? ⟨b, off + j * 6, none⟩ = some (.int .i64 (f2 j).k) ∧ w4.cell? ⟨b, off + j * 6 + 1, none⟩ = some (.int .u64 (f2 j).a) ∧
                  w4.cell? ⟨b, off + j * 6 + 2, none⟩ = some (.int .i64 (f2 j).n) ∧ w4.cell? ⟨b, off + j * 6 + 3, none⟩ = some (.int .i64 (f2 j).m) ∧ w4.cell? ⟨b, off + j * 6 + 4, none⟩ = some (.int .u64 (f2 j).v) ∧ w4.cell? ⟨b, off + j * 6 + 5, none⟩ = some (.slice (f2 j).sa (f2 j).sl (f2 j).sc) := by
                rcases HS4.out with h | h
                · omega
                · exact h
              subst hsa
              obtain ⟨ok, c0, c1, c2, c3, c4, c5⟩ := hcell j (by omega)
              replace c0 := hP.touch.cell c0 (by simp)
              replace c1 := hP.touch.cell c1 (by simp)
              replace c2 := hP.touch.cell c2 (by simp)
              replace c3 := hP.touch.cell c3 (by simp)
              replace c4 := hP.touch.cell c4 (by simp)
              replace c5 := hP.touch.cell c5 (by simp)
              generalize f2 j = o at *
              have hkn : (j : Int) < h := by omega
              have hP1 := hP.still ((Touch.refl [] wr).alloc (.cells #[.int .i64 o.k, .int .u64 o.a, .int .i64 o.n, .int .i64 o.m, .int .u64 o.v, .slice o.sa o.sl o.sc] 33))
              have H1 := toHid (one_any hP1 hR (by omega) o.k o.a o.n o.m o.v o.sa o.sl o.sc ok.a0 ok.a1 ok.n1 ok.v0 ok.v1 o.bs ok.arg)
              rw [hsM, htR] at H1
              simp only [opV] at H1
              have HL := toHid hlen
              have HM := toHid (And.intro hsM htR)
              clear hP hR hcell HI ok hP1 hsM htR hlen
              go_wp2_with fail
              refine H1.out.mono ?_
              rintro e w4 ⟨rfl, s', t', hP4, hR4, hs4, ht4, hl4⟩
              have HX := toHid (And.intro hP4 (And.intro hR4 (And.intro (hs4.trans HM.out.1) (And.intro (ht4.trans HM.out.2) hl4))))
              clear hP4 hR4 hs4 ht4 hl4 H1
              go_wp2
              go_roundw
              case rel => exact ⟨j + 1, by omega, by go_num, s', t', HX.out.1, HX.out.2.1, HX.out.2.2.1, HX.out.2.2.2.1, by have := HX.out.2.2.2.2; have := HL.out; omega⟩
              case measure => simp [intOf]; omega
            · have hjh : j = h := by omega
              subst hjh
              generalize hw7 : wr = w7 at *
              clear hw7
              have HT7 := toHid hP.touch
              clear hP hR hsM htR hlen HI HS4 HQ
              have e0 := (HPP.out.1.ref.touch HT7.out (by simp)).c0
              rw [HPP.out.2.2.2.1] at e0
              unfold slV at e0
              generalize hsg : (t.g.map fun b => (⟨b, 0, none⟩ : Addr)) = tg at *
              generalize hal : t.all.length = al at *
              generalize hcap : t.cap = cap at *
              have HG := toHid (And.intro hsg (And.intro hal hcap))
              have hal30 : al ≤ 1000 := by
                have q1 := HPP.out.2.2.2.2
                omega
              clear hsg hal hcap
              go_wp2_with fail
              clear e0
              go_loopw [63] (fun x w' => ∃ i : Nat, i ≤ al ∧ x = .int .i64 i ∧ Hid (Touch [] w4 w')) (fun x _ => al - (intOf x).toNat)
              case atStart => exact ⟨0, by omega, rfl, HT7.out⟩
              case round =>
                obtain ⟨i, hi, rfl, HJ⟩ := hrel
                by_cases hlt3 : i < al
                · have hM8 := HPP.out.1.mem.touch HJ.out (by simp)
                  have hR8 := HPP.out.1.ref.touch HJ.out (by simp)
                  have H1 := toHid (bytes_any hM8 i)
                  rw [HPP.out.2.2.1] at H1
                  have HH := toHid (HPP.out.2.1.has i)
                  have hii : (i : Int) < al := by omega
                  cases hf : regOf s.rs i with
                  | none =>
                    have HF := toHid hf
                    clear hf hM8
                    go_wp2_with fail
                    refine H1.out.mono ?_
                    rintro e w8 ⟨ht8, he⟩
                    rw [HF.out] at he
                    simp only at he
                    subst he
                    have H2 := toHid (has_any (hR8.touch ht8.drew (by simp)) i)
                    rw [HH.out, HF.out, HPP.out.2.2.2.1] at H2
                    simp only [Option.isSome_none] at H2
                    have HT9 := toHid (HJ.out.trans ht8 (by simp))
                    clear ht8 hR8 H1
                    go_wp2_with fail
                    refine wp_region_held_drew (S := (fun _ => True)) (by kernel_rfl) ?_ (fun hHeld => ?_)
                    · trivial
                    refine wpAnyH_take (i := 0) (v := ?_) rfl (by kernel_rfl) (by kernel_rfl) (by kernel_rfl) (fun _ _ _ h => h) (Or.inl ⟨by rfl, ?_⟩) (by assumption) ?_
                    rotate_left
                    · (intro w hSw; (try dsimp only at hSw); go_simp; try with_reducible rfl)
                    simp only [Act.put, List.getElem_toArray, List.getElem_cons_zero, List.setIfInBounds_toArray, List.set_cons_zero, List.set_cons_succ]
                    refine wpAnyH_take (i := 1) (v := ?_) rfl (by kernel_rfl) (by kernel_rfl) (by kernel_rfl) (fun _ _ _ h => h) (Or.inl ⟨by rfl, ?_⟩) (by assumption) ?_
                    rotate_left
                    · (intro w hSw; (try dsimp only at hSw); go_simp; try with_reducible rfl)
                    simp only [Act.put, List.getElem_toArray, List.getElem_cons_zero, List.getElem_cons_succ, List.setIfInBounds_toArray, List.set_cons_zero, List.set_cons_succ]
                    refine wpAnyH_take (i := 3) (v := ?_) rfl (by kernel_rfl) (by kernel_rfl) (by kernel_rfl) (fun _ _ _ h => h) (Or.inl ⟨by rfl, ?_⟩) (by assumption) ?_
                    rotate_left
                    · (intro w hSw; (try dsimp only at hSw); go_simp; try with_reducible rfl)
                    simp only [Act.put, List.getElem_toArray, List.getElem_cons_zero, List.getElem_cons_succ, List.setIfInBounds_toArray, List.set_cons_zero, List.set_cons_succ]
                    refine wpAnyH_take (i := 4) (v := ?_) rfl (by kernel_rfl) (by kernel_rfl) (by kernel_rfl) (fun _ _ _ h => h) (Or.inl ⟨by rfl, ?_⟩) (by assumption) ?_
                    rotate_left
                    · (intro w hSw; (try dsimp only at hSw); go_simp; try with_reducible rfl)
                    simp only [Act.put, List.getElem_toArray, List.getElem_cons_zero, List.getElem_cons_succ, List.setIfInBounds_toArray, List.set_cons_zero, List.set_cons_succ]
                    refine wpAnyH_ready (rs := [2]) (by kernel_rfl) (by simp) ?_
                    refine AllReadyH.cons rfl (fun K hK => ?_) AllReadyH.nil
                    simp only [List.getElem_toArray, List.getElem_cons_zero, List.getElem_cons_succ]
                    go_simp
                    refine H2.out.mono ?_; rintro e w5 ⟨rfl, rfl⟩
                    go_wp2_with fail
                    refine hK.out _ _ ?_ (fun hHeld => ?_)
                    · trivial
                    clear hK K
                    try simp only [Act.put, List.getElem_toArray, List.getElem_cons_zero, List.getElem_cons_succ, List.setIfInBounds_toArray, List.set_cons_zero, List.set_cons_succ]
                    refine wpAnyH_take (i := 5) (v := ?_) rfl (by kernel_rfl) (by kernel_rfl) (by kernel_rfl) (fun _ _ _ h => h) (Or.inl ⟨by rfl, ?_⟩) (by assumption) ?_
                    rotate_left
                    · (intro w hSw; (try dsimp only at hSw); go_simp; try with_reducible rfl)
                    simp only [Act.put, List.getElem_toArray, List.getElem_cons_zero, List.getElem_cons_succ, List.setIfInBounds_toArray, List.set_cons_zero, List.set_cons_succ]
                    refine wpAnyH_take (i := 6) (v := ?_) rfl (by kernel_rfl) (by kernel_rfl) (by kernel_rfl) (fun _ _ _ h => h) (Or.inl ⟨by rfl, ?_⟩) (by assumption) ?_
                    rotate_left
                    · (intro w hSw; (try dsimp only at hSw); go_simp; try with_reducible rfl)
                    simp only [Act.put, List.getElem_toArray, List.getElem_cons_zero, List.getElem_cons_succ, List.setIfInBounds_toArray, List.set_cons_zero, List.set_cons_succ]
                    refine wpAnyH_take (i := 7) (v := ?_) rfl (by kernel_rfl) (by kernel_rfl) (by kernel_rfl) (fun _ _ _ h => h) (Or.inl ⟨by rfl, ?_⟩) (by assumption) ?_
                    rotate_left
                    · (intro w hSw; (try dsimp only at hSw); go_simp; try with_reducible rfl)
                    simp only [Act.put, List.getElem_toArray, List.getElem_cons_zero, List.getElem_cons_succ, List.setIfInBounds_toArray, List.set_cons_zero, List.set_cons_succ]
                    refine wpAnyH_take (i := 8) (v := ?_) rfl (by kernel_rfl) (by kernel_rfl) (by kernel_rfl) (fun _ _ _ h => h) (Or.inl ⟨by rfl, ?_⟩) (by assumption) ?_
                    rotate_left
                    · (intro w hSw; (try dsimp only at hSw); go_simp; try with_reducible rfl)
                    simp only [Act.put, List.getElem_toArray, List.getElem_cons_zero, List.getElem_cons_succ, List.setIfInBounds_toArray, List.set_cons_zero, List.set_cons_succ]
                    refine wpAnyH_ready (rs := [9]) (by kernel_rfl) (by simp) ?_
                    refine AllReadyH.cons rfl (fun K hK => ?_) AllReadyH.nil
                    simp only [List.getElem_toArray, List.getElem_cons_zero, List.getElem_cons_succ]
                    go_simp
                    refine H2.out.mono ?_; rintro e w5 ⟨rfl, rfl⟩
                    go_wp2_with fail
                    refine hK.out _ _ ?_ (fun hHeld => ?_)
                    · trivial
                    clear hK K
                    try simp only [Act.put, List.getElem_toArray, List.getElem_cons_zero, List.getElem_cons_succ, List.setIfInBounds_toArray, List.set_cons_zero, List.set_cons_succ]
                    refine wpAnyH_take (i := 10) (v := ?_) rfl (by kernel_rfl) (by kernel_rfl) (by kernel_rfl) (fun _ _ _ h => h) (Or.inl ⟨by rfl, ?_⟩) (by assumption) ?_
                    rotate_left
                    · (intro w hSw; (try dsimp only at hSw); go_simp; try with_reducible rfl)
                    simp only [Act.put, List.getElem_toArray, List.getElem_cons_zero, List.getElem_cons_succ, List.setIfInBounds_toArray, List.set_cons_zero, List.set_cons_succ]
                    refine wpAnyH_take (i := 11) (v := undef) rfl (by kernel_rfl) (by kernel_rfl) (by kernel_rfl) (fun _ _ _ h => h) (Or.inr ⟨by rfl, rfl⟩) (by assumption) ?_
                    simp only [Act.put, List.getElem_toArray, List.getElem_cons_zero, List.getElem_cons_succ, List.setIfInBounds_toArray, List.set_cons_zero, List.set_cons_succ]
                    refine wpAnyH_take (i := 12) (v := undef) rfl (by kernel_rfl) (by kernel_rfl) (by kernel_rfl) (fun _ _ _ h => h) (Or.inr ⟨by rfl, rfl⟩) (by assumption) ?_
                    simp only [Act.put, List.getElem_toArray, List.getElem_cons_zero, List.getElem_cons_succ, List.setIfInBounds_toArray, List.set_cons_zero, List.set_cons_succ]
                    refine wpAnyH_take (i := 13) (v := undef) rfl (by kernel_rfl) (by kernel_rfl) (by kernel_rfl) (fun _ _ _ h => h) (Or.inr ⟨by rfl, rfl⟩) (by assumption) ?_
                    simp only [Act.put, List.getElem_toArray, List.getElem_cons_zero, List.getElem_cons_succ, List.setIfInBounds_toArray, List.set_cons_zero, List.set_cons_succ]
                    refine wpAnyH_take (i := 14) (v := undef) rfl (by kernel_rfl) (by kernel_rfl) (by kernel_rfl) (fun _ _ _ h => h) (Or.inr ⟨by rfl, rfl⟩) (by assumption) ?_
                    simp only [Act.put, List.getElem_toArray, List.getElem_cons_zero, List.getElem_cons_succ, List.setIfInBounds_toArray, List.set_cons_zero, List.set_cons_succ]
                    refine wpAnyH_take (i := 15) (v := undef) rfl (by kernel_rfl) (by kernel_rfl) (by kernel_rfl) (fun _ _ _ h => h) (Or.inr ⟨by rfl, rfl⟩) (by assumption) ?_
                    simp only [Act.put, List.getElem_toArray, List.getElem_cons_zero, List.getElem_cons_succ, List.setIfInBounds_toArray, List.set_cons_zero, List.set_cons_succ]
                    refine wpAnyH_take (i := 16) (v := undef) rfl (by kernel_rfl) (by kernel_rfl) (by kernel_rfl) (fun _ _ _ h => h) (Or.inr ⟨by rfl, rfl⟩) (by assumption) ?_
                    simp only [Act.put, List.getElem_toArray, List.getElem_cons_zero, List.getElem_cons_succ, List.setIfInBounds_toArray, List.set_cons_zero, List.set_cons_succ]
                    refine wpAnyH_take (i := 17) (v := undef) rfl (by kernel_rfl) (by kernel_rfl) (by kernel_rfl) (fun _ _ _ h => h) (Or.inr ⟨by rfl, rfl⟩) (by assumption) ?_
                    simp only [Act.put, List.getElem_toArray, List.getElem_cons_zero, List.getElem_cons_succ, List.setIfInBounds_toArray, List.set_cons_zero, List.set_cons_succ]
                    refine wpAnyH_take (i := 18) (v := undef) rfl (by kernel_rfl) (by kernel_rfl) (by kernel_rfl) (fun _ _ _ h => h) (Or.inr ⟨by rfl, rfl⟩) (by assumption) ?_
                    simp only [Act.put, List.getElem_toArray, List.getElem_cons_zero, List.getElem_cons_succ, List.setIfInBounds_toArray, List.set_cons_zero, List.set_cons_succ]
                    refine wpAnyH_take (i := 19) (v := undef) rfl (by kernel_rfl) (by kernel_rfl) (by kernel_rfl) (fun _ _ _ h => h) (Or.inr ⟨by rfl, rfl⟩) (by assumption) ?_
                    simp only [Act.put, List.getElem_toArray, List.getElem_cons_zero, List.getElem_cons_succ, List.setIfInBounds_toArray, List.set_cons_zero, List.set_cons_succ]
                    refine wpAnyH_take (i := 20) (v := undef) rfl (by kernel_rfl) (by kernel_rfl) (by kernel_rfl) (fun _ _ _ h => h) (Or.inr ⟨by rfl, rfl⟩) (by assumption) ?_
                    simp only [Act.put, List.getElem_toArray, List.getElem_cons_zero, List.getElem_cons_succ, List.setIfInBounds_toArray, List.set_cons_zero, List.set_cons_succ]
                    refine wpAnyH_take (i := 21) (v := undef) rfl (by kernel_rfl) (by kernel_rfl) (by kernel_rfl) (fun _ _ _ h => h) (Or.inr ⟨by rfl, rfl⟩) (by assumption) ?_
                    simp only [Act.put, List.getElem_toArray, List.getElem_cons_zero, List.getElem_cons_succ, List.setIfInBounds_toArray, List.set_cons_zero, List.set_cons_succ]
                    refine wpAnyH_take (i := 22) (v := undef) rfl (by kernel_rfl) (by kernel_rfl) (by kernel_rfl) (fun _ _ _ h => h) (Or.inr ⟨by rfl, rfl⟩) (by assumption) ?_
                    simp only [Act.put, List.getElem_toArray, List.getElem_cons_zero, List.getElem_cons_succ, List.setIfInBounds_toArray, List.set_cons_zero, List.set_cons_succ]
                    refine wpAnyH_take (i := 23) (v := ?_) rfl (by kernel_rfl) (by kernel_rfl) (by kernel_rfl) (fun _ _ _ h => h) (Or.inl ⟨by rfl, ?_⟩) (by assumption) ?_
                    rotate_left
                    · (intro w hSw; (try dsimp only at hSw); go_simp; try with_reducible rfl)
                    simp only [Act.put, List.getElem_toArray, List.getElem_cons_zero, List.getElem_cons_succ, List.setIfInBounds_toArray, List.set_cons_zero, List.set_cons_succ]
                    refine wpAnyH_take (i := 24) (v := ?_) rfl (by kernel_rfl) (by kernel_rfl) (by kernel_rfl) (fun _ _ _ h => h) (Or.inl ⟨by rfl, ?_⟩) (by assumption) ?_
                    rotate_left
                    · (intro w hSw; (try dsimp only at hSw); go_simp; try with_reducible rfl)
                    simp only [Act.put, List.getElem_toArray, List.getElem_cons_zero, List.getElem_cons_succ, List.setIfInBounds_toArray, List.set_cons_zero, List.set_cons_succ]
                    refine wpAnyH_done (by kernel_rfl) ?_ _
                    go_wp2
                    go_roundw
                    case rel => exact ⟨i + 1, by omega, by go_num, HT9.out.drew⟩
                    case measure => simp [intOf]; omega
                  | some r =>
                    have hrm : r ∈ s.rs := List.mem_of_find?_eq_some hf
                    have hid : r.id = i := by have := List.find?_some hf; simpa using this
                    obtain ⟨i', x, hx, hri, htw⟩ := HPP.out.2.1.there r hrm
                    obtain rfl : i' = i := by omega
                    obtain ⟨gb, hgb⟩ := hR8.some_g (i := i') (by rw [HG.out.2.1]; exact hlt3)
                    have hsg := HG.out.1
                    rw [hgb] at hsg
                    simp only [Option.map_some] at hsg
                    subst hsg
                    have HF := toHid hf
                    clear hf hM8
                    go_wp2_with fail
                    refine H1.out.mono ?_
                    rintro e w8 ⟨ht8, he⟩
                    rw [HF.out] at he
                    obtain ⟨x2, rfl, hs2⟩ := he
                    have hR9 := hR8.touch ht8.drew (by simp)
                    have H2 := toHid (has_any hR9 i')
                    rw [HH.out, HF.out, HPP.out.2.2.2.1] at H2
                    simp only [Option.isSome_some] at H2
                    have e0 := hR9.c0
                    rw [hgb, HG.out.2.1, HG.out.2.2, HPP.out.2.2.2.1, slV_some] at e0
                    have e1 := hR9.at hgb hx (j := 3) (by omega) rfl
                    obtain ⟨rest, hxB⟩ := (hR9.regs x (List.mem_of_getElem? hx)).bytes
                    have hcv1 := (hs2.touch ((Touch.refl [] w8).drew)).conv
                    have hcv2 := conv_at w8.drew x.bb 0 x.bcap x.bytes (fun j v hj => by
                      rw [Nat.zero_add]
                      exact hxB.cell (by rw [List.getElem?_append_left (List.getElem?_eq_some_iff.1 hj).1]; exact hj))
                    rw [htw.bytes] at hcv2 e1
                    have HT9 := toHid (HJ.out.trans ht8 (by simp))
                    generalize strOfNums r.bytes = Z at *
                    generalize x.bb = xb at *
                    generalize r.bytes.length = xl at *
                    generalize x.bcap = xc at *
                    clear ht8 hR8 hR9 H1 hxB hs2 htw hx hri hid hrm
                    go_wp2_with fail
                    refine wp_region_held_drew (S := (fun w' => w'.cell? ⟨R, 0, none⟩ = some (.slice (some ⟨gb, 0, none⟩) al cap) ∧ w'.cell? ⟨gb, i' * 5 + 3, none⟩ = some (.slice (some ⟨xb, 0, none⟩) xl xc) ∧ (convert 31 9 x2).run Try.prog w' = .ok (.string Z) w' ∧ (convert 31 9 (.slice (some ⟨xb, 0, none⟩) xl xc)).run Try.prog w' = .ok (.string Z) w')) (by kernel_rfl) ?_ (fun hHeld => ?_)
                    · exact ⟨e0, e1, hcv1, hcv2⟩
                    refine wpAnyH_take (i := 0) (v := ?_) rfl (by kernel_rfl) (by kernel_rfl) (by kernel_rfl) (fun _ _ _ h => h) (Or.inl ⟨by rfl, ?_⟩) (by assumption) ?_
                    rotate_left
                    · (intro w hSw; (try dsimp only at hSw); go_simp; try with_reducible rfl)
                    simp only [Act.put, List.getElem_toArray, List.getElem_cons_zero, List.setIfInBounds_toArray, List.set_cons_zero, List.set_cons_succ]
                    refine wpAnyH_take (i := 1) (v := ?_) rfl (by kernel_rfl) (by kernel_rfl) (by kernel_rfl) (fun _ _ _ h => h) (Or.inl ⟨by rfl, ?_⟩) (by assumption) ?_
                    rotate_left
                    · (intro w hSw; (try dsimp only at hSw); go_simp; try with_reducible rfl)
                    simp only [Act.put, List.getElem_toArray, List.getElem_cons_zero, List.getElem_cons_succ, List.setIfInBounds_toArray, List.set_cons_zero, List.set_cons_succ]
                    refine wpAnyH_take (i := 3) (v := ?_) rfl (by kernel_rfl) (by kernel_rfl) (by kernel_rfl) (fun _ _ _ h => h) (Or.inl ⟨by rfl, ?_⟩) (by assumption) ?_
                    rotate_left
                    · (intro w hSw; (try dsimp only at hSw); go_simp; try with_reducible rfl)
                    simp only [Act.put, List.getElem_toArray, List.getElem_cons_zero, List.getElem_cons_succ, List.setIfInBounds_toArray, List.set_cons_zero, List.set_cons_succ]
                    refine wpAnyH_take (i := 4) (v := ?_) rfl (by kernel_rfl) (by kernel_rfl) (by kernel_rfl) (fun _ _ _ h => h) (Or.inl ⟨by rfl, ?_⟩) (by assumption) ?_
                    rotate_left
                    · (intro w hSw; (try dsimp only at hSw); go_simp; try with_reducible rfl)
                    simp only [Act.put, List.getElem_toArray, List.getElem_cons_zero, List.getElem_cons_succ, List.setIfInBounds_toArray, List.set_cons_zero, List.set_cons_succ]
                    refine wpAnyH_ready (rs := [2]) (by kernel_rfl) (by simp) ?_
                    refine AllReadyH.cons rfl (fun K hK => ?_) AllReadyH.nil
                    simp only [List.getElem_toArray, List.getElem_cons_zero, List.getElem_cons_succ]
                    go_simp
                    refine H2.out.mono ?_; rintro e w5 ⟨rfl, rfl⟩
                    go_wp2_with fail
                    refine hK.out _ _ ?_ (fun hHeld => ?_)
                    · exact hHeld
                    clear hK K
                    try simp only [Act.put, List.getElem_toArray, List.getElem_cons_zero, List.getElem_cons_succ, List.setIfInBounds_toArray, List.set_cons_zero, List.set_cons_succ]
                    refine wpAnyH_take (i := 5) (v := ?_) rfl (by kernel_rfl) (by kernel_rfl) (by kernel_rfl) (fun _ _ _ h => h) (Or.inl ⟨by rfl, ?_⟩) (by assumption) ?_
                    rotate_left
                    · (intro w hSw; (try dsimp only at hSw); go_simp; try with_reducible rfl)
                    simp only [Act.put, List.getElem_toArray, List.getElem_cons_zero, List.getElem_cons_succ, List.setIfInBounds_toArray, List.set_cons_zero, List.set_cons_succ]
                    refine wpAnyH_take (i := 6) (v := ?_) rfl (by kernel_rfl) (by kernel_rfl) (by kernel_rfl) (fun _ _ _ h => h) (Or.inl ⟨by rfl, ?_⟩) (by assumption) ?_
                    rotate_left
                    · (intro w hSw; (try dsimp only at hSw); go_simp; try with_reducible rfl)
                    simp only [Act.put, List.getElem_toArray, List.getElem_cons_zero, List.getElem_cons_succ, List.setIfInBounds_toArray, List.set_cons_zero, List.set_cons_succ]
                    refine wpAnyH_take (i := 7) (v := ?_) rfl (by kernel_rfl) (by kernel_rfl) (by kernel_rfl) (fun _ _ _ h => h) (Or.inl ⟨by rfl, ?_⟩) (by assumption) ?_
                    rotate_left
                    · (intro w hSw; (try dsimp only at hSw); go_simp; try with_reducible rfl)
                    simp only [Act.put, List.getElem_toArray, List.getElem_cons_zero, List.getElem_cons_succ, List.setIfInBounds_toArray, List.set_cons_zero, List.set_cons_succ]
                    refine wpAnyH_take (i := 8) (v := ?_) rfl (by kernel_rfl) (by kernel_rfl) (by kernel_rfl) (fun _ _ _ h => h) (Or.inl ⟨by rfl, ?_⟩) (by assumption) ?_
                    rotate_left
                    · (intro w hSw; (try dsimp only at hSw); go_simp; try with_reducible rfl)
                    simp only [Act.put, List.getElem_toArray, List.getElem_cons_zero, List.getElem_cons_succ, List.setIfInBounds_toArray, List.set_cons_zero, List.set_cons_succ]
                    refine wpAnyH_ready (rs := [9]) (by kernel_rfl) (by simp) ?_
                    refine AllReadyH.cons rfl (fun K hK => ?_) AllReadyH.nil
                    simp only [List.getElem_toArray, List.getElem_cons_zero, List.getElem_cons_succ]
                    go_simp
                    refine H2.out.mono ?_; rintro e w5 ⟨rfl, rfl⟩
                    go_wp2_with fail
                    refine hK.out _ _ ?_ (fun hHeld => ?_)
                    · exact hHeld
                    clear hK K
                    try simp only [Act.put, List.getElem_toArray, List.getElem_cons_zero, List.getElem_cons_succ, List.setIfInBounds_toArray, List.set_cons_zero, List.set_cons_succ]
                    refine wpAnyH_take (i := 10) (v := ?_) rfl (by kernel_rfl) (by kernel_rfl) (by kernel_rfl) (fun _ _ _ h => h) (Or.inl ⟨by rfl, ?_⟩) (by assumption) ?_
                    rotate_left
                    · (intro w hSw; (try dsimp only at hSw); go_simp; try with_reducible rfl)
                    simp only [Act.put, List.getElem_toArray, List.getElem_cons_zero, List.getElem_cons_succ, List.setIfInBounds_toArray, List.set_cons_zero, List.set_cons_succ]
                    refine wpAnyH_take (i := 11) (v := ?_) rfl (by kernel_rfl) (by kernel_rfl) (by kernel_rfl) (fun _ _ _ h => h) (Or.inl ⟨by rfl, ?_⟩) (by assumption) ?_
                    rotate_left
                    · (intro w hSw; (try dsimp only at hSw); go_simp; try with_reducible rfl)
                    simp only [Act.put, List.getElem_toArray, List.getElem_cons_zero, List.getElem_cons_succ, List.setIfInBounds_toArray, List.set_cons_zero, List.set_cons_succ]
                    refine wpAnyH_take (i := 12) (v := ?_) rfl (by kernel_rfl) (by kernel_rfl) (by kernel_rfl) (fun _ _ _ h => h) (Or.inl ⟨by rfl, ?_⟩) (by assumption) ?_
                    rotate_left
                    · (intro w hSw; (try dsimp only at hSw); go_simp; try with_reducible rfl)
                    simp only [Act.put, List.getElem_toArray, List.getElem_cons_zero, List.getElem_cons_succ, List.setIfInBounds_toArray, List.set_cons_zero, List.set_cons_succ]
                    refine wpAnyH_take (i := 13) (v := ?_) rfl (by kernel_rfl) (by kernel_rfl) (by kernel_rfl) (fun _ _ _ h => h) (Or.inl ⟨by rfl, ?_⟩) (by assumption) ?_
                    rotate_left
                    · (intro w hSw; (try dsimp only at hSw); go_simp; try with_reducible rfl)
                    simp only [Act.put, List.getElem_toArray, List.getElem_cons_zero, List.getElem_cons_succ, List.setIfInBounds_toArray, List.set_cons_zero, List.set_cons_succ]
                    refine wpAnyH_take (i := 14) (v := ?_) rfl (by kernel_rfl) (by kernel_rfl) (by kernel_rfl) (fun _ _ _ h => h) (Or.inl ⟨by rfl, ?_⟩) (by assumption) ?_
                    rotate_left
                    · (intro w hSw; (try dsimp only at hSw); go_simp; try with_reducible rfl)
                    simp only [Act.put, List.getElem_toArray, List.getElem_cons_zero, List.getElem_cons_succ, List.setIfInBounds_toArray, List.set_cons_zero, List.set_cons_succ]
                    refine wpAnyH_take (i := 15) (v := ?_) rfl (by kernel_rfl) (by kernel_rfl) (by kernel_rfl) (fun _ _ _ h => h) (Or.inl ⟨by rfl, ?_⟩) (by assumption) ?_
                    rotate_left
                    · (intro w hSw; (try dsimp only at hSw); go_simp; try with_reducible rfl)
                    simp only [Act.put, List.getElem_toArray, List.getElem_cons_zero, List.getElem_cons_succ, List.setIfInBounds_toArray, List.set_cons_zero, List.set_cons_succ]
                    refine wpAnyH_take (i := 16) (v := ?_) rfl (by kernel_rfl) (by kernel_rfl) (by kernel_rfl) (fun _ _ _ h => h) (Or.inl ⟨by rfl, ?_⟩) (by assumption) ?_
                    rotate_left
                    · (intro w hSw; (try dsimp only at hSw); go_simp; try with_reducible rfl)
                    simp only [Act.put, List.getElem_toArray, List.getElem_cons_zero, List.getElem_cons_succ, List.setIfInBounds_toArray, List.set_cons_zero, List.set_cons_succ]
                    refine wpAnyH_take (i := 17) (v := ?_) rfl (by kernel_rfl) (by kernel_rfl) (by kernel_rfl) (fun _ _ _ h => h) (Or.inl ⟨by rfl, ?_⟩) (by assumption) ?_
                    rotate_left
                    · (intro w hSw; (try dsimp only at hSw); go_simp; try with_reducible rfl)
                    simp only [Act.put, List.getElem_toArray, List.getElem_cons_zero, List.getElem_cons_succ, List.setIfInBounds_toArray, List.set_cons_zero, List.set_cons_succ]
                    refine wpAnyH_take (i := 18) (v := ?_) rfl (by kernel_rfl) (by kernel_rfl) (by kernel_rfl) (fun _ _ _ h => h) (Or.inl ⟨by rfl, ?_⟩) (by assumption) ?_
                    rotate_left
                    · (intro w hSw; (try dsimp only at hSw); go_simp; try with_reducible rfl)
                    simp only [Act.put, List.getElem_toArray, List.getElem_cons_zero, List.getElem_cons_succ, List.setIfInBounds_toArray, List.set_cons_zero, List.set_cons_succ]
                    refine wpAnyH_take (i := 19) (v := ?_) rfl (by kernel_rfl) (by kernel_rfl) (by kernel_rfl) (fun _ _ _ h => h) (Or.inl ⟨by rfl, ?_⟩) (by assumption) ?_
                    rotate_left
                    · (intro w hSw; (try dsimp only at hSw); go_simp; try with_reducible rfl)
                    simp only [Act.put, List.getElem_toArray, List.getElem_cons_zero, List.getElem_cons_succ, List.setIfInBounds_toArray, List.set_cons_zero, List.set_cons_succ]
                    refine wpAnyH_take (i := 20) (v := ?_) rfl (by kernel_rfl) (by kernel_rfl) (by kernel_rfl) (fun _ _ _ h => h) (Or.inl ⟨by rfl, ?_⟩) (by assumption) ?_
                    rotate_left
                    · (intro w hSw; (try dsimp only at hSw); go_simp; try with_reducible rfl)
                    simp only [Act.put, List.getElem_toArray, List.getElem_cons_zero, List.getElem_cons_succ, List.setIfInBounds_toArray, List.set_cons_zero, List.set_cons_succ]
                    refine wpAnyH_take (i := 21) (v := ?_) rfl (by kernel_rfl) (by kernel_rfl) (by kernel_rfl) (fun _ _ _ h => h) (Or.inl ⟨by rfl, ?_⟩) (by assumption) ?_
                    rotate_left
                    · (intro w hSw; (try dsimp only at hSw); go_simp; try with_reducible rfl)
                    simp only [Act.put, List.getElem_toArray, List.getElem_cons_zero, List.getElem_cons_succ, List.setIfInBounds_toArray, List.set_cons_zero, List.set_cons_succ]
                    refine wpAnyH_take (i := 22) (v := ?_) rfl (by kernel_rfl) (by kernel_rfl) (by kernel_rfl) (fun _ _ _ h => h) (Or.inl ⟨by rfl, ?_⟩) (by assumption) ?_
                    rotate_left
                    · (intro w hSw; (try dsimp only at hSw); go_simp; try with_reducible rfl)
                    simp only [Act.put, List.getElem_toArray, List.getElem_cons_zero, List.getElem_cons_succ, List.setIfInBounds_toArray, List.set_cons_zero, List.set_cons_succ]
                    refine wpAnyH_take (i := 23) (v := ?_) rfl (by kernel_rfl) (by kernel_rfl) (by kernel_rfl) (fun _ _ _ h => h) (Or.inl ⟨by rfl, ?_⟩) (by assumption) ?_
                    rotate_left
                    · (intro w hSw; (try dsimp only at hSw); go_simp; try with_reducible rfl)
                    simp only [Act.put, List.getElem_toArray, List.getElem_cons_zero, List.getElem_cons_succ, List.setIfInBounds_toArray, List.set_cons_zero, List.set_cons_succ]
                    refine wpAnyH_take (i := 24) (v := ?_) rfl (by kernel_rfl) (by kernel_rfl) (by kernel_rfl) (fun _ _ _ h => h) (Or.inl ⟨by rfl, ?_⟩) (by assumption) ?_
                    rotate_left
                    · (intro w hSw; (try dsimp only at hSw); go_simp; try with_reducible rfl)
                    simp only [Act.put, List.getElem_toArray, List.getElem_cons_zero, List.getElem_cons_succ, List.setIfInBounds_toArray, List.set_cons_zero, List.set_cons_succ]
                    refine wpAnyH_done (by kernel_rfl) ?_ _
                    go_wp2
                    go_roundw
                    case rel => exact ⟨i' + 1, by omega, by go_num, HT9.out.drew⟩
                    case measure => simp [intOf]; omega
                · have hTT := HPP.out.1.touch.trans HJ.out (by simp)
                  have HTT := toHid hTT
                  clear hTT
                  go_wp2
                  go_ret
                  exact ⟨rfl, HTT.out⟩
end Go.Proofs.Ytbidppeelophhaa
