/-
  The document's own Put, of prefixes.
-/
import Derived.Test.YtlkbaconlngmjaaRFind3
namespace Go.Proofs.Ytlkbaconlngmjaa
open Go.RowKit
attribute [local go_sem ↓] Go.wp_at_zero Go.wp_at_succ

/-- Put, of prefixes. -/
def PX.put3 (x : PX) (bs : List Int) (fl : Int) : (Int × Bool × Int) × PX :=
  if x.fits3 bs = true then
    if 2 < fl then ((0, false, 72), x)
    else match sameP x.slots (cutP bs) with
      | some i => if fl = 1 then ((0, false, 70), x) else (((i : Int), false, 0), x.touch (some i))
      | none => if fl = 2 then ((0, false, 14), x) else match freeP x.slots with
        | some f => (((f : Int), true, 0), x.laid f (cutP bs))
        | none => ((0, false, 71), x)
  else ((0, false, 2), x)

set_option maxHeartbeats 8000000 in
set_option maxRecDepth 100000 in
theorem rput3_any {w : World} {x : RX} (h : RAt w x) (u : RUp x) (hk3 : x.kind = 3) (hs1 : 5 ≤ x.size) (hs2 : x.size ≤ 16) (hmin : 1 ≤ x.slots.length) {sa : Option Addr} {sl : Nat} {bs : List Int} (hk : KeyAt w sa sl bs) (hout : ∀ b, b < w.heap.size → b ∈ x.blocks → ∀ off, sa ≠ some ⟨b, off, none⟩) (kc : Nat) (hsc : sl ≤ kc) (fl : Int) (f0 : 0 ≤ fl) :
    Calls Try.prog 22 #[.pointer (some ⟨x.r, 0, none⟩), .slice sa sl kc, .int .u64 fl] w (PutPost w x (x.p.put3 bs fl)) := by
  have H1 := toHid (fits3_any h hk3 hs1 hs2 hk kc hsc)
  have hfe : x.p.fits3 bs = fits3 x bs := rfl
  by_cases hf : fits3 x bs = true
  · rw [hf] at H1
    have HV : Hid (x.p.put3 bs fl = (if 2 < fl then ((0, false, 72), x.p)
        else match sameP x.p.slots (cutP bs) with
          | some i => if fl = 1 then ((0, false, 70), x.p) else (((i : Int), false, 0), x.p.touch (some i))
          | none => if fl = 2 then ((0, false, 14), x.p) else match freeP x.p.slots with
            | some f => (((f : Int), true, 0), x.p.laid f (cutP bs))
            | none => ((0, false, 71), x.p) : (Int × Bool × Int) × PX)) := if_pos hf
    have hsz : (bs.length : Int) = x.size := by
      unfold fits3 at hf
      simp at hf
      exact hf.1
    have HH := toHid (And.intro h (And.intro u (And.intro hk (show ∀ b, b < w.heap.size → b ∈ x.blocks → ∀ off, sa ≠ some ⟨b, off, none⟩ from hout))))
    have HSZ := toHid (And.intro (show 4 ≤ bs.length by omega) (show bs.length ≤ 16 by omega))
    have HK3 := toHid hk3
    have h1b : 1 ≤ bs.length := by omega
    have hnm := u.many
    clear h u hk hf hfe hs1 hs2 hsz hout
    generalize hpr : x.p.put3 bs fl = pr at *
    clear hpr
    by_cases hf2 : 2 < fl
    · obtain rfl : pr = ((0, false, 72), x.p) := by rw [HV.out, if_pos hf2]
      go_enter Try.func22, Try.ntmps22
      go_wp2_with fail
      refine Calls.mono H1.out ?_
      rintro e w2 ⟨rfl, ht2⟩
      have HF : Hid (∃ x', Step w w2 x x' x.p) := ⟨x, Step.refl HH.out.1 ht2⟩
      clear ht2 H1
      go_wp2
      go_ret3
      exact ⟨rfl, HF.out⟩
    · have HV2 := toHid (HV.out.trans (if_neg hf2))
      clear HV
      go_enter Try.func22, Try.ntmps22
      go_wp2_with fail
      refine Calls.mono H1.out ?_
      rintro e w2 ⟨rfl, ht2⟩
      have h2 := HH.out.1.touch ht2 (by simp)
      have H2 := toHid (same3_any h2 HK3.out (by omega) (HH.out.2.2.1.touch ht2) HSZ.out.1 HSZ.out.2 kc hsc)
      rw [sameI_eq] at H2
      have HT2 := toHid ht2
      clear ht2 h2 H1
      cases hsm : sameP x.p.slots (cutP bs) with
      | some i =>
        have hsm' : sameP (x.slots.map (Option.map KS.bs)) (cutP bs) = some i := hsm
        rw [hsm'] at H2
        have HV := HV2.out
        rw [hsm] at HV
        simp only at HV
        have hil : i < x.slots.length := by have := sameP_lt hsm'; simpa using this
        have HV3 := toHid HV
        unfold idxI at H2
        simp only at H2
        clear hsm hsm' HV HV2
        go_wp2_with fail
        refine Calls.mono H2.out ?_
        rintro e w3 ⟨rfl, ht3⟩
        have HT := toHid (HT2.out.trans ht3 (by simp))
        have hR3 := HH.out.1.touch HT.out (by simp)
        have c0 := hR3.c0
        rw [HK3.out] at c0
        have H3 := toHid (touch_any hR3 (idxI (some i)) (by show (i : Int) < _; rw [HH.out.2.1.lens]; omega) HH.out.2.1.clock0 (by have := HH.out.2.1.clock1; omega))
        have HN : Hid (∃ x', Step w w3 x x' x.p) := ⟨x, Step.refl HH.out.1 HT.out⟩
        clear H2 ht3 hR3
        by_cases h1 : fl = 1
        · subst h1
          obtain rfl : pr = ((0, false, 70), x.p) := by rw [HV3.out, if_pos rfl]
          go_wp2
          go_ret3
          exact ⟨rfl, HN.out⟩
        · obtain rfl : pr = (((i : Int), false, 0), x.p.touch (some i)) := by rw [HV3.out, if_neg h1]
          unfold idxI at H3
          simp only at H3
          go_wp2_with fail
          refine Calls.mono H3.out ?_
          rintro e w4 ⟨rfl, hr4, ht4⟩
          have HF : Hid (∃ x', Step w w4 x x' (x.p.touch (some i))) := ⟨_, Step.touched HT.out (some i) hr4 ht4⟩
          clear hr4 ht4 H3 HT HH HN
          go_wp2
          go_ret3
          exact ⟨rfl, HF.out⟩
      | none =>
        have hsm' : sameP (x.slots.map (Option.map KS.bs)) (cutP bs) = none := hsm
        rw [hsm'] at H2
        have HV := HV2.out
        rw [hsm] at HV
        simp only at HV
        have HV3 := toHid HV
        unfold idxI at H2
        simp only at H2
        clear hsm hsm' HV HV2
        go_wp2_with fail
        refine Calls.mono H2.out ?_
        rintro e w3 ⟨rfl, ht3⟩
        have HT := toHid (HT2.out.trans ht3 (by simp))
        have hR3 := HH.out.1.touch HT.out (by simp)
        have c0 := hR3.c0
        rw [HK3.out] at c0
        have c3 := hR3.c3
        have HR2 := toHid hR3
        have HN : Hid (∃ x', Step w w3 x x' x.p) := ⟨x, Step.refl HH.out.1 HT.out⟩
        clear H2 ht3 hR3
        by_cases hf2' : fl = 2
        · subst hf2'
          obtain rfl : pr = ((0, false, 14), x.p) := by rw [HV3.out, if_pos rfl]
          go_wp2
          go_ret3
          exact ⟨rfl, HN.out⟩
        · have HV4 := toHid (HV3.out.trans (if_neg hf2'))
          have hf3' : (fl == 2) = false := by simpa using hf2'
          clear HV3 hf2'
          obtain ⟨gb, hgb⟩ : ∃ gb, x.g = some gb := by
            have hq := HR2.out.row
            cases hg : x.g with
            | none =>
              rw [hg] at hq
              have q1 := hq.2.1
              have q2 : x.scap = 0 := hq.2.2.2
              omega
            | some b => exact ⟨b, rfl⟩
          have HGB := toHid hgb
          rw [hgb, slV_some] at c3
          generalize hnn : x.slots.length = n at *
          have HNN := toHid hnn
          clear hgb hnn
          have hnil : ∀ (w : World) (a : Option Addr) (n c : Nat), (binOp .eql 32 (.slice a n c) (.slice none 0 0)).run Try.prog w = .ok (.bool a.isNone) w := fun w a n c => Lib.run_eql_slice_nil w _ _ a n c 0 0 Try.underlying32
          go_wp2_with fail
          go_loop [9, 11] (fun a i => ∃ k : Nat, k ≤ n ∧ i = .int .i64 ((k : Int) - 1) ∧ ∃ z : Int, a = .int .i64 z ∧ Hid (z = idxI ((freeP (x.p.slots.drop k)).map (· + k)))) (fun _ i => (intOf i + 1).toNat)
          case atStart =>
            refine ⟨n, Nat.le_refl _, rfl, -1, rfl, ?_⟩
            show (-1 : Int) = _
            rw [List.drop_eq_nil_of_le (by show (x.slots.map (Option.map KS.bs)).length ≤ n; rw [List.length_map, HNN.out]; exact Nat.le_refl _)]
            rfl
          case round =>
            obtain ⟨k, hk, rfl, z, rfl, HZ⟩ := hrel
            by_cases hkp : 0 < k
            · obtain ⟨i, rfl⟩ : ∃ i, k = i + 1 := ⟨k - 1, by omega⟩
              have hil : i < x.slots.length := by rw [HNN.out]; omega
              have hget : x.slots[i]? = some (x.slots.getD i none) := by
                rw [List.getD_eq_getElem?_getD, List.getElem?_eq_getElem hil]
                rfl
              obtain ⟨gb', hgb', hc⟩ := HR2.out.slot hget
              rw [HGB.out] at hgb'
              injection hgb' with hgb'
              subst hgb'
              have hst := free_step (l := x.p.slots) (k := i) (by show i < (x.slots.map (Option.map KS.bs)).length; rw [List.length_map]; exact hil) HZ.out
              have hpg : x.p.slots.getD i none = (x.slots.getD i none).map KS.bs := by
                show (x.slots.map (Option.map KS.bs)).getD i none = _
                rw [List.getD_eq_getElem?_getD, List.getElem?_map, hget]
                rfl
              rw [hpg] at hst
              cases hs : x.slots.getD i none with
              | none =>
                rw [hs] at hst hc
                unfold slotV at hc
                have HST := toHid hst
                clear hst hpg hs hget hil
                go_wp2
                exact ⟨⟨i, by omega, by go_num, _, rfl, toHid (by rw [show (((i + 1 : Nat) : Int) - 1) = (i : Int) by omega]; simpa using HST.out)⟩, by simp [intOf] <;> omega⟩
              | some ks =>
                rw [hs] at hst hc
                unfold slotV KS.v at hc
                have HST := toHid hst
                clear hst hpg hs hget hil
                go_wp2
                exact ⟨⟨i, by omega, by go_num, z, rfl, toHid (by simpa using HST.out)⟩, by simp [intOf] <;> omega⟩
            · obtain rfl : k = 0 := by omega
              have hz : z = idxI (freeP x.p.slots) := by
                rw [HZ.out, List.drop_zero]
                cases freeP x.p.slots <;> rfl
              cases hfr : freeP x.p.slots with
              | some fr =>
                rw [hfr] at hz
                obtain rfl : z = (fr : Int) := hz
                have hfl : fr < x.slots.length := by
                  have := freeP_lt hfr
                  have h2 : x.p.slots.length = x.slots.length := by show (x.slots.map _).length = _; simp
                  omega
                obtain rfl : pr = (((fr : Int), true, 0), x.p.laid fr (cutP bs)) := by rw [HV4.out, hfr]
                have HFL := toHid hfl
                have hfn : fr < n := by rw [← HNN.out]; exact hfl
                clear hfr HZ HV4 hfl
                have hR0 := HR2.out.touch ((Touch.refl [] w3).drew) (by simp)
                obtain ⟨g1, cap1, w4, hr1, hA1, ht1, hg1⟩ := keyat_append (HH.out.2.2.1.touch (HT.out.drew)) (by omega) HSZ.out.2 kc
                have hlaid := hR0.laid HGB.out (j := fr) HFL.out hA1 ht1 hg1
                have HS0 := toHid (show w3.drew.cell? ⟨x.r, 3, none⟩ = some (.slice (some ⟨gb, 0, none⟩) n x.scap) from c3)
                have HS1 := toHid (((Touch.refl [] w3.drew).alloc (.cells #[] 5)).cell HS0.out (by simp))
                have HS2 := toHid (ht1.cell HS0.out (by simp))
                have hx2 := hlaid.1.c3
                have hx0 := hlaid.1.c0
                have HS3 : Hid ((w4.setCell ⟨gb, fr, none⟩ (.slice (some ⟨g1, 0, none⟩) sl cap1)).cell? ⟨x.r, 3, none⟩ = some (.slice (some ⟨gb, 0, none⟩) n x.scap)) := by
                  have e1 : slV x.g (x.slots.set fr (some ⟨g1, cap1, bs⟩)).length x.scap = .slice (some ⟨gb, 0, none⟩) n x.scap := by
                    rw [HGB.out, List.length_set, HNN.out]
                    rfl
                  have e2 : (⟨g1, cap1, bs⟩ : KS).v = .slice (some ⟨g1, 0, none⟩) sl cap1 := by
                    rw [HH.out.2.2.1.1]
                    rfl
                  rw [← e2, ← e1]
                  exact hx2
                have e2 : (⟨g1, cap1, bs⟩ : KS).v = .slice (some ⟨g1, 0, none⟩) sl cap1 := by
                  rw [HH.out.2.2.1.1]
                  rfl
                rw [e2] at hlaid hx0
                have hget : x.slots[fr]? = some (x.slots.getD fr none) := by
                  rw [List.getD_eq_getElem?_getD, List.getElem?_eq_getElem HFL.out]
                  rfl
                obtain ⟨gb', hgb', hc⟩ := (hR0.touch ht1 (by simp)).slot hget
                have hfz : w4.frozen? ⟨gb, fr, none⟩ = false := by
                  have hq := (hR0.touch ht1 (by simp)).row.2.2.2
                  rw [HGB.out] at hq
                  obtain ⟨_, hB, _⟩ := hq
                  exact hB.frozen _
                rw [HGB.out] at hgb'
                injection hgb' with hgb'
                subst hgb'
                generalize slotV (x.slots.getD fr none) = oldv at hc
                have hx0 : (w4.setCell ⟨gb, fr, none⟩ (.slice (some ⟨g1, 0, none⟩) sl cap1)).cell? ⟨x.r, 0, none⟩ = some (.int .i64 x.kind) := hx0
                rw [HK3.out] at hx0
                have hgl : gb < w3.drew.heap.size := hR0.lt gb (RX.mem_top (RX.mem_g HGB.out))
                have hkb : ∀ b off, sa = some ⟨b, off, none⟩ → b ∉ x.top := fun b off hb hx => by
                  obtain ⟨b2, off2, h2, hcell⟩ := HH.out.2.2.1.2.2.2 (by omega)
                  rw [hb] at h2
                  injection h2 with h2
                  injection h2 with h2 h3
                  subst h2
                  exact HH.out.2.2.2 b (World.block_lt_of_cell? w _ (hcell 0 (by omega))) (RX.mem_top hx) off hb
                have hkey4 : KeyAt (w4.setCell ⟨gb, fr, none⟩ (.slice (some ⟨g1, 0, none⟩) sl cap1)).drew sa sl bs := by
                  obtain ⟨q1, q2, q3, q4⟩ := HH.out.2.2.1
                  refine ⟨q1, q2, q3, fun hp => ?_⟩
                  obtain ⟨b, off, hb, hcell⟩ := q4 hp
                  exact ⟨b, off, hb, fun j hj => (Touch.trans (Touch.nil HT.out.drew) hlaid.2.1.drew (fun y hy => Or.inl hy)).cell (hcell j hj) (hkb b off hb)⟩
                have H4 := toHid (cut_any hkey4 HSZ.out.1 HSZ.out.2 kc hsc)
                have hcl6 := cutP_len HSZ.out.1
                have HC6 := toHid (And.intro (show 1 ≤ (cutP bs).length by omega) (And.intro (show (cutP bs).length ≤ 16 by have := HSZ.out.2; omega) (cutP_bd HH.out.2.2.1.2.1)))
                have HLL := toHid hlaid
                have HR1 := toHid hr1
                have hsz : w3.drew.heap.size = w3.heap.size := rfl
                rw [hsz] at HR1
                generalize hRR : x.r = R at *
                generalize hSC : x.scap = sc at *
                have HRC := toHid (And.intro hRR hSC)
                clear hR0 hr1 hA1 ht1 hg1 hlaid hget hx2 e2 hsz hRR hSC hgl hkb hkey4 hcl6
                go_upto_region 29 with fail
                refine wp_region_held_drew (S := (fun w' => w'.cell? ⟨R, 3, none⟩ = some (.slice (some ⟨gb, 0, none⟩) n sc))) (by kernel_rfl) ?_ (fun hHeld => ?_)
                · exact HS0.out
                refine wpAnyH_take (i := 0) (v := ?_) rfl (by kernel_rfl) (by kernel_rfl) (by kernel_rfl) (fun _ _ _ h => h) (Or.inl ⟨by rfl, ?_⟩) (by assumption) ?_
                rotate_left
                · (intro w hSw; (try dsimp only at hSw); go_simp; try with_reducible rfl)
                simp only [Act.put, List.getElem_toArray, List.getElem_cons_zero, List.setIfInBounds_toArray, List.set_cons_zero, List.set_cons_succ]
                refine wpAnyH_take (i := 1) (v := ?_) rfl (by kernel_rfl) (by kernel_rfl) (by kernel_rfl) (fun _ _ _ h => h) (Or.inl ⟨by rfl, ?_⟩) (by assumption) ?_
                rotate_left
                · (intro w hSw; (try dsimp only at hSw); go_simp; try with_reducible rfl)
                simp only [Act.put, List.getElem_toArray, List.getElem_cons_zero, List.getElem_cons_succ, List.setIfInBounds_toArray, List.set_cons_zero, List.set_cons_succ]
                refine wpAnyH_take (i := 2) (v := ?_) rfl (by kernel_rfl) (by kernel_rfl) (by kernel_rfl) (fun _ _ _ h => h) (Or.inl ⟨by rfl, ?_⟩) (by assumption) ?_
                rotate_left
                · (intro w hSw; (try dsimp only at hSw); go_simp; try with_reducible rfl)
                simp only [Act.put, List.getElem_toArray, List.getElem_cons_zero, List.getElem_cons_succ, List.setIfInBounds_toArray, List.set_cons_zero, List.set_cons_succ]
                refine wpAnyH_take (i := 3) (v := ?_) rfl (by kernel_rfl) (by kernel_rfl) (by kernel_rfl) (fun _ _ _ h => h) (Or.inl ⟨by rfl, ?_⟩) (by assumption) ?_
                rotate_left
                · (intro w hSw; (try dsimp only at hSw); go_simp; try with_reducible rfl)
                simp only [Act.put, List.getElem_toArray, List.getElem_cons_zero, List.getElem_cons_succ, List.setIfInBounds_toArray, List.set_cons_zero, List.set_cons_succ]
                refine wpAnyH_take (i := 4) (v := ?_) rfl (by kernel_rfl) (by kernel_rfl) (by kernel_rfl) (fun _ _ _ h => h) (Or.inl ⟨by rfl, ?_⟩) (by assumption) ?_
                rotate_left
                · (intro w hSw; (try dsimp only at hSw); go_simp; try with_reducible rfl)
                simp only [Act.put, List.getElem_toArray, List.getElem_cons_zero, List.getElem_cons_succ, List.setIfInBounds_toArray, List.set_cons_zero, List.set_cons_succ]
                refine wpAnyH_take (i := 6) (v := ?_) rfl (by kernel_rfl) (by kernel_rfl) (by kernel_rfl) (fun _ _ _ h => h) (Or.inl ⟨by rfl, ?_⟩) (by assumption) ?_
                rotate_left
                · (intro w hSw; (try dsimp only at hSw); go_simp; try with_reducible rfl)
                simp only [Act.put, List.getElem_toArray, List.getElem_cons_zero, List.getElem_cons_succ, List.setIfInBounds_toArray, List.set_cons_zero, List.set_cons_succ]
                refine wpAnyH_ready (rs := [5]) (by kernel_rfl) (by simp) ?_
                refine AllReadyH.cons rfl (fun K hK => ?_) AllReadyH.nil
                simp only [List.getElem_toArray, List.getElem_cons_zero, List.getElem_cons_succ]
                go_simp
                refine hK.out _ _ ?_ (fun hHeld => ?_)
                · exact HS1.out
                clear hK K
                try simp only [Act.put, List.getElem_toArray, List.getElem_cons_zero, List.getElem_cons_succ, List.setIfInBounds_toArray, List.set_cons_zero, List.set_cons_succ]
                refine wpAnyH_ready (rs := [7]) (by kernel_rfl) (by simp) ?_
                refine AllReadyH.cons rfl (fun K hK => ?_) AllReadyH.nil
                refine step_append_known rfl (.tmp 106) (.tmp 107) 32 32 rfl (.slice (some ⟨w3.heap.size, 0, none⟩) 0 0) (.slice sa sl kc) (by simp [Act.eval]) (by simp [Act.eval]) HR1.out ?_
                refine hK.out _ _ ?_ (fun hHeld => ?_)
                · exact HS2.out
                clear hK K
                try simp only [Act.put, List.getElem_toArray, List.getElem_cons_zero, List.getElem_cons_succ, List.setIfInBounds_toArray, List.set_cons_zero, List.set_cons_succ]
                refine wpAnyH_take (i := 8) (v := ?_) rfl (by kernel_rfl) (by kernel_rfl) (by kernel_rfl) (fun _ _ _ h => h) (Or.inl ⟨by rfl, ?_⟩) (by assumption) ?_
                rotate_left
                · (intro w hSw; (try dsimp only at hSw); go_simp; try with_reducible rfl)
                simp only [Act.put, List.getElem_toArray, List.getElem_cons_zero, List.getElem_cons_succ, List.setIfInBounds_toArray, List.set_cons_zero, List.set_cons_succ]
                refine wpAnyH_ready (rs := [9]) (by kernel_rfl) (by simp) ?_
                refine AllReadyH.cons rfl (fun K hK => ?_) AllReadyH.nil
                simp only [List.getElem_toArray, List.getElem_cons_zero, List.getElem_cons_succ]
                go_simp
                refine hK.out _ _ ?_ (fun hHeld => ?_)
                · exact HS3.out
                clear hK K
                try simp only [Act.put, List.getElem_toArray, List.getElem_cons_zero, List.getElem_cons_succ, List.setIfInBounds_toArray, List.set_cons_zero, List.set_cons_succ]
                refine wpAnyH_done (by kernel_rfl) ?_ _
                clear c0 c3
                go_upto_region 31 with fail
                refine wp_region_held_drew (S := (fun w' => w'.cell? ⟨R, 3, none⟩ = some (.slice (some ⟨gb, 0, none⟩) n sc))) (by kernel_rfl) ?_ (fun hHeld => ?_)
                · exact HS3.out
                refine wpAnyH_take (i := 0) (v := ?_) rfl (by kernel_rfl) (by kernel_rfl) (by kernel_rfl) (fun _ _ _ h => h) (Or.inl ⟨by rfl, ?_⟩) (by assumption) ?_
                rotate_left
                · (intro w hSw; (try dsimp only at hSw); go_simp; try with_reducible rfl)
                simp only [Act.put, List.getElem_toArray, List.getElem_cons_zero, List.setIfInBounds_toArray, List.set_cons_zero, List.set_cons_succ]
                refine wpAnyH_take (i := 1) (v := ?_) rfl (by kernel_rfl) (by kernel_rfl) (by kernel_rfl) (fun _ _ _ h => h) (Or.inl ⟨by rfl, ?_⟩) (by assumption) ?_
                rotate_left
                · (intro w hSw; (try dsimp only at hSw); go_simp; try with_reducible rfl)
                simp only [Act.put, List.getElem_toArray, List.getElem_cons_zero, List.getElem_cons_succ, List.setIfInBounds_toArray, List.set_cons_zero, List.set_cons_succ]
                refine wpAnyH_take (i := 2) (v := ?_) rfl (by kernel_rfl) (by kernel_rfl) (by kernel_rfl) (fun _ _ _ h => h) (Or.inl ⟨by rfl, ?_⟩) (by assumption) ?_
                rotate_left
                · (intro w hSw; (try dsimp only at hSw); go_simp; try with_reducible rfl)
                simp only [Act.put, List.getElem_toArray, List.getElem_cons_zero, List.getElem_cons_succ, List.setIfInBounds_toArray, List.set_cons_zero, List.set_cons_succ]
                refine wpAnyH_take (i := 3) (v := ?_) rfl (by kernel_rfl) (by kernel_rfl) (by kernel_rfl) (fun _ _ _ h => h) (Or.inl ⟨by rfl, ?_⟩) (by assumption) ?_
                rotate_left
                · (intro w hSw; (try dsimp only at hSw); go_simp; try with_reducible rfl)
                simp only [Act.put, List.getElem_toArray, List.getElem_cons_zero, List.getElem_cons_succ, List.setIfInBounds_toArray, List.set_cons_zero, List.set_cons_succ]
                refine wpAnyH_take (i := 4) (v := ?_) rfl (by kernel_rfl) (by kernel_rfl) (by kernel_rfl) (fun _ _ _ h => h) (Or.inl ⟨by rfl, ?_⟩) (by assumption) ?_
                rotate_left
                · (intro w hSw; (try dsimp only at hSw); go_simp; try with_reducible rfl)
                simp only [Act.put, List.getElem_toArray, List.getElem_cons_zero, List.getElem_cons_succ, List.setIfInBounds_toArray, List.set_cons_zero, List.set_cons_succ]
                refine wpAnyH_take (i := 5) (v := ?_) rfl (by kernel_rfl) (by kernel_rfl) (by kernel_rfl) (fun _ _ _ h => h) (Or.inl ⟨by rfl, ?_⟩) (by assumption) ?_
                rotate_left
                · (intro w hSw; (try dsimp only at hSw); go_simp; try with_reducible rfl)
                simp only [Act.put, List.getElem_toArray, List.getElem_cons_zero, List.getElem_cons_succ, List.setIfInBounds_toArray, List.set_cons_zero, List.set_cons_succ]
                refine wpAnyH_ready (rs := [6]) (by kernel_rfl) (by simp) ?_
                refine AllReadyH.cons rfl (fun K hK => ?_) AllReadyH.nil
                simp only [List.getElem_toArray, List.getElem_cons_zero, List.getElem_cons_succ]
                go_simp
                refine Calls.mono H4.out ?_; rintro e w6 ⟨⟨v6, rfl, hO6⟩, ht6⟩
                go_wp2_with fail
                refine hK.out _ _ ?_ (fun hHeld => ?_)
                · exact ht6.cell HS3.out (by simp)
                clear hK K
                try simp only [Act.put, List.getElem_toArray, List.getElem_cons_zero, List.getElem_cons_succ, List.setIfInBounds_toArray, List.set_cons_zero, List.set_cons_succ]
                obtain ⟨k6, rfl, hk6b, hk6A, hk60⟩ := hO6.key HC6.out.1 HC6.out.2.1 HC6.out.2.2
                have hRR := HRC.out.1
                have hSC := HRC.out.2
                subst hRR
                subst hSC
                have hl6 := (HLL.out.1.touch ((Touch.refl [] _).drew) (by simp)).laid HGB.out (j := fr) (by show fr < (x.slots.set fr _).length; rw [List.length_set]; exact HFL.out) hk6A ht6 hk60
                have hss : (x.slots.set fr (some (⟨g1, cap1, bs⟩ : KS))).set fr (some k6) = x.slots.set fr (some k6) := List.set_set ..
                have hget6 : (x.slots.set fr (some (⟨g1, cap1, bs⟩ : KS)))[fr]? = some (some ⟨g1, cap1, bs⟩) := by
                  rw [List.getElem?_set_self HFL.out]
                have hR6 := (HLL.out.1.touch ((Touch.refl [] _).drew) (by simp)).touch ht6 (by simp)
                obtain ⟨gb6, hgb6, hc6⟩ := hR6.slot hget6
                have hgb6 : x.g = some gb6 := hgb6
                have hfz6 : w6.frozen? ⟨gb, fr, none⟩ = false := by
                  have hq := hR6.row.2.2.2
                  rw [show ({ x with slots := x.slots.set fr (some (⟨g1, cap1, bs⟩ : KS)) } : RX).g = some gb from HGB.out] at hq
                  obtain ⟨_, hB, _⟩ := hq
                  exact hB.frozen _
                rw [HGB.out] at hgb6
                injection hgb6 with hgb6
                subst hgb6
                generalize slotV (some (⟨g1, cap1, bs⟩ : KS)) = oldv6 at hc6
                simp only [hss] at hl6
                have H3 := toHid (touch_any hl6.1 (idxI (some fr)) (by show (fr : Int) < (x.whens.length : Int); rw [HH.out.2.1.lens]; have := HFL.out; omega) HH.out.2.1.clock0 (by have := HH.out.2.1.clock1; show x.clock ≤ _; omega))
                have HS6 : Hid ((w6.setCell ⟨gb, fr, none⟩ k6.v).cell? ⟨x.r, 3, none⟩ = some (.slice (some ⟨gb, 0, none⟩) n x.scap)) := by
                  have h1 := hl6.1.c3
                  have e1 : slV x.g (x.slots.set fr (some k6)).length x.scap = .slice (some ⟨gb, 0, none⟩) n x.scap := by
                    rw [HGB.out, List.length_set, HNN.out]
                    rfl
                  rw [← e1]
                  exact h1
                have HL6 := toHid (And.intro hl6 hk6b)
                unfold idxI at H3
                simp only at H3
                unfold KS.v at H3 HS6 HL6 ⊢
                clear hO6 ht6 hk6A hk60 hl6 hget6 hR6 hss hk6b
                refine wpAnyH_take (i := 7) (v := ?_) rfl (by kernel_rfl) (by kernel_rfl) (by kernel_rfl) (fun _ _ _ h => h) (Or.inl ⟨by rfl, ?_⟩) (by assumption) ?_
                rotate_left
                · (intro w hSw; (try dsimp only at hSw); go_simp; try with_reducible rfl)
                simp only [Act.put, List.getElem_toArray, List.getElem_cons_zero, List.getElem_cons_succ, List.setIfInBounds_toArray, List.set_cons_zero, List.set_cons_succ]
                refine wpAnyH_ready (rs := [8]) (by kernel_rfl) (by simp) ?_
                refine AllReadyH.cons rfl (fun K hK => ?_) AllReadyH.nil
                simp only [List.getElem_toArray, List.getElem_cons_zero, List.getElem_cons_succ]
                go_simp
                refine hK.out _ _ ?_ (fun hHeld => ?_)
                · exact HS6.out
                clear hK K
                try simp only [Act.put, List.getElem_toArray, List.getElem_cons_zero, List.getElem_cons_succ, List.setIfInBounds_toArray, List.set_cons_zero, List.set_cons_succ]
                refine wpAnyH_done (by kernel_rfl) ?_ _
                go_wp2_with fail
                refine Calls.mono H3.out ?_
                rintro e w7 ⟨rfl, hr7, ht7⟩
                have HF : Hid (∃ x', Step w w7 x x' (x.p.laid fr (cutP bs))) := by
                  refine ⟨(({ x with slots := x.slots.set fr (some k6) } : RX).touched (idxI (some fr))), ⟨hr7, ?_, rfl, ?_, fun b hb => ?_, touched_len _ _, by show (x.slots.set fr (some k6)).length = x.slots.length; simp⟩⟩
                  · rw [p_touched]
                    unfold PX.laid RX.p
                    rw [List.map_set, Option.map_some, HL6.out.2]
                  · exact Touch.trans (Touch.trans (Touch.trans (Touch.nil HT.out.drew) HLL.out.2.1.drew (fun y hy => Or.inl hy)) HL6.out.1.2.1 (fun y hy => Or.inl hy)) ht7 (fun y hy => Or.inl hy)
                  · have hz1 := HT.out.size
                    have hz2 := HLL.out.2.1.size
                    rcases HL6.out.1.2.2 b hb with hb | hb
                    · rcases HLL.out.2.2 b hb with hb | hb
                      · exact Or.inl hb
                      · exact Or.inr (Nat.le_trans hz1 hb)
                    · exact Or.inr (Nat.le_trans hz1 (Nat.le_trans hz2 hb))
                clear hr7 ht7 H3 HLL HL6
                go_wp2
                go_ret3
                exact ⟨rfl, HF.out⟩
              | none =>
                rw [hfr] at hz
                obtain rfl : z = -1 := hz
                obtain rfl : pr = ((0, false, 71), x.p) := by rw [HV4.out, hfr]
                clear hfr HZ HV4
                go_wp2
                go_ret3
                exact ⟨rfl, HN.out⟩
  · have hf2 : fits3 x bs = false := by simpa using hf
    rw [hf2] at H1
    rw [show x.p.put3 bs fl = ((0, false, 2), x.p) from if_neg (by rw [hfe]; exact hf)]
    have HH := toHid h
    clear h u hk hk3 hf hf2 hfe hs1 hs2 hout
    go_enter Try.func22, Try.ntmps22
    go_wp2_with fail
    refine Calls.mono H1.out ?_
    rintro e w2 ⟨rfl, ht2⟩
    have HF : Hid (∃ x', Step w w2 x x' x.p) := ⟨x, Step.refl HH.out ht2⟩
    clear ht2 H1
    go_wp2
    go_ret3
    exact ⟨rfl, HF.out⟩
end Go.Proofs.Ytlkbaconlngmjaa
