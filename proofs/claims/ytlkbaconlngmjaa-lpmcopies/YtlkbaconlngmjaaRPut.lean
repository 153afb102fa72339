/-
  The document's own Put and Del, of all kinds but prefixes.
-/
import Derived.Test.YtlkbaconlngmjaaPure
import Derived.Test.YtlkbaconlngmjaaRCopy
namespace Go.Proofs.Ytlkbaconlngmjaa
open Go.RowKit
attribute [local go_sem ↓] Go.wp_at_zero Go.wp_at_succ

def PutPost (w : World) (x : RX) (a : (Int × Bool × Int) × PX) (e : Ending) (w' : World) : Prop := e = .returned (.tuple #[.int .i64 a.1.1, .bool a.1.2.1, .int .i64 a.1.2.2]) ∧ ∃ x', Step w w' x x' a.2
theorem Step.refl {w w' : World} {x : RX} (h : RAt w x) (ht : Touch [] w w') : Step w w' x x x.p :=
  ⟨h.touch ht (by simp), rfl, rfl, Touch.nil ht, fun _ hb => Or.inl hb, rfl, rfl⟩
theorem Step.touched {w w1 w' : World} {x : RX} (ht : Touch [] w w1) (a : Option Nat) (hr : RAt w' (x.touched (idxI a))) (hw : Touch x.top w1 w') : Step w w' x (x.touched (idxI a)) (x.p.touch a) :=
  ⟨hr, p_touched x a, rfl, Touch.trans (Touch.nil ht) hw (fun _ hy => Or.inl hy), fun _ hb => Or.inl hb, touched_len x _, rfl⟩
/-- Laid and touched. -/
theorem Step.laid {w w1 w2 w' : World} {x : RX} {j : Nat} {k : KS} (ht : Touch [] w w1) (_hj : j < x.slots.length) (h2 : Touch x.top w1 w2) (hb : ∀ b ∈ ({ x with slots := x.slots.set j (some k) } : RX).blocks, b ∈ x.blocks ∨ w1.heap.size ≤ b)
    (hr : RAt w' (({ x with slots := x.slots.set j (some k) } : RX).touched (idxI (some j)))) (hw : Touch x.top w2 w') : Step w w' x (({ x with slots := x.slots.set j (some k) } : RX).touched (idxI (some j))) (x.p.laid j k.bs) where
  at_ := hr
  p := by
    rw [p_touched]
    unfold PX.laid RX.p
    rw [List.map_set]
    rfl
  r := rfl
  touch := Touch.trans (Touch.trans (Touch.nil ht) h2 (fun _ hy => Or.inl hy)) hw (fun _ hy => Or.inl hy)
  blocks := fun b hx => by
    rcases hb b hx with hb | hb
    · exact Or.inl hb
    · have := ht.size
      exact Or.inr (by omega)
  lens := touched_len _ _
  slots := by show (x.slots.set j (some k)).length = x.slots.length; simp

set_option maxHeartbeats 8000000 in
set_option maxRecDepth 100000 in
theorem rput_any {w : World} {x : RX} (h : RAt w x) (u : RUp x) (hk3 : x.kind ≠ 3) (hs1 : 1 ≤ x.size) (hs2 : x.size ≤ 16) (hmin : 1 ≤ x.slots.length) {sa : Option Addr} {sl : Nat} {bs : List Int} (hk : KeyAt w sa sl bs) (kc : Nat) (fl : Int) (f0 : 0 ≤ fl) :
    Calls Try.prog 22 #[.pointer (some ⟨x.r, 0, none⟩), .slice sa sl kc, .int .u64 fl] w (PutPost w x (x.p.put bs fl)) := by
  have H1 := toHid (fits_any h hk3 sa sl kc (by rw [hk.1]; exact hk.2.2.1))
  have hl := hk.1
  by_cases he : (sl : Int) = x.size
  · rw [decide_eq_true he] at H1
    have HV : Hid (x.p.put bs fl = (if 2 < fl then ((0, false, 72), x.p)
        else match sameP x.p.slots bs with
          | some i => if fl = 1 then ((0, false, 70), x.p) else (((i : Int), false, 0), x.p.touch (some i))
          | none => if x.kind = 0 then ((0, false, 71), x.p) else if fl = 2 then ((0, false, 14), x.p) else match x.p.room with
            | some f => (((f : Int), true, 0), x.p.laid f bs)
            | none => ((0, false, 71), x.p) : (Int × Bool × Int) × PX)) := if_pos (by show (bs.length : Int) = x.size; omega)
    have HH := toHid (And.intro h (And.intro u (And.intro hk3 hk)))
    have HSZ := toHid (And.intro (show 1 ≤ bs.length by omega) (show bs.length ≤ 16 by omega))
    clear h u hk he hl hk3 hs1 hs2
    generalize hpr : x.p.put bs fl = pr at *
    clear hpr
    by_cases hf : 2 < fl
    · obtain rfl : pr = ((0, false, 72), x.p) := by rw [HV.out, if_pos hf]
      go_enter Try.func22, Try.ntmps22
      go_wp2_with fail
      refine Calls.mono H1.out ?_
      rintro e w2 ⟨rfl, ht2⟩
      have HF : Hid (∃ x', Step w w2 x x' x.p) := ⟨x, Step.refl HH.out.1 ht2⟩
      clear ht2 H1
      go_wp2
      go_ret3
      exact ⟨rfl, HF.out⟩
    · have HV := toHid (HV.out.trans (if_neg hf))
      go_enter Try.func22, Try.ntmps22
      go_wp2_with fail
      refine Calls.mono H1.out ?_
      rintro e w2 ⟨rfl, ht2⟩
      have h2 := HH.out.1.touch ht2 (by simp)
      have c0 := h2.c0
      have H2 := toHid (same_any h2 HH.out.2.2.1 (by have := HH.out.2.1.many; omega) (HH.out.2.2.2.touch ht2) kc)
      rw [sameI_eq] at H2
      have HT := toHid ht2
      have HR2 := toHid h2
      have HN : Hid (∃ x', Step w w2 x x' x.p) := ⟨x, Step.refl HH.out.1 ht2⟩
      clear ht2 h2 H1
      cases hsm : sameP x.p.slots bs with
      | some i =>
        have hsm' : sameP (x.slots.map (Option.map KS.bs)) bs = some i := hsm
        rw [hsm'] at H2
        have HV := HV.out
        rw [hsm] at HV
        simp only at HV
        have hil : i < x.slots.length := by have := sameP_lt hsm'; simpa using this
        have H3 := toHid (touch_any HR2.out (idxI (some i)) (by show (i : Int) < _; rw [HH.out.2.1.lens]; omega) HH.out.2.1.clock0 (by have := HH.out.2.1.clock1; omega))
        have HV2 := toHid HV
        unfold idxI at H2
        simp only at H2
        clear hsm hsm' HV
        go_wp2_with fail
        refine Calls.mono H2.out ?_
        rintro e w3 ⟨rfl, rfl⟩
        clear H2
        by_cases h1 : fl = 1
        · subst h1
          obtain rfl : pr = ((0, false, 70), x.p) := by rw [HV2.out, if_pos rfl]
          go_wp2
          all_goals
            go_ret3
            exact ⟨rfl, HN.out⟩
        · obtain rfl : pr = (((i : Int), false, 0), x.p.touch (some i)) := by rw [HV2.out, if_neg h1]
          unfold idxI at H3
          simp only at H3
          by_cases hk0 : x.kind = 0
          · have hk0' : (x.kind == 0) = true := by simpa using hk0
            clear hk0
            go_wp2_with fail
            refine Calls.mono H3.out ?_
            rintro e w4 ⟨rfl, hr4, ht4⟩
            have HF : Hid (∃ x', Step w w4 x x' (x.p.touch (some i))) := ⟨_, Step.touched HT.out (some i) hr4 ht4⟩
            clear hr4 ht4 H3 HT HH HN
            go_wp2
            go_ret3
            exact ⟨rfl, HF.out⟩
          · have hk0' : (x.kind == 0) = false := by simpa using hk0
            clear hk0
            go_wp2_with fail
            refine Calls.mono H3.out ?_
            rintro e w4 ⟨rfl, hr4, ht4⟩
            have HF : Hid (∃ x', Step w w4 x x' (x.p.touch (some i))) := ⟨_, Step.touched HT.out (some i) hr4 ht4⟩
            clear hr4 ht4 H3 HT HH HN
            go_wp2
            go_ret3
            exact ⟨rfl, HF.out⟩
      | none =>
        have hsm' : sameP (x.slots.map (Option.map KS.bs)) bs = none := hsm
        rw [hsm'] at H2
        have HV := HV.out
        rw [hsm] at HV
        simp only at HV
        have HV2 := toHid HV
        unfold idxI at H2
        simp only at H2
        clear hsm hsm' HV
        go_wp2_with fail
        refine Calls.mono H2.out ?_
        rintro e w3 ⟨rfl, rfl⟩
        clear H2
        by_cases hk0 : x.kind = 0
        · obtain rfl : pr = ((0, false, 71), x.p) := by rw [HV2.out, if_pos hk0]
          have hk0' : (x.kind == 0) = true := by simpa using hk0
          clear hk0
          go_wp2
          go_ret3
          exact ⟨rfl, HN.out⟩
        · have hk0' : (x.kind == 0) = false := by simpa using hk0
          have HV3 := toHid (HV2.out.trans (if_neg hk0))
          clear hk0
          by_cases hf2 : fl = 2
          · subst hf2
            obtain rfl : pr = ((0, false, 14), x.p) := by rw [HV3.out, if_pos rfl]
            go_wp2
            go_ret3
            exact ⟨rfl, HN.out⟩
          · have HV4 := toHid (HV3.out.trans (if_neg hf2))
            have hf2' : (fl == 2) = false := by simpa using hf2
            have c3 := HR2.out.c3
            clear HV3 HV2 hf2
            obtain ⟨gb, hgb⟩ : ∃ gb, x.g = some gb := by
              have hq := HR2.out.row
              cases hg : x.g with
              | none =>
                rw [hg] at hq
                have q1 := hq.2.1
                have q2 : x.scap = 0 := hq.2.2.2
                omega
              | some b => exact ⟨b, rfl⟩
            have HGB := toHid hgb
            rw [hgb, slV_some] at c3
            have hnm := HH.out.2.1.many
            generalize hnn : x.slots.length = n at *
            have HNN := toHid hnn
            clear hgb hnn
            have hnil : ∀ (w : World) (a : Option Addr) (n c : Nat), (binOp .eql 32 (.slice a n c) (.slice none 0 0)).run Try.prog w = .ok (.bool a.isNone) w := fun w a n c => Lib.run_eql_slice_nil w _ _ a n c 0 0 Try.underlying32
            go_wp2_with fail
            go_loop [9, 11] (fun a i => ∃ k : Nat, k ≤ n ∧ i = .int .i64 ((k : Int) - 1) ∧ ∃ z : Int, a = .int .i64 z ∧ Hid (z = idxI ((freeP (x.p.slots.drop k)).map (· + k)))) (fun _ i => (intOf i + 1).toNat)
            case atStart =>
              refine ⟨n, Nat.le_refl _, rfl, -1, rfl, ?_⟩
              show (-1 : Int) = _
              rw [List.drop_eq_nil_of_le (by show (x.slots.map (Option.map KS.bs)).length ≤ n; rw [List.length_map, HNN.out]; exact Nat.le_refl _)]
              rfl
            case round =>
              obtain ⟨k, hk, rfl, z, rfl, HZ⟩ := hrel
              by_cases hkp : 0 < k
              · obtain ⟨i, rfl⟩ : ∃ i, k = i + 1 := ⟨k - 1, by omega⟩
                have hil : i < x.slots.length := by rw [HNN.out]; omega
                have hget : x.slots[i]? = some (x.slots.getD i none) := by
                  rw [List.getD_eq_getElem?_getD, List.getElem?_eq_getElem hil]
                  rfl
                obtain ⟨gb', hgb', hc⟩ := HR2.out.slot hget
                rw [HGB.out] at hgb'
                injection hgb' with hgb'
                subst hgb'
                have hst := free_step (l := x.p.slots) (k := i) (by show i < (x.slots.map (Option.map KS.bs)).length; rw [List.length_map]; exact hil) HZ.out
                have hpg : x.p.slots.getD i none = (x.slots.getD i none).map KS.bs := by
                  show (x.slots.map (Option.map KS.bs)).getD i none = _
                  rw [List.getD_eq_getElem?_getD, List.getElem?_map, hget]
                  rfl
                rw [hpg] at hst
                cases hs : x.slots.getD i none with
                | none =>
                  rw [hs] at hst hc
                  unfold slotV at hc
                  have HST := toHid hst
                  clear hst hpg hs hget hil
                  go_wp2
                  exact ⟨⟨i, by omega, by go_num, _, rfl, toHid (by rw [show (((i + 1 : Nat) : Int) - 1) = (i : Int) by omega]; simpa using HST.out)⟩, by simp [intOf] <;> omega⟩
                | some ks =>
                  rw [hs] at hst hc
                  unfold slotV KS.v at hc
                  have HST := toHid hst
                  clear hst hpg hs hget hil
                  go_wp2
                  exact ⟨⟨i, by omega, by go_num, z, rfl, toHid (by simpa using HST.out)⟩, by simp [intOf] <;> omega⟩
              · obtain rfl : k = 0 := by omega
                have hz : z = idxI (freeP x.p.slots) := by
                  rw [HZ.out, List.drop_zero]
                  cases freeP x.p.slots <;> rfl
                cases hfr : freeP x.p.slots with
                | some fr =>
                  rw [hfr] at hz
                  obtain rfl : z = (fr : Int) := hz
                  have hfl : fr < x.slots.length := by
                    have := freeP_lt hfr
                    have h2 : x.p.slots.length = x.slots.length := by show (x.slots.map _).length = _; simp
                    omega
                  obtain rfl : pr = (((fr : Int), true, 0), x.p.laid fr bs) := by
                    rw [HV4.out]
                    unfold PX.room
                    rw [hfr]
                  have HFL := toHid hfl
                  have hfn : fr < n := by rw [← HNN.out]; exact hfl
                  clear hfr HZ HV4 hfl
                  have hR0 := HR2.out.touch ((Touch.refl [] w3).drew) (by simp)
                  obtain ⟨g1, cap1, w4, hr1, hA1, ht1, hg1⟩ := keyat_append (HH.out.2.2.2.touch (HT.out.drew)) HSZ.out.1 HSZ.out.2 kc
                  have hlaid := hR0.laid HGB.out (j := fr) HFL.out hA1 ht1 hg1
                  have HS0 := toHid (show w3.drew.cell? ⟨x.r, 3, none⟩ = some (.slice (some ⟨gb, 0, none⟩) n x.scap) from c3)
                  have HS1 := toHid (((Touch.refl [] w3.drew).alloc (.cells #[] 5)).cell HS0.out (by simp))
                  have HS2 := toHid (ht1.cell HS0.out (by simp))
                  have hx2 := hlaid.1.c3
                  have hx0 := hlaid.1.c0
                  have HS3 : Hid ((w4.setCell ⟨gb, fr, none⟩ (.slice (some ⟨g1, 0, none⟩) sl cap1)).cell? ⟨x.r, 3, none⟩ = some (.slice (some ⟨gb, 0, none⟩) n x.scap)) := by
                    have e1 : slV x.g (x.slots.set fr (some ⟨g1, cap1, bs⟩)).length x.scap = .slice (some ⟨gb, 0, none⟩) n x.scap := by
                      rw [HGB.out, List.length_set, HNN.out]
                      rfl
                    have e2 : (⟨g1, cap1, bs⟩ : KS).v = .slice (some ⟨g1, 0, none⟩) sl cap1 := by
                      rw [HH.out.2.2.2.1]
                      rfl
                    rw [← e2, ← e1]
                    exact hx2
                  have e2 : (⟨g1, cap1, bs⟩ : KS).v = .slice (some ⟨g1, 0, none⟩) sl cap1 := by
                    rw [HH.out.2.2.2.1]
                    rfl
                  rw [e2] at hlaid hx0
                  have hget : x.slots[fr]? = some (x.slots.getD fr none) := by
                    rw [List.getD_eq_getElem?_getD, List.getElem?_eq_getElem HFL.out]
                    rfl
                  obtain ⟨gb', hgb', hc⟩ := (hR0.touch ht1 (by simp)).slot hget
                  have hfz : w4.frozen? ⟨gb, fr, none⟩ = false := by
                    have hq := (hR0.touch ht1 (by simp)).row.2.2.2
                    rw [HGB.out] at hq
                    obtain ⟨_, hB, _⟩ := hq
                    exact hB.frozen _
                  rw [HGB.out] at hgb'
                  injection hgb' with hgb'
                  subst hgb'
                  generalize slotV (x.slots.getD fr none) = oldv at hc
                  have hx0 : (w4.setCell ⟨gb, fr, none⟩ (.slice (some ⟨g1, 0, none⟩) sl cap1)).cell? ⟨x.r, 0, none⟩ = some (.int .i64 x.kind) := hx0
                  have H3 := toHid (touch_any hlaid.1 (idxI (some (fr))) (by show ((fr : Nat) : Int) < (x.whens.length : Int); rw [HH.out.2.1.lens, HNN.out]; have := HFL.out; rw [HNN.out] at this; omega) HH.out.2.1.clock0 (by have := HH.out.2.1.clock1; show x.clock ≤ _; omega))
                  have HLL := toHid hlaid
                  have HR1 := toHid hr1
                  have hk3' : (x.kind == 3) = false := by simpa using HH.out.2.2.1
                  unfold idxI at H3
                  simp only at H3
                  have hsz : w3.drew.heap.size = w3.heap.size := rfl
                  rw [hsz] at HR1
                  generalize hRR : x.r = R at *
                  generalize hSC : x.scap = sc at *
                  have HRC := toHid (And.intro hRR hSC)
                  clear hR0 hr1 hA1 ht1 hg1 hlaid hget hx2 e2 hsz hRR hSC
                  go_upto_region 29 with fail
                  refine wp_region_held_drew (S := (fun w' => w'.cell? ⟨R, 3, none⟩ = some (.slice (some ⟨gb, 0, none⟩) n sc))) (by kernel_rfl) ?_ (fun hHeld => ?_)
                  · exact HS0.out
                  refine wpAnyH_take (i := 0) (v := ?_) rfl (by kernel_rfl) (by kernel_rfl) (by kernel_rfl) (fun _ _ _ h => h) (Or.inl ⟨by rfl, ?_⟩) (by assumption) ?_
                  rotate_left
                  · (intro w hSw; (try dsimp only at hSw); go_simp; try with_reducible rfl)
                  simp only [Act.put, List.getElem_toArray, List.getElem_cons_zero, List.setIfInBounds_toArray, List.set_cons_zero, List.set_cons_succ]
                  refine wpAnyH_take (i := 1) (v := ?_) rfl (by kernel_rfl) (by kernel_rfl) (by kernel_rfl) (fun _ _ _ h => h) (Or.inl ⟨by rfl, ?_⟩) (by assumption) ?_
                  rotate_left
                  · (intro w hSw; (try dsimp only at hSw); go_simp; try with_reducible rfl)
                  simp only [Act.put, List.getElem_toArray, List.getElem_cons_zero, List.getElem_cons_succ, List.setIfInBounds_toArray, List.set_cons_zero, List.set_cons_succ]
                  refine wpAnyH_take (i := 2) (v := ?_) rfl (by kernel_rfl) (by kernel_rfl) (by kernel_rfl) (fun _ _ _ h => h) (Or.inl ⟨by rfl, ?_⟩) (by assumption) ?_
                  rotate_left
                  · (intro w hSw; (try dsimp only at hSw); go_simp; try with_reducible rfl)
                  simp only [Act.put, List.getElem_toArray, List.getElem_cons_zero, List.getElem_cons_succ, List.setIfInBounds_toArray, List.set_cons_zero, List.set_cons_succ]
                  refine wpAnyH_take (i := 3) (v := ?_) rfl (by kernel_rfl) (by kernel_rfl) (by kernel_rfl) (fun _ _ _ h => h) (Or.inl ⟨by rfl, ?_⟩) (by assumption) ?_
                  rotate_left
                  · (intro w hSw; (try dsimp only at hSw); go_simp; try with_reducible rfl)
                  simp only [Act.put, List.getElem_toArray, List.getElem_cons_zero, List.getElem_cons_succ, List.setIfInBounds_toArray, List.set_cons_zero, List.set_cons_succ]
                  refine wpAnyH_take (i := 4) (v := ?_) rfl (by kernel_rfl) (by kernel_rfl) (by kernel_rfl) (fun _ _ _ h => h) (Or.inl ⟨by rfl, ?_⟩) (by assumption) ?_
                  rotate_left
                  · (intro w hSw; (try dsimp only at hSw); go_simp; try with_reducible rfl)
                  simp only [Act.put, List.getElem_toArray, List.getElem_cons_zero, List.getElem_cons_succ, List.setIfInBounds_toArray, List.set_cons_zero, List.set_cons_succ]
                  refine wpAnyH_take (i := 6) (v := ?_) rfl (by kernel_rfl) (by kernel_rfl) (by kernel_rfl) (fun _ _ _ h => h) (Or.inl ⟨by rfl, ?_⟩) (by assumption) ?_
                  rotate_left
                  · (intro w hSw; (try dsimp only at hSw); go_simp; try with_reducible rfl)
                  simp only [Act.put, List.getElem_toArray, List.getElem_cons_zero, List.getElem_cons_succ, List.setIfInBounds_toArray, List.set_cons_zero, List.set_cons_succ]
                  refine wpAnyH_ready (rs := [5]) (by kernel_rfl) (by simp) ?_
                  refine AllReadyH.cons rfl (fun K hK => ?_) AllReadyH.nil
                  simp only [List.getElem_toArray, List.getElem_cons_zero, List.getElem_cons_succ]
                  go_simp
                  refine hK.out _ _ ?_ (fun hHeld => ?_)
                  · exact HS1.out
                  clear hK K
                  try simp only [Act.put, List.getElem_toArray, List.getElem_cons_zero, List.getElem_cons_succ, List.setIfInBounds_toArray, List.set_cons_zero, List.set_cons_succ]
                  refine wpAnyH_ready (rs := [7]) (by kernel_rfl) (by simp) ?_
                  refine AllReadyH.cons rfl (fun K hK => ?_) AllReadyH.nil
                  refine step_append_known rfl (.tmp 106) (.tmp 107) 32 32 rfl (.slice (some ⟨w3.heap.size, 0, none⟩) 0 0) (.slice sa sl kc) (by simp [Act.eval]) (by simp [Act.eval]) HR1.out ?_
                  refine hK.out _ _ ?_ (fun hHeld => ?_)
                  · exact HS2.out
                  clear hK K
                  try simp only [Act.put, List.getElem_toArray, List.getElem_cons_zero, List.getElem_cons_succ, List.setIfInBounds_toArray, List.set_cons_zero, List.set_cons_succ]
                  refine wpAnyH_take (i := 8) (v := ?_) rfl (by kernel_rfl) (by kernel_rfl) (by kernel_rfl) (fun _ _ _ h => h) (Or.inl ⟨by rfl, ?_⟩) (by assumption) ?_
                  rotate_left
                  · (intro w hSw; (try dsimp only at hSw); go_simp; try with_reducible rfl)
                  simp only [Act.put, List.getElem_toArray, List.getElem_cons_zero, List.getElem_cons_succ, List.setIfInBounds_toArray, List.set_cons_zero, List.set_cons_succ]
                  refine wpAnyH_ready (rs := [9]) (by kernel_rfl) (by simp) ?_
                  refine AllReadyH.cons rfl (fun K hK => ?_) AllReadyH.nil
                  simp only [List.getElem_toArray, List.getElem_cons_zero, List.getElem_cons_succ]
                  go_simp
                  refine hK.out _ _ ?_ (fun hHeld => ?_)
                  · exact HS3.out
                  clear hK K
                  try simp only [Act.put, List.getElem_toArray, List.getElem_cons_zero, List.getElem_cons_succ, List.setIfInBounds_toArray, List.set_cons_zero, List.set_cons_succ]
                  refine wpAnyH_done (by kernel_rfl) ?_ _
                  clear c0 c3
                  go_wp2_with fail
                  refine Calls.mono H3.out ?_
                  rintro e w5 ⟨rfl, hr5, ht5⟩
                  obtain ⟨hRR, hSC⟩ := HRC.out
                  subst hRR
                  subst hSC
                  have HF : Hid (∃ x', Step w w5 x x' (x.p.laid (fr) bs)) := ⟨_, Step.laid (HT.out.drew) HFL.out HLL.out.2.1 HLL.out.2.2 hr5 ht5⟩
                  clear hr5 ht5 H3 HLL
                  go_wp2
                  go_ret3
                  exact ⟨rfl, HF.out⟩
                | none =>
                  rw [hfr] at hz
                  obtain rfl : z = -1 := hz
                  by_cases hk2 : x.kind = 2
                  · have HPR : Hid (pr = ((((oldP x.whens : Nat) : Int), true, 0), x.p.laid (oldP x.whens) bs)) := by
                      show pr = ((((oldP x.whens : Nat) : Int), true, 0), x.p.laid (oldP x.whens) bs)
                      rw [HV4.out]
                      unfold PX.room
                      rw [hfr]
                      simp only
                      rw [if_pos (show x.p.kind = 2 from hk2)]
                      rfl
                    have hk2' : (x.kind != 2) = false := by simpa using hk2
                    have HK2 := toHid hk2
                    have HLW := toHid (HH.out.2.1.lens.trans HNN.out)
                    clear hfr hk2 HZ HV4
                    go_wp2_with fail
                    go_loopw [9, 81] (fun a i w' => ∃ k : Nat, k ≤ n ∧ i = .int .i64 k ∧ ∃ z : Nat, a = .int .i64 z ∧ z < n ∧ Hid (oldFrom x.whens (n - k) z = oldP x.whens ∧ Touch [] w3 w')) (fun _ i _ => n - (intOf i).toNat)
                    case atStart => exact ⟨0, by omega, rfl, 0, rfl, by omega, by unfold oldP; rw [HLW.out]; rfl, Touch.refl _ _⟩
                    case round =>
                      obtain ⟨k, hk, rfl, z, rfl, hzn, HO⟩ := hrel
                      by_cases hkn : k < n
                      · have hxr := HR2.out.touch HO.out.2 (by simp)
                        obtain ⟨wb, rest, hwb, hWB⟩ := hxr.when (j := k) (by rw [HLW.out]; exact hkn)
                        have d4 := hxr.c4
                        rw [hwb, HLW.out, slV_some] at d4
                        have cell : ∀ j, j < n → wr.cell? ⟨wb, j, none⟩ = some (.int .i64 (x.whens.getD j 0)) := fun j hj => hWB.cell (by
                          rw [List.getElem?_append_left (by rw [List.length_map, HLW.out]; exact hj), List.getElem?_map, List.getD_eq_getElem?_getD, List.getElem?_eq_getElem (by rw [HLW.out]; exact hj)]
                          rfl)
                        have v1 := cell k hkn
                        have v2 := cell z hzn
                        have hstep : oldFrom x.whens (n - k) z = oldFrom x.whens (n - (k + 1)) (if x.whens.getD k 0 < x.whens.getD z 0 then k else z) := by
                          obtain ⟨q, hq⟩ : ∃ q, n - k = q + 1 := ⟨n - k - 1, by omega⟩
                          rw [hq, show n - (k + 1) = q by omega, oldFrom_succ, HLW.out, show n - (q + 1) = k by omega]
                        have HST := toHid hstep
                        generalize x.whens.getD k 0 = a1 at *
                        generalize x.whens.getD z 0 = a2 at *
                        clear cell hWB hwb hxr hstep
                        go_wp2_with fail
                        go_region
                        by_cases hlt : a1 < a2
                        · have HNX : Hid (oldFrom x.whens (n - (k + 1)) k = oldP x.whens ∧ Touch [] w3 wr.drew) := by
                            have h1 := HST.out
                            rw [if_pos hlt] at h1
                            exact ⟨h1.symm.trans HO.out.1, HO.out.2.drew⟩
                          clear HST HO
                          go_wp2
                          go_roundw
                          case rel => exact ⟨k + 1, by omega, by go_num, k, rfl, hkn, HNX⟩
                          case measure => simp [intOf]; omega
                        · have HNX : Hid (oldFrom x.whens (n - (k + 1)) z = oldP x.whens ∧ Touch [] w3 wr.drew) := by
                            have h1 := HST.out
                            rw [if_neg hlt] at h1
                            exact ⟨h1.symm.trans HO.out.1, HO.out.2.drew⟩
                          clear HST HO
                          go_wp2
                          go_roundw
                          case rel => exact ⟨k + 1, by omega, by go_num, z, rfl, hzn, HNX⟩
                          case measure => simp [intOf]; omega
                      · obtain rfl : n = k := by omega
                        have hzo : oldP x.whens = z := by
                          have h1 := HO.out.1
                          rw [Nat.sub_self] at h1
                          exact h1.symm
                        obtain rfl : pr = (((z : Int), true, 0), x.p.laid z bs) := by rw [HPR.out, hzo]
                        replace c0 := HO.out.2.cell c0 (by simp)
                        replace c3 := HO.out.2.cell c3 (by simp)
                        replace HT := toHid (HT.out.trans HO.out.2 (by simp))
                        replace HR2 := toHid (HR2.out.touch HO.out.2 (by simp))
                        have HFL : Hid (z < x.slots.length) := toHid (by rw [HNN.out]; exact hzn)
                        clear HPR hzo HN HO hk2'
                        generalize hww : wr = w7 at *
                        clear hww
                        have hR0 := HR2.out.touch ((Touch.refl [] w7).drew) (by simp)
                        obtain ⟨g1, cap1, w4, hr1, hA1, ht1, hg1⟩ := keyat_append (HH.out.2.2.2.touch (HT.out.drew)) HSZ.out.1 HSZ.out.2 kc
                        have hlaid := hR0.laid HGB.out (j := z) HFL.out hA1 ht1 hg1
                        have HS0 := toHid (show w7.drew.cell? ⟨x.r, 3, none⟩ = some (.slice (some ⟨gb, 0, none⟩) n x.scap) from c3)
                        have HS1 := toHid (((Touch.refl [] w7.drew).alloc (.cells #[] 5)).cell HS0.out (by simp))
                        have HS2 := toHid (ht1.cell HS0.out (by simp))
                        have hx2 := hlaid.1.c3
                        have hx0 := hlaid.1.c0
                        have HS3 : Hid ((w4.setCell ⟨gb, z, none⟩ (.slice (some ⟨g1, 0, none⟩) sl cap1)).cell? ⟨x.r, 3, none⟩ = some (.slice (some ⟨gb, 0, none⟩) n x.scap)) := by
                          have e1 : slV x.g (x.slots.set z (some ⟨g1, cap1, bs⟩)).length x.scap = .slice (some ⟨gb, 0, none⟩) n x.scap := by
                            rw [HGB.out, List.length_set, HNN.out]
                            rfl
                          have e2 : (⟨g1, cap1, bs⟩ : KS).v = .slice (some ⟨g1, 0, none⟩) sl cap1 := by
                            rw [HH.out.2.2.2.1]
                            rfl
                          rw [← e2, ← e1]
                          exact hx2
                        have e2 : (⟨g1, cap1, bs⟩ : KS).v = .slice (some ⟨g1, 0, none⟩) sl cap1 := by
                          rw [HH.out.2.2.2.1]
                          rfl
                        rw [e2] at hlaid hx0
                        have hget : x.slots[z]? = some (x.slots.getD z none) := by
                          rw [List.getD_eq_getElem?_getD, List.getElem?_eq_getElem HFL.out]
                          rfl
                        obtain ⟨gb', hgb', hc⟩ := (hR0.touch ht1 (by simp)).slot hget
                        have hfz : w4.frozen? ⟨gb, z, none⟩ = false := by
                          have hq := (hR0.touch ht1 (by simp)).row.2.2.2
                          rw [HGB.out] at hq
                          obtain ⟨_, hB, _⟩ := hq
                          exact hB.frozen _
                        rw [HGB.out] at hgb'
                        injection hgb' with hgb'
                        subst hgb'
                        generalize slotV (x.slots.getD z none) = oldv at hc
                        have hx0 : (w4.setCell ⟨gb, z, none⟩ (.slice (some ⟨g1, 0, none⟩) sl cap1)).cell? ⟨x.r, 0, none⟩ = some (.int .i64 x.kind) := hx0
                        have H3 := toHid (touch_any hlaid.1 (idxI (some (z))) (by show ((z : Nat) : Int) < (x.whens.length : Int); rw [HH.out.2.1.lens, HNN.out]; have := HFL.out; rw [HNN.out] at this; omega) HH.out.2.1.clock0 (by have := HH.out.2.1.clock1; show x.clock ≤ _; omega))
                        have HLL := toHid hlaid
                        have HR1 := toHid hr1
                        have hk3' : (x.kind == 3) = false := by simpa using HH.out.2.2.1
                        unfold idxI at H3
                        simp only at H3
                        have hsz : w7.drew.heap.size = w7.heap.size := rfl
                        rw [hsz] at HR1
                        generalize hRR : x.r = R at *
                        generalize hSC : x.scap = sc at *
                        have HRC := toHid (And.intro hRR hSC)
                        clear hR0 hr1 hA1 ht1 hg1 hlaid hget hx2 e2 hsz hRR hSC
                        go_upto_region 29 with fail
                        refine wp_region_held_drew (S := (fun w' => w'.cell? ⟨R, 3, none⟩ = some (.slice (some ⟨gb, 0, none⟩) n sc))) (by kernel_rfl) ?_ (fun hHeld => ?_)
                        · exact HS0.out
                        refine wpAnyH_take (i := 0) (v := ?_) rfl (by kernel_rfl) (by kernel_rfl) (by kernel_rfl) (fun _ _ _ h => h) (Or.inl ⟨by rfl, ?_⟩) (by assumption) ?_
                        rotate_left
                        · (intro w hSw; (try dsimp only at hSw); go_simp; try with_reducible rfl)
                        simp only [Act.put, List.getElem_toArray, List.getElem_cons_zero, List.setIfInBounds_toArray, List.set_cons_zero, List.set_cons_succ]
                        refine wpAnyH_take (i := 1) (v := ?_) rfl (by kernel_rfl) (by kernel_rfl) (by kernel_rfl) (fun _ _ _ h => h) (Or.inl ⟨by rfl, ?_⟩) (by assumption) ?_
                        rotate_left
                        · (intro w hSw; (try dsimp only at hSw); go_simp; try with_reducible rfl)
                        simp only [Act.put, List.getElem_toArray, List.getElem_cons_zero, List.getElem_cons_succ, List.setIfInBounds_toArray, List.set_cons_zero, List.set_cons_succ]
                        refine wpAnyH_take (i := 2) (v := ?_) rfl (by kernel_rfl) (by kernel_rfl) (by kernel_rfl) (fun _ _ _ h => h) (Or.inl ⟨by rfl, ?_⟩) (by assumption) ?_
                        rotate_left
                        · (intro w hSw; (try dsimp only at hSw); go_simp; try with_reducible rfl)
                        simp only [Act.put, List.getElem_toArray, List.getElem_cons_zero, List.getElem_cons_succ, List.setIfInBounds_toArray, List.set_cons_zero, List.set_cons_succ]
                        refine wpAnyH_take (i := 3) (v := ?_) rfl (by kernel_rfl) (by kernel_rfl) (by kernel_rfl) (fun _ _ _ h => h) (Or.inl ⟨by rfl, ?_⟩) (by assumption) ?_
                        rotate_left
                        · (intro w hSw; (try dsimp only at hSw); go_simp; try with_reducible rfl)
                        simp only [Act.put, List.getElem_toArray, List.getElem_cons_zero, List.getElem_cons_succ, List.setIfInBounds_toArray, List.set_cons_zero, List.set_cons_succ]
                        refine wpAnyH_take (i := 4) (v := ?_) rfl (by kernel_rfl) (by kernel_rfl) (by kernel_rfl) (fun _ _ _ h => h) (Or.inl ⟨by rfl, ?_⟩) (by assumption) ?_
                        rotate_left
                        · (intro w hSw; (try dsimp only at hSw); go_simp; try with_reducible rfl)
                        simp only [Act.put, List.getElem_toArray, List.getElem_cons_zero, List.getElem_cons_succ, List.setIfInBounds_toArray, List.set_cons_zero, List.set_cons_succ]
                        refine wpAnyH_take (i := 6) (v := ?_) rfl (by kernel_rfl) (by kernel_rfl) (by kernel_rfl) (fun _ _ _ h => h) (Or.inl ⟨by rfl, ?_⟩) (by assumption) ?_
                        rotate_left
                        · (intro w hSw; (try dsimp only at hSw); go_simp; try with_reducible rfl)
                        simp only [Act.put, List.getElem_toArray, List.getElem_cons_zero, List.getElem_cons_succ, List.setIfInBounds_toArray, List.set_cons_zero, List.set_cons_succ]
                        refine wpAnyH_ready (rs := [5]) (by kernel_rfl) (by simp) ?_
                        refine AllReadyH.cons rfl (fun K hK => ?_) AllReadyH.nil
                        simp only [List.getElem_toArray, List.getElem_cons_zero, List.getElem_cons_succ]
                        go_simp
                        refine hK.out _ _ ?_ (fun hHeld => ?_)
                        · exact HS1.out
                        clear hK K
                        try simp only [Act.put, List.getElem_toArray, List.getElem_cons_zero, List.getElem_cons_succ, List.setIfInBounds_toArray, List.set_cons_zero, List.set_cons_succ]
                        refine wpAnyH_ready (rs := [7]) (by kernel_rfl) (by simp) ?_
                        refine AllReadyH.cons rfl (fun K hK => ?_) AllReadyH.nil
                        refine step_append_known rfl (.tmp 106) (.tmp 107) 32 32 rfl (.slice (some ⟨w7.heap.size, 0, none⟩) 0 0) (.slice sa sl kc) (by simp [Act.eval]) (by simp [Act.eval]) HR1.out ?_
                        refine hK.out _ _ ?_ (fun hHeld => ?_)
                        · exact HS2.out
                        clear hK K
                        try simp only [Act.put, List.getElem_toArray, List.getElem_cons_zero, List.getElem_cons_succ, List.setIfInBounds_toArray, List.set_cons_zero, List.set_cons_succ]
                        refine wpAnyH_take (i := 8) (v := ?_) rfl (by kernel_rfl) (by kernel_rfl) (by kernel_rfl) (fun _ _ _ h => h) (Or.inl ⟨by rfl, ?_⟩) (by assumption) ?_
                        rotate_left
                        · (intro w hSw; (try dsimp only at hSw); go_simp; try with_reducible rfl)
                        simp only [Act.put, List.getElem_toArray, List.getElem_cons_zero, List.getElem_cons_succ, List.setIfInBounds_toArray, List.set_cons_zero, List.set_cons_succ]
                        refine wpAnyH_ready (rs := [9]) (by kernel_rfl) (by simp) ?_
                        refine AllReadyH.cons rfl (fun K hK => ?_) AllReadyH.nil
                        simp only [List.getElem_toArray, List.getElem_cons_zero, List.getElem_cons_succ]
                        go_simp
                        refine hK.out _ _ ?_ (fun hHeld => ?_)
                        · exact HS3.out
                        clear hK K
                        try simp only [Act.put, List.getElem_toArray, List.getElem_cons_zero, List.getElem_cons_succ, List.setIfInBounds_toArray, List.set_cons_zero, List.set_cons_succ]
                        refine wpAnyH_done (by kernel_rfl) ?_ _
                        clear c0 c3
                        go_wp2_with fail
                        refine Calls.mono H3.out ?_
                        rintro e w5 ⟨rfl, hr5, ht5⟩
                        obtain ⟨hRR, hSC⟩ := HRC.out
                        subst hRR
                        subst hSC
                        have HF : Hid (∃ x', Step w w5 x x' (x.p.laid (z) bs)) := ⟨_, Step.laid (HT.out.drew) HFL.out HLL.out.2.1 HLL.out.2.2 hr5 ht5⟩
                        clear hr5 ht5 H3 HLL
                        go_wp2
                        go_ret3
                        exact ⟨rfl, HF.out⟩
                  · obtain rfl : pr = ((0, false, 71), x.p) := by
                      rw [HV4.out]
                      unfold PX.room
                      rw [hfr]
                      simp only
                      rw [if_neg (show ¬ x.p.kind = 2 from hk2)]
                    have hk2' : (x.kind != 2) = true := by simpa using hk2
                    clear hfr hk2 HZ HV4
                    go_wp2
                    go_ret3
                    exact ⟨rfl, HN.out⟩
  · rw [decide_eq_false he] at H1
    rw [show x.p.put bs fl = ((0, false, 2), x.p) from if_neg (by show ¬ (bs.length : Int) = x.size; omega)]
    have HH := toHid h
    clear h u hk he hl hk3
    go_enter Try.func22, Try.ntmps22
    go_wp2_with fail
    refine Calls.mono H1.out ?_
    rintro e w2 ⟨rfl, ht2⟩
    have HF : Hid (∃ x', Step w w2 x x' x.p) := ⟨x, Step.refl HH.out ht2⟩
    clear ht2 H1
    go_wp2
    go_ret3
    exact ⟨rfl, HF.out⟩
end Go.Proofs.Ytlkbaconlngmjaa
