/-
  The document's own Find, of prefixes.
-/
import Derived.Test.YtlkbaconlngmjaaRFit3
namespace Go.Proofs.Ytlkbaconlngmjaa
open Go.RowKit
attribute [local go_sem ↓] Go.wp_at_zero Go.wp_at_succ

/-- Is it passed by? -/
def skipP (l : List (Option (List Int))) (bs : List Int) (a : Option Nat) : Option (List Int) → Bool
  | none => true
  | some y => decide (keyNum bs < keyNum y) || match a with
    | none => false
    | some i => decide (keyNum y ≤ keyNum ((l.getD i none).getD []))
def longStep (l : List (Option (List Int))) (bs : List Int) (a : Option Nat) (k : Nat) : Option Nat :=
  if skipP l bs a (l.getD k none) = true then a else if cutP (((l.getD k none).getD []).take 4 ++ bs.drop 4) = (l.getD k none).getD [] then some k else a
/-- The slot of the longest that begins the key, among the first k. -/
def longTo (l : List (Option (List Int))) (bs : List Int) : Nat → Option Nat
  | 0 => none
  | k + 1 => longStep l bs (longTo l bs k) k
theorem longTo_some {l : List (Option (List Int))} {bs : List Int} : ∀ {k i : Nat}, longTo l bs k = some i → i < k ∧ ∃ y, l.getD i none = some y
  | 0, i, h => by cases h
  | k + 1, i, h => by
    have h' : longStep l bs (longTo l bs k) k = some i := h
    unfold longStep at h'
    split at h'
    · have := longTo_some h'
      exact ⟨by omega, this.2⟩
    · split at h'
      · injection h' with h'
        subst h'
        refine ⟨by omega, ?_⟩
        cases hs : l.getD k none with
        | none =>
          rename_i hsk _
          rw [hs] at hsk
          exact absurd rfl hsk
        | some y => exact ⟨y, rfl⟩
      · have := longTo_some h'
        exact ⟨by omega, this.2⟩
def PX.fits3 (x : PX) (bs : List Int) : Bool := decide ((bs.length : Int) = x.size) && decide (keyNum bs ≤ 8 * (x.size - 4))
def PX.find3 (x : PX) (bs : List Int) : Option Nat × PX :=
  if x.fits3 bs = true then (longTo x.slots bs x.slots.length, x.touch (longTo x.slots bs x.slots.length)) else (none, x)

/-- More bytes appended. -/
theorem OwnAt.more {w0 w : World} {v : Value} {bs : List Int} (h : OwnAt w0 w v bs) (ht : Touch [] w0 w) (b off m c : Nat) (cs : List Int) (hm : cs.length = m) (hcell : ∀ j u, (cs.map (Value.int .u8))[j]? = some u → w.cell? ⟨b, off + j, none⟩ = some u)
    (hl : bs.length + m ≤ 140737488355328) :
    ∃ v' w', (Builtin.append_ #[32, 32] 32 #[v, .slice (some ⟨b, off, none⟩) m c]).run Try.prog w = .ok v' w' ∧ OwnAt w0 w' v' (bs ++ cs) ∧ Touch [] w0 w' := by
  subst hm
  obtain ⟨g, cap, rfl, hrow, hg⟩ := h
  obtain ⟨i, hi, hz, hs, hb⟩ := info_of info5
  obtain ⟨g', cap', w', hr, h2, h3, h4, _⟩ := run_append_row (P := Try.prog) w 32 32 5 i (.int .u8 0) 1 Try.underlying32 hi hz hs rfl (by omega) g bs.length cap _ hrow ⟨b, off, none⟩ cs.length c (cs.map (Value.int .u8)) (by simp)
    (fun j u hj => by rw [Addr.add_lit]; exact hcell j u hj) (fun u hu => by
      obtain ⟨x, _, rfl⟩ := List.mem_map.1 hu
      rfl) (by rw [hb]; omega) (by omega)
  have hsz := ht.size
  refine ⟨_, w', hr, ⟨g', cap', by simp, by simpa using h2, fun b hb => ?_⟩, ht.trans h3 (fun y hy => Or.inr (hg y (by simpa using hy)))⟩
  rcases h4 with rfl | rfl
  · exact hg b hb
  · injection hb with hb
    omega

set_option maxHeartbeats 8000000 in
set_option maxRecDepth 100000 in
theorem rfind3_any {w : World} {x : RX} (h : RAt w x) (u : RUp x) (hk3 : x.kind = 3) (hs1 : 5 ≤ x.size) (hs2 : x.size ≤ 16) (hlen : ∀ k, some k ∈ x.slots → (k.bs.length : Int) = x.size) {sa : Option Addr} {sl : Nat} {bs : List Int} (hk : KeyAt w sa sl bs) (sc : Nat) (hsc : sl ≤ sc) :
    Calls Try.prog 21 #[.pointer (some ⟨x.r, 0, none⟩), .slice sa sl sc] w (FindPost w x (x.p.find3 bs)) := by
  have H1 := toHid (fits3_any h hk3 hs1 hs2 hk sc hsc)
  have hfe : x.p.fits3 bs = fits3 x bs := rfl
  by_cases hf : fits3 x bs = true
  · rw [hf] at H1
    have HV : Hid (x.p.find3 bs = (longTo x.p.slots bs x.p.slots.length, x.p.touch (longTo x.p.slots bs x.p.slots.length))) := if_pos hf
    have hsz : (bs.length : Int) = x.size := by
      unfold fits3 at hf
      simp at hf
      exact hf.1
    have HH := toHid (And.intro h (And.intro u (And.intro hk hlen)))
    have HSZ := toHid (And.intro hsz (And.intro hs1 hs2))
    have hpl : x.p.slots.length = x.slots.length := by show (x.slots.map _).length = _; simp
    have HPL := toHid hpl
    have c0 := h.c0
    rw [hk3] at c0
    clear h u hk hlen hf hfe hs1 hs2 hsz hpl
    generalize x.p.find3 bs = pr at *
    go_enter Try.func21, Try.ntmps21
    go_wp2_with fail
    refine Calls.mono H1.out ?_
    rintro e w2 ⟨rfl, ht2⟩
    have hR2 := HH.out.1.touch ht2 (by simp)
    replace c0 := ht2.cell c0 (by simp)
    have c3 := hR2.c3
    have HT := toHid ht2
    have hnm := HH.out.2.1.many
    unfold slV at c3
    generalize hsg : (x.g.map fun b => (⟨b, 0, none⟩ : Addr)) = sg at *
    have HG := toHid hsg
    generalize hnn : x.slots.length = n at *
    have HNN := toHid hnn
    have hnil : ∀ (w : World) (a : Option Addr) (n c : Nat), (binOp .eql 32 (.slice a n c) (.slice none 0 0)).run Try.prog w = .ok (.bool a.isNone) w := fun w a n c => Lib.run_eql_slice_nil w _ _ a n c 0 0 Try.underlying32
    clear ht2 hR2 hsg hnn H1
    go_wp2_with fail
    clear c0 c3
    go_loopw [5, 26] (fun a i w' => ∃ k : Nat, k ≤ n ∧ i = .int .i64 k ∧ ∃ z : Int, a = .int .i64 z ∧ Hid (z = idxI (longTo x.p.slots bs k) ∧ Touch [] w w')) (fun _ i _ => n - (intOf i).toNat)
    case atStart => exact ⟨0, by omega, rfl, -1, rfl, rfl, HT.out⟩
    case round =>
      clear HT
      obtain ⟨k, hk, rfl, z, rfl, HI⟩ := hrel
      by_cases hlt : k < n
      · have hkl : k < x.slots.length := by rw [HNN.out]; exact hlt
        have hget : x.slots[k]? = some (x.slots.getD k none) := by rw [List.getD_eq_getElem?_getD, List.getElem?_eq_getElem hkl]; rfl
        have hR := HH.out.1.touch HI.out.2 (by simp)
        obtain ⟨b, hb, hc⟩ := hR.slot hget
        have hsg := HG.out
        rw [hb, Option.map_some] at hsg
        subst hsg
        have hpg : ∀ j, x.p.slots.getD j none = (x.slots.getD j none).map KS.bs := fun j => by
          show (x.slots.map (Option.map KS.bs)).getD j none = _
          rw [List.getD_eq_getElem?_getD, List.getElem?_map, List.getD_eq_getElem?_getD]
          cases x.slots[j]? <;> rfl
        have HB := toHid hb
        have HST : Hid (longTo x.p.slots bs (k + 1) = longStep x.p.slots bs (longTo x.p.slots bs k) k) := rfl
        have HPG := toHid hpg
        have HR := toHid hR
        generalize hs : x.slots.getD k none = s at *
        have HS := toHid (And.intro hs hget)
        have hps : x.p.slots.getD k none = s.map KS.bs := by rw [hpg, hs]
        have HPS := toHid hps
        clear hR hb hs hget hps hpg hkl
        go_upto_region 9 with fail
        generalize hsk : skipP x.p.slots bs (longTo x.p.slots bs k) (s.map KS.bs) = sk at *
        have HSK := toHid hsk
        clear hsk
        go_cut [56] from 31 to 56 (fun v wx => v = .bool sk ∧ wx = wr)
        case first =>
          cases s with
          | none =>
            unfold slotV
            obtain rfl : sk = true := by rw [← HSK.out]; rfl
            go_wp2
            go_meet
            exact ⟨rfl, rfl⟩
          | some ks =>
            have hmem : some ks ∈ x.slots := List.mem_of_getElem? HS.out.2
            have hA := HR.out.keys ks hmem
            have hksl := HH.out.2.2.2 ks hmem
            have hs := HSZ.out
            have H1 := toHid (bits_any hA.key (by omega) ks.cap hA.2.2.2.2)
            have H2 := toHid (bits_any (HH.out.2.2.1.touch HI.out.2) (by omega) sc hsc)
            have hcs : skipP x.p.slots bs (longTo x.p.slots bs k) ((some ks).map KS.bs) = (decide (keyNum bs < keyNum ks.bs) || match longTo x.p.slots bs k with
              | none => false
              | some i => decide (keyNum ks.bs ≤ keyNum ((x.p.slots.getD i none).getD []))) := rfl
            have HCS := toHid (HSK.out.symm.trans hcs)
            unfold slotV KS.v
            by_cases hgt : keyNum bs < keyNum ks.bs
            · obtain rfl : sk = true := by rw [HCS.out, decide_eq_true hgt, Bool.true_or]
              generalize keyNum bs = n1 at *
              generalize keyNum ks.bs = n2 at *
              clear hmem hA hksl hs hcs HSK HCS
              go_wp2_with fail
              refine Calls.mono H1.out ?_
              rintro e w6 ⟨rfl, rfl⟩
              go_wp2_with fail
              refine Calls.mono H2.out ?_
              rintro e w6 ⟨rfl, rfl⟩
              go_wp2
              go_meet
              exact ⟨rfl, rfl⟩
            · cases hlo : longTo x.p.slots bs k with
              | none =>
                obtain rfl : sk = false := by rw [HCS.out, decide_eq_false hgt, hlo]; rfl
                obtain rfl : z = -1 := by rw [HI.out.1, hlo]; rfl
                generalize keyNum bs = n1 at *
                generalize keyNum ks.bs = n2 at *
                clear hmem hA hksl hs hcs HSK HCS hlo
                go_wp2_with fail
                refine Calls.mono H1.out ?_
                rintro e w6 ⟨rfl, rfl⟩
                go_wp2_with fail
                refine Calls.mono H2.out ?_
                rintro e w6 ⟨rfl, rfl⟩
                go_wp2
                go_meet
                exact ⟨by simp; omega, rfl⟩
              | some i =>
                obtain rfl : z = (i : Int) := by rw [HI.out.1, hlo]; rfl
                obtain ⟨hik, y, hy⟩ := longTo_some hlo
                have hy2 := HPG.out i
                rw [hy] at hy2
                obtain ⟨ki, hki, hkib⟩ : ∃ ki, x.slots.getD i none = some ki ∧ ki.bs = y := by
                  cases hq : x.slots.getD i none with
                  | none => rw [hq] at hy2; cases hy2
                  | some ki =>
                    rw [hq] at hy2
                    injection hy2 with hy2
                    exact ⟨ki, rfl, hy2.symm⟩
                have hil : i < x.slots.length := by rw [HNN.out]; omega
                have hgi : x.slots[i]? = some (some ki) := by
                  rw [← hki, List.getD_eq_getElem?_getD, List.getElem?_eq_getElem hil]
                  rfl
                obtain ⟨b', hb', hci⟩ := HR.out.slot hgi
                have hbb : b' = b := by
                  have := HB.out
                  rw [hb'] at this
                  exact Option.some.inj this
                subst hbb
                have hmi : some ki ∈ x.slots := List.mem_of_getElem? hgi
                have hAi := HR.out.keys ki hmi
                have hkil := HH.out.2.2.2 ki hmi
                have H3 := toHid (bits_any hAi.key (by omega) ki.cap hAi.2.2.2.2)
                have c3 := HR.out.c3
                rw [hb', HNN.out, slV_some] at c3
                have hske : sk = decide (keyNum ks.bs ≤ keyNum ki.bs) := by
                  rw [HCS.out, decide_eq_false hgt, hlo, hkib]
                  simp only [Bool.false_or]
                  rw [hy]
                  rfl
                unfold slotV KS.v at hci
                have HSE := toHid hske
                have hin : (i : Int) < n := by omega
                generalize keyNum bs = n1 at *
                generalize keyNum ks.bs = n2 at *
                generalize keyNum ki.bs = n3 at *
                clear hmem hA hksl hs hcs HSK HCS hlo hy hy2 hki hkib hil hgi hb' hmi hAi hkil hske
                by_cases hge : n2 ≤ n3
                · obtain rfl : sk = true := by rw [HSE.out, decide_eq_true hge]
                  go_wp2_with fail
                  refine Calls.mono H1.out ?_
                  rintro e w6 ⟨rfl, rfl⟩
                  go_wp2_with fail
                  refine Calls.mono H2.out ?_
                  rintro e w6 ⟨rfl, rfl⟩
                  go_wp2_with fail
                  refine Calls.mono H3.out ?_
                  rintro e w6 ⟨rfl, rfl⟩
                  go_wp2_with fail
                  refine Calls.mono H1.out ?_
                  rintro e w6 ⟨rfl, rfl⟩
                  go_wp2
                  go_meet
                  exact ⟨rfl, rfl⟩
                · obtain rfl : sk = false := by rw [HSE.out, decide_eq_false hge]
                  go_wp2_with fail
                  refine Calls.mono H1.out ?_
                  rintro e w6 ⟨rfl, rfl⟩
                  go_wp2_with fail
                  refine Calls.mono H2.out ?_
                  rintro e w6 ⟨rfl, rfl⟩
                  go_wp2_with fail
                  refine Calls.mono H3.out ?_
                  rintro e w6 ⟨rfl, rfl⟩
                  go_wp2_with fail
                  refine Calls.mono H1.out ?_
                  rintro e w6 ⟨rfl, rfl⟩
                  go_wp2
                  go_meet
                  exact ⟨by simp; omega, rfl⟩
        case rest =>
          obtain ⟨rfl, rfl⟩ := hcut
          generalize hw5 : wc = w5 at *
          clear hw5
          cases sk with
          | true =>
            have HN : Hid (z = idxI (longTo x.p.slots bs (k + 1)) ∧ Touch [] w w5) := by
              refine ⟨?_, HI.out.2⟩
              rw [HST.out]
              unfold longStep
              rw [HPS.out, if_pos HSK.out]
              exact HI.out.1
            clear HST HSK HI HS
            go_wp2
            go_roundw
            case rel => exact ⟨k + 1, by omega, by go_num, z, rfl, HN⟩
            case measure => simp [intOf]; omega
          | false =>
            cases s with
            | none => exact absurd HSK.out (by simp [skipP])
            | some ks =>
              have hmem : some ks ∈ x.slots := List.mem_of_getElem? HS.out.2
              have hA := HR.out.keys ks hmem
              have hksl := HH.out.2.2.2 ks hmem
              have hs := HSZ.out
              have hsl := HH.out.2.2.1.1
              have hA0 := hA.touch ((Touch.refl [] w5).drew) (by simp)
              obtain ⟨q1, q2, hq, hk4, _⟩ := hA0.key.cut4 (by omega)
              obtain ⟨rfl, rfl⟩ : q1 = ks.b ∧ q2 = 0 := by
                injection hq with hq
                injection hq with h1 h2
                exact ⟨h1.symm, h2.symm⟩
              obtain ⟨g1, cap1, w6, hr1, hA1, ht1, hg1, hrw⟩ := keyat_append2 hk4 (by simp; omega) (by simp; omega) ks.cap
              have hO1 : OwnAt w5.drew w6 (.slice (some ⟨g1, 0, none⟩) 4 cap1) (ks.bs.take 4) := ⟨some g1, cap1, by simp [slV]; omega, hrw, fun b hb => by injection hb with hb; subst hb; exact hg1⟩
              obtain ⟨kb, koff, rfl, _, hkc⟩ := (HH.out.2.2.1.touch (HI.out.2.drew.trans ht1 (by simp))).cut4 (by omega)
              obtain ⟨v7, w7, hr2, hO7, ht7⟩ := hO1.more ht1 kb (koff + 4) (sl - 4) (sc - 4) (bs.drop 4) (by simp; omega) (fun j u hj => by
                rw [List.getElem?_map, List.getElem?_drop] at hj
                have hjl : 4 + j < bs.length := by
                  cases hq : bs[4 + j]? with
                  | none => rw [hq] at hj; cases hj
                  | some y => exact (List.getElem?_eq_some_iff.1 hq).1
                have := hkc (4 + j) hjl
                rw [List.getD_eq_getElem?_getD, List.getElem?_eq_getElem hjl] at this
                rw [List.getElem?_eq_getElem hjl] at hj
                rw [show koff + 4 + j = koff + (4 + j) by omega, this]
                exact hj) (by simp; omega)
              have hc7b : ∀ y ∈ ks.bs.take 4 ++ bs.drop 4, 0 ≤ y ∧ y ≤ 255 := fun y hy => by
                rcases List.mem_append.1 hy with hy | hy
                · exact hA.2.1 y (List.mem_of_mem_take hy)
                · exact HH.out.2.2.1.2.1 y (List.mem_of_mem_drop hy)
              have hc7l : (ks.bs.take 4 ++ bs.drop 4).length = bs.length := by simp; omega
              obtain ⟨k7, rfl, hk7b, hk7A, _⟩ := hO7.key (by omega) (by omega) hc7b
              have hk7d := (hk7A.touch ((Touch.refl [] w7).drew) (by simp)).key
              rw [hk7b] at hk7d
              have H5 := toHid (cut_any hk7d (by omega) (by omega) k7.cap (by have := hk7A.2.2.2.2; rw [hk7b] at this; exact this))
              have hT7 := HI.out.2.drew.trans ht7 (by simp)
              have HC8 := toHid (And.intro (show 1 ≤ (cutP (ks.bs.take 4 ++ bs.drop 4)).length by rw [cutP_len (by omega)]; omega) (And.intro (show (cutP (ks.bs.take 4 ++ bs.drop 4)).length ≤ 16 by rw [cutP_len (by omega)]; omega) (cutP_bd hc7b)))
              have hse := str_eq HC8.out.2.2 hA.2.1
              have HCV0 := toHid ((hA0.touch (ht7.drew) (by simp)).key.conv ks.cap)
              have HKA : Hid (∀ w8, Touch [] w7.drew w8 → (convert 32 9 (.slice (some ⟨ks.b, 0, none⟩) ks.bs.length ks.cap)).run Try.prog w8 = .ok (.string (strOfNums ks.bs)) w8 ∧ Touch [] w w8) := fun w8 h8 => ⟨((hA0.touch (ht7.drew) (by simp)).touch h8 (by simp)).key.conv ks.cap, hT7.drew.trans h8 (by simp)⟩
              have hstep : longTo x.p.slots bs (k + 1) = if cutP (ks.bs.take 4 ++ bs.drop 4) = ks.bs then some k else longTo x.p.slots bs k := by
                rw [HST.out]
                unfold longStep
                rw [HPS.out, if_neg (by rw [HSK.out]; simp)]
                rfl
              have HSTP := toHid hstep
              have ev7 : k7.v = .slice (some ⟨k7.b, 0, none⟩) bs.length k7.cap := by unfold KS.v; rw [hk7b, hc7l]
              rw [ev7] at hr2
              rw [hc7l] at H5
              have HR1 := toHid hr1
              have HR2 := toHid hr2
              have hszd : w5.drew.heap.size = w5.heap.size := rfl
              rw [hszd] at HR1
              have h4c : 4 ≤ ks.cap := by have := hA.2.2.2.2; omega
              have h4l : 4 ≤ ks.bs.length := by omega
              have h4s : 4 ≤ sl := by omega
              have h4sc : 4 ≤ sc := by omega
              have i4c : (4 : Int) ≤ (ks.cap : Int) := by omega
              have i4s : (4 : Int) ≤ (sl : Int) := by omega
              have i4sc : (sl : Int) ≤ (sc : Int) := by omega
              have i5 : ¬ sc = 4 := by omega
              have HIZ := toHid HI.out.1
              unfold slotV KS.v
              generalize hcl7 : cutP (ks.bs.take 4 ++ bs.drop 4) = c8 at *
              generalize heqb : (c8 == ks.bs) = eqb at *
              have HEQ := toHid heqb
              clear heqb
              generalize hA' : strOfNums ks.bs = A at *
              generalize hklen : ks.bs.length = kl at *
              generalize hbl : bs.length = bl at *
              clear hmem hA hksl hs hsl hA0 hk4 hr1 hA1 ht1 hg1 hrw hO1 hkc hr2 hO7 ht7 hc7b hc7l hk7b hk7A hk7d hT7 hstep ev7 hszd HST HSK HI HPS HS HR HB HPG hc
              go_upto_region 10 with fail
              refine wp_region_held_drew (S := (fun _ => True)) (by kernel_rfl) ?_ (fun hHeld => ?_)
              · trivial
              refine wpAnyH_take (i := 1) (v := ?_) rfl (by kernel_rfl) (by kernel_rfl) (by kernel_rfl) (fun _ _ _ h => h) (Or.inl ⟨by rfl, ?_⟩) (by assumption) ?_
              rotate_left
              · (intro w hSw; (try dsimp only at hSw); go_simp; try with_reducible rfl)
              simp only [Act.put, List.getElem_toArray, List.getElem_cons_zero, List.getElem_cons_succ, List.setIfInBounds_toArray, List.set_cons_zero, List.set_cons_succ]
              refine wpAnyH_take (i := 2) (v := ?_) rfl (by kernel_rfl) (by kernel_rfl) (by kernel_rfl) (fun _ _ _ h => h) (Or.inl ⟨by rfl, ?_⟩) (by assumption) ?_
              rotate_left
              · (intro w hSw; (try dsimp only at hSw); go_simp; try with_reducible rfl)
              simp only [Act.put, List.getElem_toArray, List.getElem_cons_zero, List.getElem_cons_succ, List.setIfInBounds_toArray, List.set_cons_zero, List.set_cons_succ]
              refine wpAnyH_take (i := 4) (v := ?_) rfl (by kernel_rfl) (by kernel_rfl) (by kernel_rfl) (fun _ _ _ h => h) (Or.inl ⟨by rfl, ?_⟩) (by assumption) ?_
              rotate_left
              · (intro w hSw; (try dsimp only at hSw); go_simp; try with_reducible rfl)
              simp only [Act.put, List.getElem_toArray, List.getElem_cons_zero, List.getElem_cons_succ, List.setIfInBounds_toArray, List.set_cons_zero, List.set_cons_succ]
              refine wpAnyH_take (i := 5) (v := ?_) rfl (by kernel_rfl) (by kernel_rfl) (by kernel_rfl) (fun _ _ _ h => h) (Or.inl ⟨by rfl, ?_⟩) (by assumption) ?_
              rotate_left
              · (intro w hSw; (try dsimp only at hSw); go_simp; try with_reducible rfl)
              simp only [Act.put, List.getElem_toArray, List.getElem_cons_zero, List.getElem_cons_succ, List.setIfInBounds_toArray, List.set_cons_zero, List.set_cons_succ]
              refine wpAnyH_ready (rs := [0]) (by kernel_rfl) (by simp) ?_
              refine AllReadyH.cons rfl (fun K hK => ?_) AllReadyH.nil
              simp only [List.getElem_toArray, List.getElem_cons_zero]
              go_simp
              refine hK.out _ _ ?_ (fun hHeld => ?_)
              · trivial
              clear hK K
              try simp only [Act.put, List.getElem_toArray, List.getElem_cons_zero, List.getElem_cons_succ, List.setIfInBounds_toArray, List.set_cons_zero, List.set_cons_succ]
              refine wpAnyH_ready (rs := [3]) (by kernel_rfl) (by simp) ?_
              refine AllReadyH.cons rfl (fun K hK => ?_) AllReadyH.nil
              refine step_append_known rfl (.tmp 57) (.tmp 59) 32 32 rfl (.slice (some ⟨w5.heap.size, 0, none⟩) 0 0) (.slice (some ⟨ks.b, 0, none⟩) 4 ks.cap) (by simp [Act.eval]) (by simp [Act.eval]) HR1.out ?_
              refine hK.out _ _ ?_ (fun hHeld => ?_)
              · trivial
              clear hK K
              try simp only [Act.put, List.getElem_toArray, List.getElem_cons_zero, List.getElem_cons_succ, List.setIfInBounds_toArray, List.set_cons_zero, List.set_cons_succ]
              refine wpAnyH_ready (rs := [6]) (by kernel_rfl) (by simp) ?_
              refine AllReadyH.cons rfl (fun K hK => ?_) AllReadyH.nil
              refine step_append_known rfl (.tmp 60) (.tmp 62) 32 32 rfl (.slice (some ⟨g1, 0, none⟩) 4 cap1) (.slice (some ⟨kb, koff + 4, none⟩) (sl - 4) (sc - 4)) (by simp [Act.eval]) (by simp [Act.eval]) HR2.out ?_
              refine hK.out _ _ ?_ (fun hHeld => ?_)
              · trivial
              clear hK K
              try simp only [Act.put, List.getElem_toArray, List.getElem_cons_zero, List.getElem_cons_succ, List.setIfInBounds_toArray, List.set_cons_zero, List.set_cons_succ]
              refine wpAnyH_take (i := 7) (v := ?_) rfl (by kernel_rfl) (by kernel_rfl) (by kernel_rfl) (fun _ _ _ h => h) (Or.inl ⟨by rfl, ?_⟩) (by assumption) ?_
              rotate_left
              · (intro w hSw; (try dsimp only at hSw); go_simp; try with_reducible rfl)
              simp only [Act.put, List.getElem_toArray, List.getElem_cons_zero, List.getElem_cons_succ, List.setIfInBounds_toArray, List.set_cons_zero, List.set_cons_succ]
              refine wpAnyH_done (by kernel_rfl) ?_ _
              go_upto_region 11 with fail
              refine wp_region_held_drew (S := (fun w' => (convert 32 9 (.slice (some ⟨ks.b, 0, none⟩) kl ks.cap)).run Try.prog w' = .ok (.string A) w')) (by kernel_rfl) ?_ (fun hHeld => ?_)
              · exact HCV0.out
              refine wpAnyH_take (i := 0) (v := ?_) rfl (by kernel_rfl) (by kernel_rfl) (by kernel_rfl) (fun _ _ _ h => h) (Or.inl ⟨by rfl, ?_⟩) (by assumption) ?_
              rotate_left
              · (intro w hSw; (try dsimp only at hSw); go_simp; try with_reducible rfl)
              simp only [Act.put, List.getElem_toArray, List.getElem_cons_zero, List.setIfInBounds_toArray, List.set_cons_zero, List.set_cons_succ]
              refine wpAnyH_take (i := 3) (v := ?_) rfl (by kernel_rfl) (by kernel_rfl) (by kernel_rfl) (fun _ _ _ h => h) (Or.inl ⟨by rfl, ?_⟩) (by assumption) ?_
              rotate_left
              · (intro w hSw; (try dsimp only at hSw); go_simp; try with_reducible rfl)
              simp only [Act.put, List.getElem_toArray, List.getElem_cons_zero, List.getElem_cons_succ, List.setIfInBounds_toArray, List.set_cons_zero, List.set_cons_succ]
              refine wpAnyH_take (i := 4) (v := ?_) rfl (by kernel_rfl) (by kernel_rfl) (by kernel_rfl) (fun _ _ _ h => h) (Or.inl ⟨by rfl, ?_⟩) (by assumption) ?_
              rotate_left
              · (intro w hSw; (try dsimp only at hSw); go_simp; try with_reducible rfl)
              simp only [Act.put, List.getElem_toArray, List.getElem_cons_zero, List.getElem_cons_succ, List.setIfInBounds_toArray, List.set_cons_zero, List.set_cons_succ]
              refine wpAnyH_ready (rs := [1]) (by kernel_rfl) (by simp) ?_
              refine AllReadyH.cons rfl (fun K hK => ?_) AllReadyH.nil
              simp only [List.getElem_toArray, List.getElem_cons_zero, List.getElem_cons_succ]
              go_simp
              refine Calls.mono H5.out ?_; rintro e w8 ⟨⟨v8, rfl, hO8⟩, ht8⟩
              go_wp2_with fail
              refine hK.out _ _ ?_ (fun hHeld => ?_)
              · exact (HKA.out w8 ht8).1
              clear hK K
              try simp only [Act.put, List.getElem_toArray, List.getElem_cons_zero, List.getElem_cons_succ, List.setIfInBounds_toArray, List.set_cons_zero, List.set_cons_succ]
              obtain ⟨k8, rfl, hk8b, hk8A, _⟩ := hO8.key HC8.out.1 HC8.out.2.1 HC8.out.2.2
              have hcv8 := hk8A.key.conv k8.cap
              rw [hk8b] at hcv8
              have ev8 : k8.v = .slice (some ⟨k8.b, 0, none⟩) c8.length k8.cap := by unfold KS.v; rw [hk8b]
              rw [ev8]
              generalize hB8 : strOfNums c8 = B at *
              refine wpAnyH_ready (rs := [2]) (by kernel_rfl) (by simp) ?_
              refine AllReadyH.cons rfl (fun K hK => ?_) AllReadyH.nil
              simp only [List.getElem_toArray, List.getElem_cons_zero, List.getElem_cons_succ]
              go_simp
              refine hK.out _ _ ?_ (fun hHeld => ?_)
              · exact hHeld
              clear hK K
              try simp only [Act.put, List.getElem_toArray, List.getElem_cons_zero, List.getElem_cons_succ, List.setIfInBounds_toArray, List.set_cons_zero, List.set_cons_succ]
              refine wpAnyH_take (i := 5) (v := ?_) rfl (by kernel_rfl) (by kernel_rfl) (by kernel_rfl) (fun _ _ _ h => h) (Or.inl ⟨by rfl, ?_⟩) (by assumption) ?_
              rotate_left
              · (intro w hSw; (try dsimp only at hSw); go_simp; try with_reducible rfl)
              simp only [Act.put, List.getElem_toArray, List.getElem_cons_zero, List.getElem_cons_succ, List.setIfInBounds_toArray, List.set_cons_zero, List.set_cons_succ]
              refine wpAnyH_done (by kernel_rfl) ?_ _
              have HT8 := toHid (HKA.out w8 ht8).2
              cases eqb with
              | true =>
                have hq8 : c8 = ks.bs := beq_iff_eq.1 HEQ.out
                have HN : Hid ((k : Int) = idxI (longTo x.p.slots bs (k + 1)) ∧ Touch [] w w8) := by
                  refine ⟨?_, HT8.out⟩
                  rw [HSTP.out, if_pos hq8]
                  rfl
                clear HSTP HKA HCV0 hcv8 ht8 hO8 hk8A hk8b ev8 hq8 hB8 hcl7 hA' hklen hbl HC8 HIZ HEQ
                go_wp2
                go_roundw
                case rel => exact ⟨k + 1, by omega, by go_num, (k : Int), rfl, HN⟩
                case measure => simp [intOf]; omega
              | false =>
                have hq8 : ¬ c8 = ks.bs := fun e => by
                  have h1 := HEQ.out
                  rw [beq_iff_eq.2 e] at h1
                  cases h1
                have HN : Hid (z = idxI (longTo x.p.slots bs (k + 1)) ∧ Touch [] w w8) := by
                  refine ⟨?_, HT8.out⟩
                  rw [HSTP.out, if_neg hq8]
                  exact HIZ.out
                clear HSTP HKA HCV0 hcv8 ht8 hO8 hk8A hk8b ev8 hq8 hB8 hcl7 hA' hklen hbl HC8 HIZ HEQ
                go_wp2
                go_roundw
                case rel => exact ⟨k + 1, by omega, by go_num, z, rfl, HN⟩
                case measure => simp [intOf]; omega
      · obtain rfl : n = k := by omega
        have hR := HH.out.1.touch HI.out.2 (by simp)
        generalize hao : longTo x.p.slots bs n = ao at *
        have hzo := HI.out.1
        have hal : idxI ao < (x.whens.length : Int) := by
          have hle := HH.out.2.1.lens
          have hnn := HNN.out
          cases ao with
          | none => show (-1 : Int) < _; omega
          | some i =>
            have := (longTo_some hao).1
            show (i : Int) < _
            omega
        have H3 := toHid (touch_any hR (idxI ao) hal HH.out.2.1.clock0 (by have := HH.out.2.1.clock1; omega))
        rw [← hzo] at H3
        have HP2 : Hid (pr = (ao, x.p.touch ao)) := by
          have h1 := HV.out
          rw [HPL.out, hao] at h1
          exact h1
        have HZO := toHid (And.intro hzo HI.out.2)
        clear hao hzo hal hR HI HV
        go_wp2_with fail
        refine Calls.mono H3.out ?_
        rintro e w4 ⟨rfl, hr4, ht4⟩
        rw [HZO.out.1] at hr4
        have HF : Hid (∃ x', Step w w4 x x' (x.p.touch ao)) := ⟨_, Step.touched HZO.out.2 ao hr4 ht4⟩
        clear hr4 ht4 H3
        go_wp2
        go_ret
        rw [HP2.out]
        exact ⟨by rw [← HZO.out.1]; rfl, HF.out⟩
  · have hf2 : fits3 x bs = false := by simpa using hf
    rw [hf2] at H1
    rw [show x.p.find3 bs = (none, x.p) from if_neg (by rw [hfe]; exact hf)]
    have HH := toHid h
    clear h u hk hk3 hf hf2 hfe hlen hs1 hs2
    go_enter Try.func21, Try.ntmps21
    go_wp2_with fail
    refine Calls.mono H1.out ?_
    rintro e w2 ⟨rfl, ht2⟩
    have HF : Hid (∃ x', Step w w2 x x' x.p) := ⟨x, Step.refl HH.out ht2⟩
    clear ht2 H1
    go_wp2
    go_ret
    exact ⟨rfl, HF.out⟩
end Go.Proofs.Ytlkbaconlngmjaa
