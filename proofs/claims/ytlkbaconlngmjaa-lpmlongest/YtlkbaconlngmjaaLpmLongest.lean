/-
  For every input LpmLongest returns true. (The walk.)
-/
import Derived.Test.YtlkbaconlngmjaaKeysIn
import Derived.Deep.RegionHeld3
namespace Go.Proofs.Ytlkbaconlngmjaa
open Go.RowKit Go.Deep

theorem stA_zero (n : Nat) (ks : List (List Int)) (bs : List Int) : stA n ks bs 0 = none := by
  unfold stA
  split <;> rfl
/-- Each key is one in form. -/
theorem TOwn.form {w0 w : World} {X n m : Nat} {ks : List (List Int)} {A : List Nat} (h : TOwn w0 w X n m (compL ks) A) {k : Nat} (hk : k < ks.length) : ∃ p : List Bool, p.length ≤ 8 * n ∧ ks[k] = keyP p n := by
  obtain ⟨⟨T, h1, _⟩, _, _⟩ := h
  exact h1.tied.form _ (List.mem_of_getElem? (compL_get hk))
/-- The lowest bit of what differs. -/
theorem xor_and (x y : Int) (s : Nat) (x0 : 0 ≤ x) (x1 : x ≤ 255) (y0 : 0 ≤ y) (y1 : y ≤ 255) : bits .and .u8 (bits .xor .u8 x y / 2 ^ s) 1 = bits .xor .u8 x y / 2 ^ s % 2 := by
  obtain ⟨A, rfl⟩ := Int.eq_ofNat_of_zero_le x0
  obtain ⟨B, rfl⟩ := Int.eq_ofNat_of_zero_le y0
  rw [u8_xor_nat A B (by omega) (by omega)]
  have h1 : A ^^^ B < 2 ^ 8 := Nat.xor_lt_two_pow (by omega) (by omega)
  have e : ((A ^^^ B : Nat) : Int) / 2 ^ s = (((A ^^^ B) / 2 ^ s : Nat) : Int) := by
    rw [Int.natCast_ediv, Int.natCast_pow]
    rfl
  have h2 : (A ^^^ B) / 2 ^ s ≤ A ^^^ B := Nat.div_le_self _ _
  have h3 := u8_and_nat ((A ^^^ B) / 2 ^ s) 1 (by omega) (by omega)
  rw [e]
  have h4 : ((1 : Nat) : Int) = 1 := rfl
  rw [h4] at h3
  rw [h3, Nat.and_one_is_mod]
  omega
theorem stA_none {n : Nat} {ks : List (List Int)} {bs : List Int} (h : fitsK bs n = false) (k : Nat) : stA n ks bs (k + 1) = stA n ks bs k := by rw [stA_no h, stA_no h]
theorem KeyC.Ok.touch {w w' : World} {k : KeyC} (h : k.Ok w) (ht : Touch [] w w') : k.Ok w' := ⟨h.key.touch ht, h.cap⟩
set_option maxHeartbeats 8000000 in
set_option maxRecDepth 100000 in
theorem lpmLongest_walk (size : Int) (sa : Option Addr) (n c : Nat) (f : Nat → KeyC) (sk : Option Addr) (kl kc : Nat) (bs : List Int) (w : World) (hs : KeysIn w sa n f) (hn : n ≤ 9223372036854775807) (hnc : n ≤ c) (hk : KeyAt w sk kl bs) (hkc : kl ≤ kc) :
    Calls Try.prog 5 #[.int .i64 size, .slice sa n c, .slice sk kl kc] w fun e w' => e = .returned (.bool true) ∧ Touch [] w w' := by
  have HS := toHid hs
  have HK := toHid (And.intro hk hkc)
  clear hs hk hkc
  by_cases hm : 5 ≤ size ∧ size ≤ 16
  · obtain ⟨N, hN4⟩ := Int.eq_ofNat_of_zero_le (show 0 ≤ size - 4 by omega)
    obtain rfl : size = (N : Int) + 4 := by omega
    have hN12 : N ≤ 12 := by omega
    have hN1 : 1 ≤ N := by omega
    have HN := toHid (fun w2 ht => TOwn.new w w2 ht N 16 hN1 hN12 (by omega) (by omega))
    rw [show ((16 : Nat) : Int) = 16 from rfl] at HN
    clear hN4
    go_enter Try.func5, Try.ntmps5
    go_wp2_with fail
    refine (first_any _).mono ?_
    rintro e w2 ⟨rfl, ht2⟩
    have H1 := toHid (HN.out w2 ht2)
    clear ht2 HN
    go_wp2_with fail
    refine Calls.mono H1.out ?_
    rintro e w3 ⟨X, rfl, hA, _⟩
    have HA : Hid (∃ ks, TOwn w w3 X N 16 (compL ks) [] ∧ ks.length ≤ 16) := ⟨[], hA, by simp⟩
    clear hA H1
    go_upto_region 6 with fail
    go_cut [44, 45, 46, 47] from 41 to 47 (fun z a b i wx => ∃ h : Nat, h ≤ n ∧ h ≤ 20 ∧ z = .int .i64 h ∧ a = .slice sa h c ∧ b = .int .i64 h ∧ i = .int .i64 0 ∧ wx = w3)
    case first =>
      go_wp2
      all_goals
        go_meet
        first
          | exact ⟨n, Nat.le_refl _, by omega, rfl, rfl, rfl, rfl, rfl⟩
          | exact ⟨20, by omega, Nat.le_refl _, rfl, rfl, rfl, rfl, rfl⟩
    case rest =>
      obtain ⟨h, hh1, hh2, rfl, rfl, rfl, rfl, rfl⟩ := hcut
      go_wp2_with fail
      go_loopw [47] (fun i w' => ∃ k : Nat, k ≤ h ∧ i = .int .i64 k ∧ Hid (∃ ks, TOwn w w' X N 16 (compL ks) [] ∧ ks.length ≤ 16)) (fun i _ => h - (intOf i).toNat)
      case atStart => exact ⟨0, by omega, rfl, HA⟩
      case round =>
        clear HA
        obtain ⟨k, hk, rfl, HI⟩ := hrel
        obtain ⟨ks, hA, hks⟩ := HI.out
        by_cases hlt : k < h
        · obtain ⟨bb, off, hsa, hcell⟩ := HS.out.at_ (show k < n by omega)
          subst hsa
          obtain ⟨ok, c0⟩ := hcell k (by omega)
          replace c0 := hA.touch.cell c0 (by simp)
          have hok := ok.touch hA.touch
          have hkn : (k : Int) < h := by omega
          generalize f k = o at *
          have H1 := toHid (hA.put hok.key o.sc hok.cap 0 (by omega))
          obtain ⟨ks', hp1, hp2⟩ := put_comp N hks o.bs
          rw [hp1] at H1
          clear hA HI hks hcell ok hok
          go_wp2_with fail
          refine Calls.mono H1.out ?_
          rintro e w5 ⟨rfl, hA5, _⟩
          have HNX : Hid (∃ ks, TOwn w w5 X N 16 (compL ks) [] ∧ ks.length ≤ 16) := ⟨ks', hA5, hp2⟩
          clear hA5 H1 hp1 hp2
          go_wp2
          go_roundw
          case rel => exact ⟨k + 1, by omega, by go_num, HNX⟩
          case measure => simp [intOf]; omega
        · obtain rfl : k = h := by omega
          have H1 := toHid hA.keys
          rw [keysP_comp] at H1
          have HAK := toHid (And.intro hA hks)
          clear hA HI hks
          go_wp2_with fail
          refine Calls.mono H1.out ?_
          rintro e w6 ⟨⟨v, rfl, g, cap, kl2, rfl, hKL, hkm⟩, ht6⟩
          have hlk : kl2.length = ks.length := by have := congrArg List.length hkm; rw [List.length_map] at this; exact this
          obtain ⟨L, hL⟩ : ∃ L, kl2.length = L := ⟨_, rfl⟩
          have hL16 : L ≤ 16 := by have := HAK.out.2; omega
          have HKL := toHid (And.intro hKL (And.intro hkm (And.intro hL ht6)))
          have HFM : Hid (∀ k, k < L → ∃ p : List Bool, p.length ≤ 8 * N ∧ ks[k]? = some (keyP p N)) := fun k hk => by
            have hk2 : k < ks.length := by omega
            obtain ⟨p, h1, h2⟩ := HAK.out.1.form hk2
            exact ⟨p, h1, by rw [List.getElem?_eq_getElem hk2, h2]⟩
          have HKW := toHid (HK.out.1.touch (HAK.out.1.touch.trans ht6 (by simp)))
          have hbs := HK.out.1.2.1
          rw [hL]
          unfold slV
          generalize hsg : (g.map fun b => (⟨b, 0, none⟩ : Addr)) = sg
          have HSG := toHid hsg
          have HLL : Hid (ks.length = L) := by show ks.length = L; omega
          clear hKL hkm hsg ht6 hlk hL H1
          go_wp2_with fail
          go_loopw [11, 12, 59] (fun bst at_ i w' => ∃ k : Nat, k ≤ L ∧ i = .int .i64 k ∧ bst = .int .i64 (bestI (compL ks) (stA N ks bs k)) ∧ at_ = .int .i64 (idxI (stA N ks bs k)) ∧ Hid (Touch [] w6 w')) (fun _ _ i _ => L - (intOf i).toNat)
          case atStart => exact ⟨0, by omega, rfl, by rw [stA_zero]; rfl, by rw [stA_zero]; rfl, Touch.refl _ _⟩
          case round =>
            obtain ⟨q, hq, rfl, rfl, rfl, HT⟩ := hrel
            by_cases hlq : q < L
            · obtain ⟨p, hp8, hpq⟩ := HFM.out q hlq
              have hKLr := HKL.out.1.touch HT.out (by simp)
              obtain ⟨gb, y, hgb, hy, hcell, hyA⟩ := hKLr.at_ (j := q) (by rw [HKL.out.2.2.1]; exact hlq)
              have hyb : y.bs = keyP p N := by
                have h1 := congrArg (fun l => l[q]?) HKL.out.2.1
                simp only [List.getElem?_map, hy, Option.map_some] at h1
                rw [hpq] at h1
                injection h1
              have hyl : y.bs.length = N + 4 := by rw [hyb, keyP_len]
              have hsg := HSG.out
              rw [hgb, Option.map_some] at hsg
              subst hsg
              unfold KS.v at hcell
              rw [hyl] at hcell
              have hkr := HKW.out.touch HT.out
              have hkl := hkr.1
              have HY := toHid (And.intro hyA (And.intro hyb (And.intro hyl hkr)))
              have hgd : (compL ks).getD q none = some (keyP p N) := by
                have hqk : q < ks.length := by rw [HLL.out]; exact hlq
                rw [List.getD_eq_getElem?_getD, compL_get hqk]
                rw [List.getElem?_eq_getElem hqk] at hpq
                injection hpq with hpq
                rw [hpq]
                rfl
              have HGD := toHid hgd
              clear hKLr hgb hy hyA hyb hyl hkr hpq hgd
              by_cases hkN : kl = N + 4
              · have H2 := toHid (llength_any HY.out.1.key (by rw [HY.out.2.2.1]; omega) y.cap)
                rw [HY.out.2.2.1] at H2
                have H3 := toHid (llength_any HY.out.2.2.2 (by rw [← hkl, hkN]; omega) kc)
                have hly := (lengthI_num (bs := y.bs) HY.out.1.2.1 N hN12).1 (by rw [HY.out.2.1, keyNum_key p N (by omega)]; omega)
                rw [hly, HY.out.2.1, keyNum_key p N (by omega)] at H2
                have hnum := lengthI_num (bs := bs) hbs N hN12
                have hlb := lengthI_bd (bs := bs) hbs
                subst hkN
                have HKB := toHid hkl
                clear hly hkl
                by_cases hfit : keyNum bs ≤ 8 * (N : Int)
                · have hfk : fitsK bs N = true := by simp [fitsK, hfit, ← HKB.out]
                  have hst := stA_succ (ks := ks) hfk q
                  rw [hnum.1 hfit] at H3
                  have hkb := keyNum_bd hbs
                  obtain ⟨M, hM⟩ : ∃ M : Nat, keyNum bs = M := ⟨(keyNum bs).toNat, by omega⟩
                  have HMM := toHid hM
                  rw [hM] at H3
                  by_cases hPM : M < p.length
                  · have hst2 := hst.trans (longStep_no HGD.out (by rw [keyNum_key p N (by omega), hM]; omega))
                    have HNX : Hid (stA N ks bs (q + 1) = stA N ks bs q) := hst2
                    have hPM2 : (M : Int) < p.length := by omega
                    generalize stA N ks bs q = a at *
                    generalize hba : bestI (compL ks) a = ba at *
                    generalize hia : idxI a = ia at *
                    have HBA := toHid hba
                    have HIA := toHid hia
                    clear hba hia
                    have hpi : (p.length : Int) ≤ 8 * N := by omega
                    generalize hPP : p.length = P at *
                    clear hPP hst hst2 hkb hM hnum hfk hPM
                    go_wp2_with fail
                    refine Calls.mono H2.out ?_
                    rintro e wr ⟨rfl, rfl⟩
                    go_wp2_with fail
                    refine Calls.mono H3.out ?_
                    rintro e wr ⟨rfl, rfl⟩
                    clear H2 H3
                    go_wp2
                    go_roundw
                    case rel => exact ⟨q + 1, by omega, by go_num, by rw [HNX.out, HBA.out], by rw [HNX.out, HIA.out], HT⟩
                    case measure => simp [intOf]; omega
                  · have hst2 := hst.trans (longStep_yes HGD.out (by rw [← HKB.out]) hbs hp8 (by rw [hM]; omega) (by omega) hfit)
                    have HNX := toHid hst2
                    have hpi : (p.length : Int) ≤ 8 * N := by omega
                    have hPMi : (p.length : Int) ≤ M := by omega
                    have hMi : (M : Int) ≤ 8 * N := by omega
                    have HP8 : Hid (p.length ≤ 8 * N ∧ bs.length = N + 4) := ⟨hp8, by rw [← HKB.out]⟩
                    generalize hPP : p.length = P at *
                    have HPP := toHid hPP
                    clear hst hst2 hkb hM hnum hfk hPM hPP hfit
                    go_wp2_with fail
                    refine Calls.mono H2.out ?_
                    rintro e wr ⟨rfl, rfl⟩
                    go_wp2_with fail
                    refine Calls.mono H3.out ?_
                    rintro e wr ⟨rfl, rfl⟩
                    clear H2 H3
                    go_wp2_with fail
                    have hyc := HY.out.1.key
                    generalize hwq : wr = w9 at *
                    clear hwq hcell
                    go_loopw [18, 19] (fun bg b w' => ∃ j : Nat, j ≤ P ∧ b = .int .i64 j ∧ bg = .bool (begB (keyP p N) bs j) ∧ Hid (Touch [] w9 w')) (fun _ b _ => P - (intOf b).toNat)
                    case atStart => exact ⟨0, by omega, rfl, rfl, Touch.refl _ _⟩
                    case round =>
                      obtain ⟨j, hj, rfl, rfl, HJ⟩ := hrel
                      by_cases hltj : j < P
                      · have hj8 : 4 + j / 8 < N + 4 := by have := HP8.out.1; have := HPP.out; omega
                        obtain ⟨kb, off, hsk, _, hcell⟩ := HY.out.2.2.2.cut4 (by rw [HP8.out.2]; omega)
                        subst hsk
                        have c1 := HJ.out.cell (HY.out.1.cell (4 + j / 8) (by rw [HY.out.2.2.1]; exact hj8)) (by simp)
                        have c2 := HJ.out.cell (hcell (4 + j / 8) (by rw [HP8.out.2]; exact hj8)) (by simp)
                        rw [HY.out.2.1] at c1
                        have hv1 := getD_bd (keyP_bd p N) (4 + j / 8)
                        have hv2 := getD_bd hbs (4 + j / 8)
                        have hxb := xor_bit _ _ (7 - j % 8) hv1.1 hv1.2 hv2.1 hv2.2
                        have hbj : begB (keyP p N) bs (j + 1) = (begB (keyP p N) bs j && decide ((keyP p N).getD (4 + j / 8) 0 / 2 ^ (7 - j % 8) % 2 = bs.getD (4 + j / 8) 0 / 2 ^ (7 - j % 8) % 2)) := begB_succ _ _ _
                        rw [← hxb] at hbj
                        have HBJ := toHid hbj
                        generalize (keyP p N).getD (4 + j / 8) 0 = yv at *
                        generalize bs.getD (4 + j / 8) 0 = kv at *
                        have e1 : ((j : Int) / 8) = ((j / 8 : Nat) : Int) := by omega
                        have e2 : ((j : Int) % 8) = ((j % 8 : Nat) : Int) := by omega
                        have hm8 : j % 8 < 8 := Nat.mod_lt _ (by omega)
                        generalize hd : j / 8 = d at *
                        generalize hm : j % 8 = m at *
                        have hltji : (j : Int) < P := by omega
                        have hj8i : (4 : Int) + d < N + 4 := by omega
                        clear hxb hbj hcell
                        cases hbg : begB (keyP p N) bs j with
                        | true =>
                          rw [hbg] at HBJ
                          clear hbg
                          go_wp2_with fail
                          go_quiet (fail)
                          go_wp2_with fail
                          refine ⟨⟨j + 1, by omega, by go_num, ?_, HJ.out.drewN nq⟩, by simp [intOf]; omega⟩
                          rw [HBJ.out, xor_and _ _ _ hv1.1 hv1.2 hv2.1 hv2.2]
                          rfl
                        | false =>
                          rw [hbg] at HBJ
                          clear hbg
                          go_wp2_with fail
                          go_quiet (fail)
                          go_wp2_with fail
                          refine ⟨⟨j + 1, by omega, by go_num, ?_, HJ.out.drewN nq⟩, by simp [intOf]; omega⟩
                          rw [HBJ.out]
                          rfl
                      · obtain rfl : j = P := by omega
                        have HT2 := toHid (HT.out.trans HJ.out (by simp))
                        have HBK : Hid (bestI (compL ks) (some q) = j) := by
                          show keyNum (((compL ks).getD q none).getD []) = j
                          rw [HGD.out]
                          show keyNum (keyP p N) = j
                          rw [keyNum_key p N (by have := HP8.out.1; have := HPP.out; omega), HPP.out]
                        have HNX' : stA N ks bs (q + 1) = if (begB (keyP p N) bs j && decide (bestI (compL ks) (stA N ks bs q) < (j : Int))) = true then some q else stA N ks bs q := HNX.out
                        clear HT HJ HNX
                        cases hbg : begB (keyP p N) bs j with
                        | false =>
                          rw [hbg, Bool.false_and, if_neg (by decide)] at HNX'
                          have HNY := toHid HNX'
                          clear hbg HNX'
                          generalize stA N ks bs q = a at *
                          generalize hba : bestI (compL ks) a = ba at *
                          generalize hia : idxI a = ia at *
                          have HBA := toHid hba
                          have HIA := toHid hia
                          clear hba hia
                          go_wp2
                          go_roundw
                          case rel => exact ⟨q + 1, by omega, by go_num, by rw [HNY.out, HBA.out], by rw [HNY.out, HIA.out], HT2⟩
                          case measure => simp [intOf]; omega
                        | true =>
                          rw [hbg, Bool.true_and] at HNX'
                          by_cases hlb2 : bestI (compL ks) (stA N ks bs q) < (j : Int)
                          · rw [decide_eq_true hlb2, if_pos rfl] at HNX'
                            have HNY := toHid HNX'
                            clear hbg HNX'
                            generalize stA N ks bs q = a at *
                            generalize hba : bestI (compL ks) a = ba at *
                            generalize hia : idxI a = ia at *
                            clear hba hia
                            go_wp2
                            go_roundw
                            case rel => exact ⟨q + 1, by omega, by go_num, by rw [HNY.out, HBK.out], by rw [HNY.out]; rfl, HT2⟩
                            case measure => simp [intOf]; omega
                          · rw [decide_eq_false hlb2, if_neg (by decide)] at HNX'
                            have HNY := toHid HNX'
                            clear hbg HNX'
                            generalize stA N ks bs q = a at *
                            generalize hba : bestI (compL ks) a = ba at *
                            generalize hia : idxI a = ia at *
                            have HBA := toHid hba
                            have HIA := toHid hia
                            clear hba hia
                            go_wp2
                            go_roundw
                            case rel => exact ⟨q + 1, by omega, by go_num, by rw [HNY.out, HBA.out], by rw [HNY.out, HIA.out], HT2⟩
                            case measure => simp [intOf]; omega
                · have hfk : fitsK bs N = false := by simp [fitsK, hfit]
                  have hst := stA_none (ks := ks) hfk q
                  have hm8 := hnum.2 hfit
                  have HNX := toHid hst
                  generalize lengthI bs = M at *
                  have hpi : (p.length : Int) ≤ 8 * N := by omega
                  generalize hPP : p.length = P at *
                  clear hPP hst hnum hfk hfit
                  go_wp2_with fail
                  refine Calls.mono H2.out ?_
                  rintro e wr ⟨rfl, rfl⟩
                  go_wp2_with fail
                  refine Calls.mono H3.out ?_
                  rintro e wr ⟨rfl, rfl⟩
                  clear H2 H3
                  go_wp2
                  go_roundw
                  case rel => exact ⟨q + 1, by omega, by go_num, by rw [HNX.out], by rw [HNX.out], HT⟩
                  case measure => simp [intOf]; omega
              · have hs : ((kl : Int) != N + 4) = true := by simp; omega
                have HKB := toHid hkl
                have hfk : fitsK bs N = false := by simp [fitsK]; intro h9; omega
                have HNX := toHid (stA_none (ks := ks) hfk q)
                clear hkN hfk
                go_wp2
                go_roundw
                case rel => exact ⟨q + 1, by omega, by go_num, by rw [HNX.out], by rw [HNX.out], HT⟩
                case measure => simp [intOf]; omega
            · obtain rfl : q = L := by omega
              have H1 := toHid ((HAK.out.1.still (HKL.out.2.2.2.trans HT.out (by simp))).find (HKW.out.touch HT.out) kc HK.out.2)
              rw [stA_end HAK.out.2, HLL.out] at H1
              have HT9 := toHid (HAK.out.1.touch.trans (HKL.out.2.2.2.trans HT.out (by simp)) (by simp))
              generalize stA N ks bs q = a at *
              clear HT
              cases a with
              | none =>
                unfold fV Option.getD Option.isSome at H1
                unfold idxI bestI
                go_wp2_with fail
                refine Calls.mono H1.out ?_
                rintro e w9 ⟨rfl, ht9⟩
                have HF := toHid (HT9.out.trans ht9 (by simp))
                clear ht9 H1 HT9
                go_wp2
                go_ret
                exact ⟨rfl, HF.out⟩
              | some s =>
                unfold fV Option.getD Option.isSome at H1
                unfold idxI
                generalize bestI (compL ks) (some s) = ba
                go_wp2_with fail
                refine Calls.mono H1.out ?_
                rintro e w9 ⟨rfl, ht9⟩
                have HF := toHid (HT9.out.trans ht9 (by simp))
                clear ht9 H1 HT9
                go_wp2
                go_ret
                exact ⟨rfl, HF.out⟩
  · have HN := toHid (fun w2 => inew_bad w2 size 16 (fun h => hm ⟨h.2.2.1, h.2.2.2⟩))
    have hlt : size < 5 ∨ 16 < size := by omega
    clear hm
    go_enter Try.func5, Try.ntmps5
    go_wp2_with fail
    refine (first_any _).mono ?_
    rintro e w2 ⟨rfl, ht2⟩
    have HT2 := toHid ht2
    clear ht2
    go_wp2_with fail
    refine Calls.mono (HN.out w2) ?_
    rintro e w3 ⟨rfl, rfl⟩
    rcases hlt with hlt | hlt
    · go_wp2
      go_ret
      exact ⟨rfl, HT2.out⟩
    · go_wp2
      go_ret
      exact ⟨rfl, HT2.out⟩
end Go.Proofs.Ytlkbaconlngmjaa
