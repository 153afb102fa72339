/-
  For every input FormWalks returns true, and each argument reads afterwards as it read before. No conditions. (The walk.)
-/
import Derived.Test.YtpoliblfgioocaaFirst
import Derived.Test.YtpoliblfgioocaaFit
namespace Go.Proofs.Ytpoliblfgioocaa
open Go.RowKit

set_option maxHeartbeats 16000000 in
set_option maxRecDepth 100000 in
theorem formWalks_walk (sa : Option Addr) (n c : Nat) (f : Nat → In) (w : World) (h : ListAt w sa n f) (hn : n * 12 ≤ 140737488355328) :
    Calls Try.prog 5 #[.slice sa n c] w fun e w' => e = .returned (.bool true) ∧ Touch [] w w' := by
  have HS := toHid h
  clear h
  go_enter Try.func5, Try.ntmps5
  go_wp2_with fail
  refine (first_any w).mono ?_
  rintro e w2 ⟨rfl, ht2⟩
  have HT2 := toHid ht2
  have HL2 := toHid (HS.out.touch ht2 (by simp))
  clear ht2 HS
  go_wp2_with fail
  refine Calls.mono (check_any sa n c f w2 HL2.out (by omega)) ?_
  rintro e w3 ⟨rfl, ht3⟩
  have HT3 := toHid (HT2.out.trans ht3 (by simp))
  have HL3 := toHid (HL2.out.touch ht3 (by simp))
  clear ht3 HL2 HT2
  simp only [checkV]
  by_cases hg : (checkP f n).2 = 0
  · have hg2 := good_of hg
    have hpos : 0 < n := hg2.1
    have hle : n ≤ 256 := hg2.2.1
    have HFIT := toHid (fun k m hk hm => fit_of (k := k) (m := m) hg hk hm)
    have hpl := parts_len f n
    have HPP := toHid (parts_pair f n)
    have HP0 := toHid (parts_zero (f := f) hpos)
    have HPL := toHid (fun x (hx : x ∈ partsL f n) => parts_lt hx)
    have b0 : ((checkP f n).2 != 0) = false := by simpa using hg
    clear hg2
    generalize checkP f n = cp at *
    clear hg
    go_wp2_with fail
    refine Calls.mono (starts_any sa n c f w3 HL3.out (by omega)) ?_
    rintro e w4 ⟨rfl, hB, ht4⟩
    have HT4 := toHid (HT3.out.trans ht4 (by simp))
    have HL4 := toHid (HL3.out.touch ht4 (by simp))
    have HB4 := toHid hB
    clear ht4 hB HL3 HT3
    generalize w3.heap.size = B at *
    go_wp2_with fail
    refine Calls.mono (partsX_any sa n c f w4 HL4.out (by omega)) ?_
    rintro e w5 ⟨⟨v, rfl, g1, cap1, rfl, hN1, _⟩, ht5⟩
    have HT5 := toHid (HT4.out.trans ht5 (by simp))
    have HL5 := toHid (HL4.out.touch ht5 (by simp))
    have HB5 := toHid (ht5.blk HB4.out (by simp))
    have HP5 := toHid hN1
    clear ht5 hN1 HL4 HT4 HB4
    have HTG : Hid (∀ k, k ∈ begL f n → targetP f n k = tgtP f n k) := toHid (fun k hk => by
      rw [targetP, Int.toNat_natCast, if_pos ⟨by omega, by have := begL_lt hk; omega, by simpa [startsB, inB] using hk⟩])
    have HST : Hid (∀ k, startsB f n k = true → k ∈ begL f n) := toHid (fun k hk => by simpa [startsB, inB] using hk)
    generalize startsB f n = st at *
    generalize partsL f n = ps at *
    cases g1 with
    | none =>
      have := HP5.out.none
      have h0 := HP0.out
      rw [this] at h0
      cases h0
    | some bp =>
      simp only [slV, Option.map_some]
      go_wp2_with fail
      go_loopw [7, 28] (fun v t w' => ∃ (k : Nat), k ≤ n ∧ t = .int .i64 k ∧ v = .int .i64 (pidx ps ((k : Int) - 1)) ∧ Hid (Touch [] w5 w')) (fun _ t _ => n - (intOf t).toNat)
      case atStart => exact ⟨0, by omega, rfl, by rw [show ((0 : Nat) : Int) - 1 = -1 from rfl, pidx_low], toHid (Touch.refl _ _)⟩
      case round =>
        obtain ⟨k, hk, rfl, rfl, HJ⟩ := hrel
        by_cases hlt : k < n
        · have z1 : (k : Int) < (n : Int) := by omega
          have hst := pidx_step HPP.out k
          have hnn := pidx_nonneg HP0.out (x := (k : Int)) (by omega)
          have hplt := pidx_lt (l := ps) (k : Int)
          have hcl := cut_upTo HPP.out ((k : Int) - 1)
          have hcle := hcl.1
          clear hcl
          obtain ⟨cc, hcc⟩ : ∃ cc, cc = (upTo ps ((k : Int) - 1)).length := ⟨_, rfl⟩
          have hpc : pidx ps ((k : Int) - 1) = (cc : Int) - 1 := by rw [hcc]; rfl
          rw [← hcc] at hst hcle
          rw [hpc] at hst ⊢
          have HLW := toHid (HL5.out.touch HJ.out (by simp))
          have HBW := toHid (HJ.out.blk HB5.out (by simp))
          have HPW := toHid (HP5.out.touch HJ.out (by simp))
          have hcs := HBW.out.cell (marks_get hlt)
          obtain ⟨b, off, rfl, hS⟩ := HLW.out.slots hlt
          have HA := toHid (hS.at_ k hlt)
          obtain ⟨c0, c1, c2, c3, c4⟩ := hS.at_ k hlt
          clear hS hcc hpc
          have hm0 : ∃ m : Nat, pidx ps k = (m : Int) := ⟨(pidx ps k).toNat, by omega⟩
          obtain ⟨m, hm⟩ := hm0
          have HM := toHid hm
          rw [hm] at hst hplt
          have hml : m < ps.length := by omega
          have zml : (m : Int) < (ps.length : Int) := by omega
          obtain ⟨y0, hy0⟩ : ∃ y0, ps[m]? = some y0 := ⟨_, List.getElem?_eq_getElem hml⟩
          clear hnn hm
          go_upto_region 11 with fail
          go_cut [44] from 31 to 44 (fun t wx => t = .bool (decide (ps[cc]? = some k)) ∧ wx = wr)
          case first =>
            clear c0 c1 c2 c3 c4 hcs
            by_cases hne : cc < ps.length
            · obtain ⟨yy, hyy⟩ : ∃ yy, ps[cc]? = some yy := ⟨_, List.getElem?_eq_getElem hne⟩
              have hcp := HPW.out.cell hyy
              have z2 : (cc : Int) < (ps.length : Int) := by omega
              have zc : (cc : Int) - 1 + 1 = (cc : Int) := by omega
              go_wp2
              all_goals go_meet
              all_goals exact ⟨congrArg Value.bool (by rw [hyy, Bool.eq_iff_iff]; simp; try omega), rfl⟩
            · have z2 : ¬ (cc : Int) < (ps.length : Int) := by omega
              have zc : (cc : Int) - 1 + 1 = (cc : Int) := by omega
              go_wp2
              go_meet
              exact ⟨congrArg Value.bool (by rw [List.getElem?_eq_none (by omega)]; simp), rfl⟩
          case rest =>
            obtain ⟨rfl, rfl⟩ := hcut
            generalize wc = wr at *
            have hst2 : (m : Int) = if decide (ps[cc]? = some k) = true then (cc : Int) else (cc : Int) - 1 := by
              rw [hst]
              by_cases hh : ps[cc]? = some k
              · rw [if_pos hh, if_pos (by simpa using hh)]
                omega
              · rw [if_neg hh, if_neg (by simpa using hh)]
            clear hst
            generalize decide (ps[cc]? = some k) = qh at *
            go_upto_if 44 with fail
            go_cut [7] from 45 to 46 (fun v wx => v = .int .i64 (m : Int) ∧ wx = wr)
            case first =>
              clear c0 c1 c2 c3 c4 hcs
              cases qh
              · simp at hst2
                rw [← hst2]
                clear hst2
                go_wp2
                go_meet
                exact ⟨rfl, rfl⟩
              · simp at hst2
                rw [← hst2]
                have zc : (m : Int) - 1 + 1 = (m : Int) := by omega
                clear hst2
                go_wp2
                go_meet
                exact ⟨rfl, rfl⟩
            case rest =>
              obtain ⟨rfl, rfl⟩ := hcut
              generalize wc = wr at *
              clear hst2
              cases hs : st k
              · rw [hs] at hcs
                clear HA hs c0 c1 c2 c3 c4
                go_wp2
                go_roundw
                case rel => exact ⟨k + 1, by omega, by go_num, by rw [show ((k + 1 : Nat) : Int) - 1 = (k : Int) by omega, HM.out], HJ⟩
                case measure => simp [intOf]; omega
              · rw [hs] at hcs
                have hbg := HST.out k hs
                have HF := toHid (HFIT.out k m hbg HM.out)
                have HTT := HTG.out k hbg
                clear hs hbg
                have hBx := Blk.newA wr #[.int .u8 (f k).op, .int .u8 (f k).dst, .int .u8 (f k).src, .int .i16 (f k).off, .int .i32 (f k).imm] (f k).cells 31 rfl
                have HX := toHid hBx
                have hta : Touch [] wr (wr.alloc (.cells #[.int .u8 (f k).op, .int .u8 (f k).dst, .int .u8 (f k).src, .int .i16 (f k).off, .int .i32 (f k).imm] 31)) := (Touch.refl _ _).alloc _
                have HTA := toHid hta
                clear hBx hta
                have HTX := toHid (fun (w' : World) (ht : Touch [] wr w') => targetX_any (some ⟨b, off, none⟩) n c k f w' (HLW.out.touch ht (by simp)) (by omega))
                rw [HTT] at HTX
                clear HTT
                obtain ⟨ft, fj, fn, fo, fs⟩ := HF.out
                have HCL : Hid (closeB (f k) = decide ((f k).op = 149 ∨ (f k).op = 5)) := toHid rfl
                cases htg : tgtP f n k with
                | none =>
                  rw [htg] at HTX
                  have ho5 := fo htg
                  clear ft fj fo fs htg HF
                  generalize f k = i at *
                  go_wp2_with fail
                  refine Calls.mono (HTX.out _ HTA.out) ?_
                  rintro e w7 ⟨rfl, ht7⟩
                  simp only [tgtV]
                  have HT7 := toHid (HTA.out.trans ht7 (by simp))
                  have x0 : w7.cell? ⟨wr.heap.size, 0, none⟩ = some (.int .u8 i.op) := (ht7.blk HX.out (by simp)).cell rfl
                  have HB7 := toHid (HT7.out.blk HBW.out (by simp))
                  have HP7 := toHid (HPW.out.touch HT7.out (by simp))
                  have HJ7 := toHid (HJ.out.trans HT7.out (by simp))
                  clear ht7 HX HTA HTX HBW HPW hcs c0 c1 c2 c3 c4
                  by_cases ho9 : i.op = 149
                  · have b9 : (i.op != 149) = false := by simpa using ho9
                    have b24 : (i.op == 24) = false := by simp; omega
                    clear ho9 ho5 fn HCL
                    go_wp2
                    go_roundw
                    case rel => exact ⟨k + 1, by omega, by go_num, by rw [show ((k + 1 : Nat) : Int) - 1 = (k : Int) by omega, HM.out], HJ7⟩
                    case measure => simp [intOf]; omega
                  · have b9 : (i.op != 149) = true := by simpa using ho9
                    have b5 : (i.op != 5) = true := by simpa using ho5
                    have hf := fn (by rw [HCL.out]; simp [ho9, ho5])
                    clear ho9 ho5 fn HCL
                    by_cases ho24 : i.op = 24
                    · have b24 : (i.op == 24) = true := by simpa using ho24
                      rw [if_pos ho24] at hf
                      obtain ⟨n1, n2, n3⟩ := hf
                      clear ho24
                      have xn := HB7.out.cell (marks_get n1)
                      rw [n2] at xn
                      have zn : ((k : Int) + 1 + 1) < (n : Int) := by omega
                      clear n1 n2
                      by_cases hm1 : m + 1 < ps.length
                      · obtain ⟨y1, hy1⟩ : ∃ y1, ps[m + 1]? = some y1 := ⟨_, List.getElem?_eq_getElem hm1⟩
                        have xy1 := HP7.out.cell hy1
                        have q1 := n3 y1 hy1
                        have zm : (m : Int) + 1 < (ps.length : Int) := by omega
                        have zq : ¬ (y1 : Int) ≤ (k : Int) + 1 + 1 := by omega
                        clear q1 n3 hy1 hm1 hy0
                        go_wp2
                        go_roundw
                        case rel => exact ⟨k + 1, by omega, by go_num, by rw [show ((k + 1 : Nat) : Int) - 1 = (k : Int) by omega, HM.out], HJ7⟩
                        case measure => simp [intOf]; omega
                      · have zm : ¬ (m : Int) + 1 < (ps.length : Int) := by omega
                        clear n3 hm1 hy0
                        go_wp2
                        go_roundw
                        case rel => exact ⟨k + 1, by omega, by go_num, by rw [show ((k + 1 : Nat) : Int) - 1 = (k : Int) by omega, HM.out], HJ7⟩
                        case measure => simp [intOf]; omega
                    · have b24 : (i.op == 24) = false := by simpa using ho24
                      rw [if_neg ho24] at hf
                      obtain ⟨n1, n2, n3⟩ := hf
                      clear ho24
                      have xn := HB7.out.cell (marks_get n1)
                      rw [n2] at xn
                      have zn : ((k : Int) + 1) < (n : Int) := by omega
                      clear n1 n2
                      by_cases hm1 : m + 1 < ps.length
                      · obtain ⟨y1, hy1⟩ : ∃ y1, ps[m + 1]? = some y1 := ⟨_, List.getElem?_eq_getElem hm1⟩
                        have xy1 := HP7.out.cell hy1
                        have q1 := n3 y1 hy1
                        have zm : (m : Int) + 1 < (ps.length : Int) := by omega
                        have zq : ¬ (y1 : Int) ≤ (k : Int) + 1 := by omega
                        clear q1 n3 hy1 hm1 hy0
                        go_wp2
                        go_roundw
                        case rel => exact ⟨k + 1, by omega, by go_num, by rw [show ((k + 1 : Nat) : Int) - 1 = (k : Int) by omega, HM.out], HJ7⟩
                        case measure => simp [intOf]; omega
                      · have zm : ¬ (m : Int) + 1 < (ps.length : Int) := by omega
                        clear n3 hm1 hy0
                        go_wp2
                        go_roundw
                        case rel => exact ⟨k + 1, by omega, by go_num, by rw [show ((k + 1 : Nat) : Int) - 1 = (k : Int) by omega, HM.out], HJ7⟩
                        case measure => simp [intOf]; omega
                | some t =>
                  rw [htg] at HTX
                  obtain ⟨ht1, ht2⟩ := ft t htg
                  have hso := fs t htg
                  have hjj := fj t htg
                  clear ft fj fo fs htg HF
                  generalize f k = i at *
                  have b24 : (i.op == 24) = false := by simpa using hso.1
                  have b9 : (i.op != 149) = true := by simpa using hso.2
                  have zt : (t : Int) < (n : Int) := by omega
                  go_wp2_with fail
                  refine Calls.mono (HTX.out _ HTA.out) ?_
                  rintro e w7 ⟨rfl, ht7⟩
                  simp only [tgtV]
                  have HT7 := toHid (HTA.out.trans ht7 (by simp))
                  have x0 : w7.cell? ⟨wr.heap.size, 0, none⟩ = some (.int .u8 i.op) := (ht7.blk HX.out (by simp)).cell rfl
                  have HB7 := toHid (HT7.out.blk HBW.out (by simp))
                  have HP7 := toHid (HPW.out.touch HT7.out (by simp))
                  have HJ7 := toHid (HJ.out.trans HT7.out (by simp))
                  have xt := HB7.out.cell (marks_get ht1)
                  rw [ht2] at xt
                  clear ht7 HX HTA HTX HBW HPW hcs c0 c1 c2 c3 c4 ht2
                  by_cases ho133 : i.op = 133
                  · have b133 : (i.op != 133) = false := by simpa using ho133
                    have b5 : (i.op != 5) = true := by simp; omega
                    have hf := fn (by rw [HCL.out]; simp [ho133])
                    rw [if_neg (by omega)] at hf
                    obtain ⟨n1, n2, n3⟩ := hf
                    clear ho133 fn HCL hjj hso
                    have xn := HB7.out.cell (marks_get n1)
                    rw [n2] at xn
                    have zn : ((k : Int) + 1) < (n : Int) := by omega
                    clear n1 n2
                    by_cases hm1 : m + 1 < ps.length
                    · obtain ⟨y1, hy1⟩ : ∃ y1, ps[m + 1]? = some y1 := ⟨_, List.getElem?_eq_getElem hm1⟩
                      have xy1 := HP7.out.cell hy1
                      have q1 := n3 y1 hy1
                      have zm : (m : Int) + 1 < (ps.length : Int) := by omega
                      have zq : ¬ (y1 : Int) ≤ (k : Int) + 1 := by omega
                      clear q1 n3 hy1 hm1 hy0
                      go_wp2
                      go_roundw
                      case rel => exact ⟨k + 1, by omega, by go_num, by rw [show ((k + 1 : Nat) : Int) - 1 = (k : Int) by omega, HM.out], HJ7⟩
                      case measure => simp [intOf]; omega
                    · have zm : ¬ (m : Int) + 1 < (ps.length : Int) := by omega
                      clear n3 hm1 hy0
                      go_wp2
                      go_roundw
                      case rel => exact ⟨k + 1, by omega, by go_num, by rw [show ((k + 1 : Nat) : Int) - 1 = (k : Int) by omega, HM.out], HJ7⟩
                      case measure => simp [intOf]; omega
                  · have b133 : (i.op != 133) = true := by simpa using ho133
                    obtain ⟨j1, j2⟩ := hjj ho133
                    have q0 := j1 y0 hy0
                    have xy0 := HP7.out.cell hy0
                    have zj : ¬ (t : Int) < (y0 : Int) := by omega
                    clear hjj j1 q0 ho133
                    by_cases ho5 : i.op = 5
                    · have b5 : (i.op != 5) = false := by simpa using ho5
                      clear ho5 fn HCL hso
                      by_cases hm1 : m + 1 < ps.length
                      · obtain ⟨y1, hy1⟩ : ∃ y1, ps[m + 1]? = some y1 := ⟨_, List.getElem?_eq_getElem hm1⟩
                        have xy1 := HP7.out.cell hy1
                        have q2 := j2 y1 hy1
                        have zm : (m : Int) + 1 < (ps.length : Int) := by omega
                        have zj2 : ¬ (y1 : Int) ≤ (t : Int) := by omega
                        clear q2 j2 hy1 hm1 hy0
                        go_wp2
                        go_roundw
                        case rel => exact ⟨k + 1, by omega, by go_num, by rw [show ((k + 1 : Nat) : Int) - 1 = (k : Int) by omega, HM.out], HJ7⟩
                        case measure => simp [intOf]; omega
                      · have zm : ¬ (m : Int) + 1 < (ps.length : Int) := by omega
                        clear j2 hm1 hy0
                        go_wp2
                        go_roundw
                        case rel => exact ⟨k + 1, by omega, by go_num, by rw [show ((k + 1 : Nat) : Int) - 1 = (k : Int) by omega, HM.out], HJ7⟩
                        case measure => simp [intOf]; omega
                    · have b5 : (i.op != 5) = true := by simpa using ho5
                      have hf := fn (by rw [HCL.out]; simp [ho5, hso.2])
                      rw [if_neg hso.1] at hf
                      obtain ⟨n1, n2, n3⟩ := hf
                      clear ho5 fn HCL hso
                      have xn := HB7.out.cell (marks_get n1)
                      rw [n2] at xn
                      have zn : ((k : Int) + 1) < (n : Int) := by omega
                      clear n1 n2
                      by_cases hm1 : m + 1 < ps.length
                      · obtain ⟨y1, hy1⟩ : ∃ y1, ps[m + 1]? = some y1 := ⟨_, List.getElem?_eq_getElem hm1⟩
                        have xy1 := HP7.out.cell hy1
                        have q1 := n3 y1 hy1
                        have zm : (m : Int) + 1 < (ps.length : Int) := by omega
                        have q2 := j2 y1 hy1
                        have zj2 : ¬ (y1 : Int) ≤ (t : Int) := by omega
                        clear q2 j2
                        have zq : ¬ (y1 : Int) ≤ (k : Int) + 1 := by omega
                        clear q1 n3 hy1 hm1 hy0
                        go_wp2
                        go_roundw
                        case rel => exact ⟨k + 1, by omega, by go_num, by rw [show ((k + 1 : Nat) : Int) - 1 = (k : Int) by omega, HM.out], HJ7⟩
                        case measure => simp [intOf]; omega
                      · have zm : ¬ (m : Int) + 1 < (ps.length : Int) := by omega
                        clear n3 hm1 hy0 j2
                        go_wp2
                        go_roundw
                        case rel => exact ⟨k + 1, by omega, by go_num, by rw [show ((k + 1 : Nat) : Int) - 1 = (k : Int) by omega, HM.out], HJ7⟩
                        case measure => simp [intOf]; omega
        · obtain rfl : k = n := by omega
          have hph := pidx_high (fun x hx => HPL.out x hx)
          have HTZ := toHid (HT5.out.trans HJ.out (by simp))
          rw [hph]
          go_wp2
          go_ret
          exact ⟨ret_bool (by simp), HTZ.out⟩
  · have b0 : ((checkP f n).2 != 0) = true := by simpa using hg
    generalize checkP f n = cp at *
    clear hg
    go_wp2
    go_ret
    exact ⟨rfl, HT3.out⟩
end Go.Proofs.Ytpoliblfgioocaa
