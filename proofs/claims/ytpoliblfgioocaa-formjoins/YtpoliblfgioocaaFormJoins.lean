/-
  For every input FormJoins returns true, and each argument reads afterwards as it read before. No conditions. (The walk.)
-/
import Derived.Test.YtpoliblfgioocaaFirst
import Derived.Test.YtpoliblfgioocaaJoin
namespace Go.Proofs.Ytpoliblfgioocaa
open Go.RowKit

set_option maxHeartbeats 8000000 in
set_option maxRecDepth 100000 in
theorem formJoins_walk (sa : Option Addr) (n c : Nat) (sb : Option Addr) (m cb : Nat) (f g : Nat → In) (w : World) (h : ListAt w sa n f) (hb : ListAt w sb m g) (hn : n * 12 ≤ 140737488355328) (hmm : m * 12 ≤ 140737488355328) :
    Calls Try.prog 6 #[.slice sa n c, .slice sb m cb] w fun e w' => e = .returned (.bool true) ∧ Touch [] w w' := by
  have HS := toHid h
  have HSB := toHid hb
  clear h hb
  go_enter Try.func6, Try.ntmps6
  go_wp2_with fail
  refine (first_any w).mono ?_
  rintro e w2 ⟨rfl, ht2⟩
  have HT2 := toHid ht2
  have HL2 := toHid (HS.out.touch ht2 (by simp))
  have HR2 := toHid (HSB.out.touch ht2 (by simp))
  clear ht2 HS HSB
  go_wp2_with fail
  refine Calls.mono (check_any sa n c f w2 HL2.out (by omega)) ?_
  rintro e w3 ⟨rfl, ht3⟩
  have HT3 := toHid (HT2.out.trans ht3 (by simp))
  have HL3 := toHid (HL2.out.touch ht3 (by simp))
  have HR3 := toHid (HR2.out.touch ht3 (by simp))
  clear ht3 HL2 HR2 HT2
  simp only [checkV]
  go_wp2_with fail
  refine Calls.mono (check_any sb m cb g w3 HR3.out (by omega)) ?_
  rintro e w4 ⟨rfl, ht4⟩
  have HT4 := toHid (HT3.out.trans ht4 (by simp))
  have HL4 := toHid (HL3.out.touch ht4 (by simp))
  have HR4 := toHid (HR3.out.touch ht4 (by simp))
  clear ht4 HL3 HR3 HT3
  simp only [checkV]
  by_cases hf0 : (checkP f n).2 = 0
  · have b1 : ((checkP f n).2 != 0) = false := by simpa using hf0
    by_cases hg0 : (checkP g m).2 = 0
    · have b2 : ((checkP g m).2 != 0) = false := by simpa using hg0
      have HGJ := toHid (fun h1 h2 h3 h4 => good_join (f := f) (g := g) hf0 hg0 h1 h2 h3 h4)
      have HWJ := toHid (good_of hf0).2.2.1
      generalize checkP f n = cp at *
      generalize checkP g m = cq at *
      clear hf0 hg0
      by_cases hN : n + m ≤ 256
      · have z1 : ¬ (256 : Int) < (n : Int) + (m : Int) := by omega
        go_wp2_with fail
        refine Calls.mono (partsX_any sa n c f w4 HL4.out (by omega)) ?_
        rintro e w5 ⟨⟨v, rfl, g1, cap1, rfl, hN1, _⟩, ht5⟩
        have HT5 := toHid (HT4.out.trans ht5 (by simp))
        have HL5 := toHid (HL4.out.touch ht5 (by simp))
        have HR5 := toHid (HR4.out.touch ht5 (by simp))
        clear ht5 HL4 HR4 HT4 hN1
        simp only [slV]
        generalize (g1.map fun b => (⟨b, 0, none⟩ : Addr)) = a1 at *
        by_cases hp1 : (partsL f n).length ≤ 1
        · have z2 : ¬ (1 : Int) < ((partsL f n).length : Int) := by omega
          go_wp2_with fail
          refine Calls.mono (partsX_any sb m cb g w5 HR5.out (by omega)) ?_
          rintro e w6 ⟨⟨v, rfl, g2, cap2, rfl, hN2, _⟩, ht6⟩
          have HT6 := toHid (HT5.out.trans ht6 (by simp))
          have HL6 := toHid (HL5.out.touch ht6 (by simp))
          have HR6 := toHid (HR5.out.touch ht6 (by simp))
          clear ht6 HL5 HR5 HT5 hN2
          simp only [slV]
          generalize (g2.map fun b => (⟨b, 0, none⟩ : Addr)) = a2 at *
          by_cases hp2 : (partsL g m).length ≤ 1
          · have z3 : ¬ (1 : Int) < ((partsL g m).length : Int) := by omega
            have HGK := toHid (HGJ.out hN hp1 hp2)
            clear HGJ hp1 hp2
            generalize (partsL f n).length = q1 at *
            generalize (partsL g m).length = q2 at *
            go_wp2_with fail
            go_loopw [57] (fun t w' => ∃ (j : Nat), j ≤ m ∧ t = .int .i64 j ∧ Hid ((∀ x, x < j → partB (g x) = false) ∧ Touch [] w6 w')) (fun t _ => m - (intOf t).toNat)
            case atStart => exact ⟨0, by omega, rfl, toHid ⟨fun x hx => by omega, Touch.refl _ _⟩⟩
            case round =>
              obtain ⟨j, hj, rfl, HJ⟩ := hrel
              by_cases hlt : j < m
              · have z4 : (j : Int) < (m : Int) := by omega
                obtain ⟨b, off, rfl, hS⟩ := (HR6.out.touch HJ.out.2 (by simp)).slots hlt
                obtain ⟨c0, c1, c2, c3, c4⟩ := hS.at_ j hlt
                clear hS
                have HST := toHid (fun (h : partB (g j) = false) (x : Nat) (hx : x < j + 1) => show partB (g x) = false by
                  by_cases he : x = j
                  · subst he; exact h
                  · exact HJ.out.1 x (by omega))
                have hpb : partB (g j) = decide ((g j).op = 133 ∧ (g j).src = 1) := rfl
                have HTA := toHid (HJ.out.2.alloc (.cells #[.int .u8 (g j).op, .int .u8 (g j).dst, .int .u8 (g j).src, .int .i16 (g j).off, .int .i32 (g j).imm] 31))
                have HTW := toHid (HT6.out.trans HTA.out (by simp))
                by_cases ho : (g j).op = 133
                · by_cases hs : (g j).src = 1
                  · have bo : ((g j).op == 133) = true := by simpa using ho
                    have bs : ((g j).src == 1) = true := by simpa using hs
                    clear hpb HST ho hs
                    generalize g j = i at *
                    go_wp2
                    go_ret
                    exact ⟨rfl, HTW.out⟩
                  · have bo : ((g j).op == 133) = true := by simpa using ho
                    have bs : ((g j).src == 1) = false := by simpa using hs
                    have HN := toHid (HST.out (by rw [hpb]; simp [hs]))
                    clear hpb HST ho hs
                    generalize g j = i at *
                    go_wp2
                    go_roundw
                    case rel => exact ⟨j + 1, by omega, by go_num, toHid ⟨HN.out, HTA.out⟩⟩
                    case measure => simp [intOf]; omega
                · have bo : ((g j).op == 133) = false := by simpa using ho
                  have HN := toHid (HST.out (by rw [hpb]; simp [ho]))
                  clear hpb HST ho
                  generalize g j = i at *
                  go_wp2
                  go_roundw
                  case rel => exact ⟨j + 1, by omega, by go_num, toHid ⟨HN.out, HTA.out⟩⟩
                  case measure => simp [intOf]; omega
              · obtain rfl : j = m := by omega
                have HG := toHid (HGK.out HJ.out.1)
                have hJ2 := HJ.out.2
                have HT7 := toHid (HT6.out.trans hJ2 (by simp))
                have hL7 := HL6.out.touch hJ2 (by simp)
                have hR7 := HR6.out.touch hJ2 (by simp)
                have HOK : Hid (∀ x, x < n + j → (joinF f g n x).Ok) := toHid (fun x hx => by
                  by_cases hxn : x < n
                  · rw [join_lt hxn]
                    obtain ⟨_, _, _, hS⟩ := hL7.slots hxn
                    exact hS.ok x hxn
                  · obtain ⟨y, rfl⟩ : ∃ y, x = n + y := ⟨x - n, by omega⟩
                    rw [join_ge]
                    obtain ⟨_, _, _, hS⟩ := hR7.slots (show y < j by omega)
                    exact hS.ok y (by omega))
                clear HGK HJ HL6 HR6 HT6
                generalize wr = w7 at *
                have hta : Touch [] w7 (w7.alloc (.cells #[] 31)) := (Touch.refl _ _).alloc _
                have hE : Blk (w7.alloc (.cells #[] 31)) w7.heap.size [] 31 := Blk.newA w7 #[] [] 31 rfl
                have hrow : RowAt (w7.alloc (.cells #[] 31)) 31 5 (some w7.heap.size) 0 0 [] := ⟨rfl, Nat.le_refl _, by unfold maxLen; omega, [], by simpa using hE, by simp⟩
                obtain ⟨ga, capa, w8, hr8, hrow8, ht8, hg8⟩ := append_list (c := c) hrow (hL7.touch hta (by simp)) (by omega)
                have hT8 : Touch [] w7 w8 := hta.trans ht8 (fun x hx => Or.inr (by simp at hx; omega))
                simp only [Nat.zero_add, List.nil_append] at hr8 hrow8
                have hga : ∀ b, ga = some b → w7.heap.size ≤ b := fun b hb => by
                  rcases hg8 with rfl | rfl
                  · injection hb with hb; omega
                  · injection hb with hb; simp at hb; omega
                obtain ⟨gb, capb, w9, hr9, hrow9, ht9, hg9⟩ := append_list (c := cb) hrow8 (hR7.touch hT8 (by simp)) (by omega)
                have hT9 : Touch [] w7 w9 := hT8.trans ht9 (fun x hx => Or.inr (hga x (by simpa using hx)))
                rw [row_join] at hrow9
                have HW9 := toHid (row_list HOK.out hrow9)
                have HA8 := toHid hr8
                have HA9 := toHid hr9
                have HT9 := toHid (HT7.out.trans hT9 (by simp))
                have HL9 := toHid (hL7.touch hT9 (by simp))
                clear hr8 hr9 hrow8 hrow9 hrow hE hta ht8 ht9 hg8 hg9 hga hT8 hT9 hL7 hR7 HT7 HOK hJ2
                simp only [slV, Option.map_some] at HA8 HA9
                go_wp2_with (at_builtin; first | refine Lib.wpList_append_run _ rfl _ _ _ _ rfl _ _ rfl rfl _ _ HA8.out ?_ | refine Lib.wpList_append_run _ rfl _ _ _ _ rfl _ _ rfl rfl _ _ HA9.out ?_)
                generalize (gb.map fun b => (⟨b, 0, none⟩ : Addr)) = wa at *
                refine Calls.mono (check_any wa (n + j) capb (joinF f g n) w9 HW9.out (by omega)) ?_
                rintro e w10 ⟨rfl, ht10⟩
                have HT10 := toHid (HT9.out.trans ht10 (by simp))
                have HL10 := toHid (HL9.out.touch ht10 (by simp))
                have HW10 := toHid (HW9.out.touch ht10 (by simp))
                clear ht10 HT9 HL9 HW9 HA8 HA9
                simp only [checkV]
                generalize checkP (joinF f g n) (n + j) = cr at *
                rw [show ((n : Int) + (j : Int)) = ((n + j : Nat) : Int) from (Int.natCast_add n j).symm]
                go_wp2_with fail
                refine Calls.mono (starts_any wa (n + j) capb (joinF f g n) w10 HW10.out (by omega)) ?_
                rintro e w11 ⟨rfl, hB11, ht11⟩
                have HT11 := toHid (HT10.out.trans ht11 (by simp))
                have HL11 := toHid (HL10.out.touch ht11 (by simp))
                have HB11 := toHid hB11
                clear ht11 hB11 HT10 HL10 HW10
                generalize w10.heap.size = B1 at *
                go_wp2_with fail
                refine Calls.mono (starts_any sa n c f w11 HL11.out (by omega)) ?_
                rintro e w12 ⟨rfl, hB12, ht12⟩
                have HT12 := toHid (HT11.out.trans ht12 (by simp))
                have HB12 := toHid (ht12.blk HB11.out (by simp))
                have HC12 := toHid hB12
                clear ht12 hB12 HT11 HL11 HB11
                generalize w11.heap.size = B2 at *
                have HSJ := toHid (fun x (hx : x < n) => starts_join (g := g) (m := j) HWJ.out hx)
                generalize startsB (joinF f g n) (n + j) = s1 at *
                generalize startsB f n = s2 at *
                go_wp2_with fail
                go_loopw [86] (fun t w' => ∃ (k : Nat), k ≤ n ∧ t = .int .i64 k ∧ Hid (Touch [] w12 w')) (fun t _ => n - (intOf t).toNat)
                case atStart => exact ⟨0, by omega, rfl, toHid (Touch.refl _ _)⟩
                case round =>
                  obtain ⟨k, hk, rfl, HK⟩ := hrel
                  by_cases hkn : k < n
                  · have z5 : (k : Int) < (n : Int) := by omega
                    have z6 : (k : Int) < ((n + j : Nat) : Int) := by omega
                    have e1 := (HK.out.blk HB12.out (by simp)).cell (marks_get (show k < n + j by omega))
                    have e2 := (HK.out.blk HC12.out (by simp)).cell (marks_get hkn)
                    rw [HSJ.out k hkn] at e1
                    generalize s2 k = q at *
                    go_wp2_with fail
                    go_quiet (fail)
                    go_wp2
                    go_roundw
                    case rel => exact ⟨k + 1, by omega, by go_num, toHid (HK.out.drewN nq)⟩
                    case measure => simp [intOf]; omega
                  · have HTZ := toHid (HT12.out.trans HK.out (by simp))
                    go_wp2
                    go_ret
                    exact ⟨ret_bool (by simpa using HG.out), HTZ.out⟩
          · have z3 : (1 : Int) < ((partsL g m).length : Int) := by omega
            generalize (partsL g m).length = q2 at *
            go_wp2
            go_ret
            exact ⟨rfl, HT6.out⟩
        · have z2 : (1 : Int) < ((partsL f n).length : Int) := by omega
          generalize (partsL f n).length = q1 at *
          go_wp2
          go_ret
          exact ⟨rfl, HT5.out⟩
      · have z1 : (256 : Int) < (n : Int) + (m : Int) := by omega
        go_wp2
        go_ret
        exact ⟨rfl, HT4.out⟩
    · have b2 : ((checkP g m).2 != 0) = true := by simpa using hg0
      generalize checkP f n = cp at *
      generalize checkP g m = cq at *
      clear hf0 hg0
      go_wp2
      go_ret
      exact ⟨rfl, HT4.out⟩
  · have b1 : ((checkP f n).2 != 0) = true := by simpa using hf0
    generalize checkP f n = cp at *
    generalize checkP g m = cq at *
    clear hf0
    go_wp2
    go_ret
    exact ⟨rfl, HT4.out⟩
end Go.Proofs.Ytpoliblfgioocaa
