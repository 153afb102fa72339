/-
  For every input FormParts returns true, and each argument reads afterwards as it read before. No conditions. (The walk.)
-/
import Derived.Test.YtpoliblfgioocaaFirst
import Derived.Test.YtpoliblfgioocaaRParts
namespace Go.Proofs.Ytpoliblfgioocaa
open Go.RowKit

theorem in_starts (f : Nat → In) (n j : Nat) : decide (∃ y ∈ begL f n, (y : Int) = (j : Int)) = startsB f n j := by
  unfold startsB inB
  rw [decide_eq_decide]
  constructor
  · rintro ⟨y, hy, e⟩
    have : y = j := by omega
    exact this ▸ hy
  · intro h
    exact ⟨j, h, rfl⟩

theorem nums_row {w : World} {g : Option Nat} {cap : Nat} {l : List Nat} (h : NumsAt w g cap l) {k x : Nat} (hk : l[k]? = some x) : ∃ b, (g.map fun b => (⟨b, 0, none⟩ : Addr)) = some ⟨b, 0, none⟩ ∧ w.cell? ⟨b, k, none⟩ = some (.int .i64 (x : Int)) := by
  cases g with
  | none =>
    rw [h.none] at hk
    cases hk
  | some b => exact ⟨b, rfl, h.cell hk⟩

set_option maxHeartbeats 4000000 in
set_option maxRecDepth 100000 in
theorem formParts_walk (sa : Option Addr) (n c : Nat) (x : Int) (f : Nat → In) (w : World) (h : ListAt w sa n f) (hn : n * 12 ≤ 140737488355328) :
    Calls Try.prog 4 #[.slice sa n c, .int .i64 x] w fun e w' => e = .returned (.bool true) ∧ Touch [] w w' := by
  have HS := toHid h
  clear h
  have hbl := begL_len f n
  have hpl := parts_len f n
  go_enter Try.func4, Try.ntmps4
  go_wp2_with fail
  refine (first_any w).mono ?_
  rintro e w2 ⟨rfl, ht2⟩
  have HT2 := toHid ht2
  have HL2 := toHid (HS.out.touch ht2 (by simp))
  clear ht2 HS
  go_wp2_with fail
  refine Calls.mono (starts_any sa n c f w2 HL2.out (by omega)) ?_
  rintro e w3 ⟨rfl, hB, ht3⟩
  have HT3 := toHid (HT2.out.trans ht3 (by simp))
  have HL3 := toHid (HL2.out.touch ht3 (by simp))
  have HB3 := toHid hB
  clear ht3 hB HL2 HT2
  generalize w2.heap.size = B at *
  go_wp2_with fail
  refine Calls.mono (partsX_any sa n c f w3 HL3.out (by omega)) ?_
  rintro e w4 ⟨⟨v, rfl, g1, cap1, rfl, hN1, _⟩, ht4⟩
  have HT4 := toHid (HT3.out.trans ht4 (by simp))
  have HL4 := toHid (HL3.out.touch ht4 (by simp))
  have HB4 := toHid (ht4.blk HB3.out (by simp))
  have HP4 := toHid hN1
  clear ht4 hN1 HL3 HT3 HB3
  go_wp2_with fail
  refine Calls.mono (begin_any sa n c f w4 HL4.out (by omega)) ?_
  rintro e w5 ⟨⟨v, rfl, g2, cap2, rfl, hN2, _⟩, ht5⟩
  have HT5 := toHid (HT4.out.trans ht5 (by simp))
  have HL5 := toHid (HL4.out.touch ht5 (by simp))
  have HB5 := toHid (ht5.blk HB4.out (by simp))
  have HP5 := toHid (HP4.out.touch ht5 (by simp))
  have HN5 := toHid hN2
  clear ht5 hN2 HL4 HT4 HB4 HP4
  go_wp2_with fail
  refine Calls.mono (rparts_any sa n c f w5 HL5.out (by omega)) ?_
  rintro e w6 ⟨⟨v, rfl, g3, cap3, rfl, hN3, _⟩, ht6⟩
  have HT6 := toHid (HT5.out.trans ht6 (by simp))
  have HL6 := toHid (HL5.out.touch ht6 (by simp))
  have HB6 := toHid (ht6.blk HB5.out (by simp))
  have HP6 := toHid (HP5.out.touch ht6 (by simp))
  have HN6 := toHid (HN5.out.touch ht6 (by simp))
  have HQ6 := toHid hN3
  clear ht6 hN3 HL5 HT5 HB5 HP5 HN5
  have HST := toHid (fun j => in_starts f n j)
  have HTGT : Hid (targetP f n x = if 0 ≤ x ∧ x < (n : Int) ∧ startsB f n x.toNat = true then tgtP f n x.toNat else none) := toHid rfl
  generalize startsB f n = st at *
  generalize partsL f n = ps at *
  generalize begL f n = l at *
  simp only [slV]
  go_wp2_with fail
  go_loopw [39] (fun t w' => ∃ (j : Nat), j ≤ n ∧ t = .int .i64 j ∧ Hid (Touch [] w6 w')) (fun t _ => n - (intOf t).toNat)
  case atStart => exact ⟨0, by omega, rfl, toHid (Touch.refl _ _)⟩
  case round =>
    obtain ⟨j, hj, rfl, HJ⟩ := hrel
    by_cases hlt : j < n
    · have z1 : (j : Int) < (n : Int) := by omega
      have hcs := (HJ.out.blk HB6.out (by simp)).cell (marks_get hlt)
      have HIN := toHid (fun w' (ht : Touch [] wr w') => in_any g2 cap2 l j w' (by omega) ((HN6.out.touch HJ.out (by simp)).touch ht (by simp)))
      rw [HST.out j] at HIN
      simp only [slV] at HIN
      generalize st j = q at *
      go_wp2_with fail
      go_region_held3 (fun w' => w'.cell? ⟨B, j, none⟩ = some (.bool q))
        (first | exact hcs | assumption)
        (first | (go_at_call 14; refine Calls.mono (HIN.out _ ((Touch.refl [] wr).drew)) ?_; rintro e w' ⟨rfl, rfl⟩))
      go_wp2
      go_roundw
      case rel => exact ⟨j + 1, by omega, by go_num, toHid HJ.out.drew⟩
      case measure => simp [intOf]; omega
    · obtain rfl : j = n := by omega
      have HT7 := toHid (HT6.out.trans HJ.out (by simp))
      have HL7 := toHid (HL6.out.touch HJ.out (by simp))
      have HN7 := toHid (HN6.out.touch HJ.out (by simp))
      have HP7 := toHid (fun k x (hk : ps[k]? = some x) => nums_row (HP6.out.touch HJ.out (by simp)) hk)
      have HQ7 := toHid (fun k x (hk : ps[k]? = some x) => nums_row (HQ6.out.touch HJ.out (by simp)) hk)
      clear HL6 HN6 HP6 HQ6 HT6 HB6 HJ hlt
      generalize (g1.map fun b => (⟨b, 0, none⟩ : Addr)) = a1 at *
      generalize (g3.map fun b => (⟨b, 0, none⟩ : Addr)) = a3 at *
      generalize wr = w7 at *
      go_wp2_with fail
      go_loopw [53] (fun t w' => ∃ (m : Nat), m ≤ ps.length ∧ t = .int .i64 m ∧ Hid (Touch [] w7 w')) (fun t _ => ps.length - (intOf t).toNat)
      case atStart => exact ⟨0, by omega, rfl, toHid (Touch.refl _ _)⟩
      case round =>
        obtain ⟨m, hm, rfl, HD⟩ := hrel
        by_cases hlt : m < ps.length
        · have z1 : (m : Int) < (ps.length : Int) := by omega
          obtain ⟨y, hy⟩ : ∃ y, ps[m]? = some y := ⟨_, List.getElem?_eq_getElem hlt⟩
          obtain ⟨b1, rfl, e1⟩ := HP7.out m y hy
          obtain ⟨b3, rfl, e3⟩ := HQ7.out m y hy
          clear HP7 HQ7 hy
          have f1 := HD.out.cell e1 (by simp)
          have f3 := HD.out.cell e3 (by simp)
          clear e1 e3
          go_wp2_with fail
          go_quiet (fail)
          go_wp2
          go_roundw
          case rel => exact ⟨m + 1, by omega, by go_num, toHid (HD.out.drewN nq)⟩
          case measure => simp [intOf]; omega
        · have hd7 := HD.out
          have HT8 := toHid (HT7.out.trans hd7 (by simp))
          have HL8 := toHid (HL7.out.touch hd7 (by simp))
          have HN8 := toHid (HN7.out.touch hd7 (by simp))
          clear hd7 HT7 HL7 HN7 HD
          generalize wr = w8 at *
          go_wp2_with fail
          refine Calls.mono (targetX_any sa j c x f w8 HL8.out (by omega)) ?_
          rintro e w9 ⟨rfl, ht9⟩
          have HT9 := toHid (HT8.out.trans ht9 (by simp))
          have HL9 := toHid (HL8.out.touch ht9 (by simp))
          have HN9 := toHid (HN8.out.touch ht9 (by simp))
          clear ht9 HT8 HL8 HN8
          by_cases hx0 : x < 0
          · have htg : targetP f j x = none := by rw [HTGT.out, if_neg (by omega)]
            rw [htg]
            simp only [tgtV]
            clear htg
            go_wp2
            go_ret
            exact ⟨rfl, HT9.out⟩
          · by_cases hx1 : (j : Int) ≤ x
            · have htg : targetP f j x = none := by rw [HTGT.out, if_neg (by omega)]
              rw [htg]
              simp only [tgtV]
              clear htg
              go_wp2
              go_ret
              exact ⟨rfl, HT9.out⟩
            · obtain ⟨k, rfl⟩ := Int.eq_ofNat_of_zero_le (show 0 ≤ x by omega)
              have hk : k < j := by omega
              have z1 : (k : Int) < (j : Int) := by omega
              have HIN := toHid (in_any g2 cap2 l k w9 (by omega) HN9.out)
              rw [HST.out k] at HIN
              simp only [slV] at HIN
              rw [Int.toNat_natCast] at HTGT
              cases hs : st k
              · have htg : targetP f j k = none := by rw [HTGT.out, hs, if_neg (by simp)]
                rw [htg]
                rw [hs] at HIN
                simp only [tgtV]
                clear htg hs
                go_wp2_with fail
                refine Calls.mono HIN.out ?_
                rintro e w10 ⟨rfl, rfl⟩
                go_wp2
                go_ret
                exact ⟨rfl, HT9.out⟩
              · have htg : targetP f j k = tgtP f j k := by rw [HTGT.out, hs, if_pos ⟨by omega, by omega, rfl⟩]
                rw [htg]
                rw [hs] at HIN
                clear htg hs
                have HTO := toHid (HL9.out.to c k hk (by omega))
                unfold ToPost at HTO
                cases hto : toP (f k) k with
                | none =>
                  rw [tgt_none hto]
                  rw [hto] at HTO
                  clear hto
                  go_wp2_with fail
                  refine Calls.mono HIN.out ?_
                  rintro e w10 ⟨rfl, rfl⟩
                  go_wp2_with fail
                  refine Calls.mono HTO.out ?_
                  rintro e w11 ⟨ht11, rfl⟩
                  have HT11 := toHid (HT9.out.trans ht11 (by simp))
                  clear ht11
                  go_wp2
                  go_ret
                  exact ⟨rfl, HT11.out⟩
                | some u =>
                  rw [hto] at HTO
                  have hc : u < 0 ∨ (j : Int) ≤ u ∨ (0 ≤ u ∧ u < (j : Int)) := by omega
                  rcases hc with hc | hc | ⟨hc, hc2⟩
                  · rw [tgt_out hto (Or.inl hc)]
                    clear hto
                    go_wp2_with fail
                    refine Calls.mono HIN.out ?_
                    rintro e w10 ⟨rfl, rfl⟩
                    go_wp2_with fail
                    refine Calls.mono HTO.out ?_
                    rintro e w11 ⟨ht11, rfl⟩
                    have HT11 := toHid (HT9.out.trans ht11 (by simp))
                    clear ht11
                    go_wp2
                    go_ret
                    exact ⟨rfl, HT11.out⟩
                  · rw [tgt_out hto (Or.inr hc)]
                    clear hto
                    go_wp2_with fail
                    refine Calls.mono HIN.out ?_
                    rintro e w10 ⟨rfl, rfl⟩
                    go_wp2_with fail
                    refine Calls.mono HTO.out ?_
                    rintro e w11 ⟨ht11, rfl⟩
                    have HT11 := toHid (HT9.out.trans ht11 (by simp))
                    clear ht11
                    go_wp2
                    go_ret
                    exact ⟨ret_bool (by simp; omega), HT11.out⟩
                  · rw [tgt_in hto hc hc2]
                    clear hto
                    go_wp2_with fail
                    refine Calls.mono HIN.out ?_
                    rintro e w10 ⟨rfl, rfl⟩
                    go_wp2_with fail
                    refine Calls.mono HTO.out ?_
                    rintro e w11 ⟨ht11, rfl⟩
                    have HT11 := toHid (HT9.out.trans ht11 (by simp))
                    clear ht11
                    go_wp2
                    go_ret
                    exact ⟨ret_bool (by simp), HT11.out⟩
end Go.Proofs.Ytpoliblfgioocaa
