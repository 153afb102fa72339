/-
  For every input ArrayPlays returns true. (The walk.)
-/
import Derived.Test.YtppcpdmhgjnfiaaOne
namespace Go.Proofs.Ytppcpdmhgjnfiaa
open Go.RowKit

theorem pair_new {w0 w1 w2 w3 : World} {X m R sb wb : Nat} {l : List KS} (hi : IdxAt w2 X m) (hX : w0.heap.size ≤ X) (h1 : Touch [] w0 w1) (h2 : Touch [] w1 w2) (hn : NewAt w2 w3 R sb wb m m l) : Pair w0 w3 X m (RX.arr R sb wb m l 0) where
  idx := hi.touch hn.touch (by simp)
  ref := by have := hn.at_; rw [Nat.sub_self] at this; exact this
  up := ⟨by rw [arr_slots, hn.len]; simp [RX.arr], by rw [arr_slots, hn.len]; have := hi.2.2; omega, by show (0 : Int) ≤ 0; omega, by show (0 : Int) ≤ 1000000000; omega⟩
  kind := rfl
  size := rfl
  keys := by
    show (l.map some ++ List.replicate 0 none).map (Option.map KS.bs) = _
    rw [← hn.eq]
    simp
  apart := fun hx => by
    have := hn.own X (by rw [Nat.sub_self]; exact hx)
    have := hi.1.lt
    omega
  own := hX
  own' := fun b hb => by
    have h3 := hn.own b (by rw [Nat.sub_self]; exact hb)
    have h4 := (h1.trans h2 (by simp)).size
    omega
  touch := (h1.trans h2 (by simp)).trans hn.touch (by simp)

set_option maxHeartbeats 4000000 in
set_option maxRecDepth 100000 in
theorem arrayPlays_walk (a m : Int) (sa : Option Addr) (n c : Nat) (f : Nat → OpC) (w : World) (hs : Script w sa n f) (hn : n ≤ 9223372036854775807) :
    Calls Try.prog 3 #[.agg #[.int .i64 a, .int .i64 m], .slice sa n c] w fun e w' => e = .returned (.bool true) ∧ Touch [] w w' := by
  have HS := toHid hs
  have hB := Blk.newA w #[.int .i64 a, .int .i64 m] _ 22 rfl
  have HB := toHid hB
  have HT1 := toHid ((Touch.refl [] w).alloc (.cells #[.int .i64 a, .int .i64 m] 22))
  clear hs hB
  by_cases hm : 1 ≤ m ∧ m ≤ 64
  · obtain ⟨M, rfl⟩ := Int.eq_ofNat_of_zero_le (show 0 ≤ m by omega)
    go_enter Try.func3, Try.ntmps3
    go_wp2_with fail
    refine (first_any _).mono ?_
    rintro e w2 ⟨rfl, ht2⟩
    have d1 := (ht2.blk HB.out (by simp)).cell (i := 1) rfl
    have HT2 := toHid (HT1.out.trans ht2 (by simp))
    have HB2 := toHid (ht2.blk HB.out (by simp))
    clear ht2 HB HT1
    go_wp2_with fail
    refine (new_any w2 M (by omega) (by omega)).mono ?_
    rintro e w3 ⟨rfl, hi, ht3⟩
    have e1 := (ht3.blk HB2.out (by simp)).cell (i := 1) rfl
    have HP := toHid (And.intro hi (And.intro HT2.out.size ht3))
    generalize w2.heap.size = X at *
    clear hi ht3 d1
    go_wp2_with fail
    refine (rnew_any w3 M (by omega) (by omega)).mono ?_
    rintro e w4 ⟨R, sb, wb, l, rfl, hN⟩
    have HP4 := toHid (pair_new HP.out.1 HP.out.2.1 HT2.out HP.out.2.2 hN)
    clear hN e1 HB2 HP HT2
    go_wp2_with fail
    go_loopw [41] (fun t w' => ∃ k : Nat, k ≤ n ∧ k ≤ 80 ∧ t = .int .i64 k ∧ Hid (∃ x, Pair w w' X M x ∧ x.r = R ∧ x.clock ≤ k)) (fun t _ => n - (intOf t).toNat)
    case atStart => exact ⟨0, by omega, by omega, rfl, _, HP4.out, rfl, by show (0 : Int) ≤ 0; omega⟩
    case round =>
      clear HP4
      obtain ⟨k, hk, hk8, rfl, HI⟩ := hrel
      by_cases hlt : k < n
      · obtain ⟨x, hP, hxR, hxc⟩ := HI.out
        obtain ⟨b, off, hsa, hcell⟩ := HS.out.at_ hlt
        subst hsa
        obtain ⟨ok, c0, c1, c2⟩ := hcell k hlt
        replace c0 := hP.touch.cell c0 (by simp)
        replace c1 := hP.touch.cell c1 (by simp)
        replace c2 := hP.touch.cell c2 (by simp)
        generalize f k = o at *
        have hkn : (k : Int) < n := by omega
        have hta := (Touch.refl [] wr).alloc (.cells #[.int .i64 o.k, .slice o.sa o.sl o.sc, .int .u64 o.fl] 35)
        have hP1 := hP.still hta
        by_cases h80 : k = 80
        · subst h80
          have H1 := toHid (keys_any hP1.idx)
          have HP1 := toHid hP1
          have HR := toHid hxR
          have hml : (allKeys M).length ≤ 1000 := by simp [allKeys]; omega
          have HM := toHid hml
          clear hml hP hP1 hta hcell HI ok hxR hxc
          go_wp2_with fail
          refine Calls.mono H1.out ?_
          rintro e w5 ⟨⟨v, rfl, hK⟩, ht5⟩
          have hP5 := HP1.out.still ht5
          have H2 := toHid (rkeys_any hP5.ref (by have := hP5.up.many; omega))
          rw [keysOf_all hP5.keys, HR.out] at H2
          have HK := toHid (And.intro hK hP5)
          clear hK ht5 hP5 H1
          go_wp2_with fail
          refine Calls.mono H2.out ?_
          rintro e w6 ⟨⟨v2, rfl, hK2⟩, ht6⟩
          have H3 := toHid (sameKeys_any (HK.out.1.touch ht6 (by simp)) hK2 HM.out)
          have HT6 := toHid (HK.out.2.touch.trans ht6 (by simp))
          clear hK2 ht6 H2
          go_wp2_with fail
          refine Calls.mono H3.out ?_
          rintro e w7 ⟨rfl, ht7⟩
          have HF := toHid (HT6.out.trans ht7 (by simp))
          clear ht7 H3 HT6
          go_wp2
          go_ret
          exact ⟨rfl, HF.out⟩
        · have h80' : ¬ (80 : Int) ≤ k := by omega
          have H1 := toHid (one_any hP1 (by omega) o ok)
          unfold opV at H1
          rw [hxR] at H1
          have HX := toHid (And.intro hxR hxc)
          clear hP hP1 hta hcell HI ok hxR hxc
          go_wp2_with fail
          refine Calls.mono H1.out ?_
          rintro e w5 ⟨rfl, x', hP5, hr5, hc5, _⟩
          have HN : Hid (∃ x, Pair w w5 X M x ∧ x.r = R ∧ x.clock ≤ ((k + 1 : Nat) : Int)) := ⟨x', hP5, hr5.trans HX.out.1, by have := HX.out.2; omega⟩
          clear hP5 hr5 hc5 HX H1
          go_wp2
          go_roundw
          case rel => exact ⟨k + 1, by omega, by omega, by go_num, HN⟩
          case measure => simp [intOf]; omega
      · obtain rfl : k = n := by omega
        obtain ⟨x, hP, hxR, hxc⟩ := HI.out
        have H1 := toHid (keys_any hP.idx)
        have HP1 := toHid hP
        have HR := toHid hxR
        have hml : (allKeys M).length ≤ 1000 := by simp [allKeys]; omega
        have HM := toHid hml
        clear hml hP HI hxR hxc
        go_wp2_with fail
        refine Calls.mono H1.out ?_
        rintro e w5 ⟨⟨v, rfl, hK⟩, ht5⟩
        have hP5 := HP1.out.still ht5
        have H2 := toHid (rkeys_any hP5.ref (by have := hP5.up.many; omega))
        rw [keysOf_all hP5.keys, HR.out] at H2
        have HK := toHid (And.intro hK hP5)
        clear hK ht5 hP5 H1
        go_wp2_with fail
        refine Calls.mono H2.out ?_
        rintro e w6 ⟨⟨v2, rfl, hK2⟩, ht6⟩
        have H3 := toHid (sameKeys_any (HK.out.1.touch ht6 (by simp)) hK2 HM.out)
        have HT6 := toHid (HK.out.2.touch.trans ht6 (by simp))
        clear hK2 ht6 H2
        go_wp2_with fail
        refine Calls.mono H3.out ?_
        rintro e w7 ⟨rfl, ht7⟩
        have HF := toHid (HT6.out.trans ht7 (by simp))
        clear ht7 H3 HT6
        go_wp2
        go_ret
        exact ⟨rfl, HF.out⟩
  · go_enter Try.func3, Try.ntmps3
    go_wp2_with fail
    refine (first_any _).mono ?_
    rintro e w2 ⟨rfl, ht2⟩
    have d1 := (ht2.blk HB.out (by simp)).cell (i := 1) rfl
    have HT2 := toHid (HT1.out.trans ht2 (by simp))
    clear ht2 HB HT1
    go_wp2_with fail
    refine (new_bad w2 m hm).mono ?_
    rintro e w3 ⟨rfl, rfl⟩
    go_wp2_with fail
    refine (rnew_bad w3 m hm).mono ?_
    rintro e w4 ⟨rfl, rfl⟩
    clear hm
    go_wp2
    go_ret
    exact ⟨rfl, HT2.out⟩
end Go.Proofs.Ytppcpdmhgjnfiaa
