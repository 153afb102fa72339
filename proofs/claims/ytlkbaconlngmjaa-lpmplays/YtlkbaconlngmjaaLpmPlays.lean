/-
  For every input LpmPlays returns true. (The walk.)
-/
import Derived.Test.YtlkbaconlngmjaaTOne
import Derived.Test.YtlkbaconlngmjaaScript9
namespace Go.Proofs.Ytlkbaconlngmjaa
open Go.RowKit Go.Deep

theorem pair_new {w0 w1 w2 w3 : World} {X n m : Nat} {t : RX} (hA : IAt w2 ⟨X, n, m, .nil, List.replicate m none⟩) (hX : w1.heap.size ≤ X) (h1 : Touch [] w0 w1) (h2 : Touch [] w1 w2)
    (hr : RAt w3 t) (hp : t.p = PX.new 3 ((n : Int) + 4) m) (hb : ∀ b ∈ t.blocks, w2.heap.size ≤ b) (h3 : Touch [] w2 w3) : TPair w0 w3 ⟨X, n, m, .nil, List.replicate m none⟩ t where
  idx := hA.still h3
  ref := hr
  good := by
    rw [hp]
    refine PGood.new (by decide) (by decide) ?_
    have := hA.n1
    have := hA.n12
    have := hA.m1
    have := hA.m64
    unfold newOk
    rw [if_neg (by decide), if_pos rfl, if_neg (by decide)]
    show 1 ≤ (m : Int) ∧ (m : Int) ≤ 64 ∧ 5 ≤ (n : Int) + 4 ∧ (n : Int) + 4 ≤ 16
    have e1 : 1 ≤ n := hA.n1
    have e2 : n ≤ 12 := hA.n12
    have e3 : 1 ≤ m := hA.m1
    have e4 : m ≤ 64 := hA.m64
    omega
  kind := by
    have : t.kind = t.p.kind := rfl
    rw [this, hp]
    rfl
  up := by
    have : t.clock = t.p.clock := rfl
    rw [this, hp]
    show (0 : Int) ≤ 1000000000
    omega
  slots := by
    rw [hp]
    rfl
  size := by
    have : t.size = t.p.size := rfl
    rw [this, hp]
    rfl
  apart := fun y hy hx => by
    have h4 := hA.lt y hy
    have h5 := hb y hx
    omega
  own := fun y hy => by
    have := h1.size
    simp [TX.own, bsT] at hy
    omega
  own' := fun b hx => by
    have h4 := hb b hx
    have h5 := (h1.trans h2 (by simp)).size
    omega
  touch := (h1.trans h2 (by simp)).trans h3 (by simp)

set_option maxHeartbeats 4000000 in
set_option maxRecDepth 100000 in
theorem lpmPlays_walk (a m : Int) (sa : Option Addr) (n c : Nat) (f : Nat → OpC) (w : World) (hs : Script9 w sa n f) (hn : n ≤ 9223372036854775807) :
    Calls Try.prog 3 #[.agg #[.int .i64 a, .int .i64 m], .slice sa n c] w fun e w' => e = .returned (.bool true) ∧ Touch [] w w' := by
  have HS := toHid hs
  have hB := Blk.newA w #[.int .i64 a, .int .i64 m] _ 22 rfl
  have HB := toHid hB
  have HT1 := toHid ((Touch.refl [] w).alloc (.cells #[.int .i64 a, .int .i64 m] 22))
  clear hs hB
  by_cases hm : 1 ≤ m ∧ m ≤ 64 ∧ 5 ≤ a ∧ a ≤ 16
  · obtain ⟨M, rfl⟩ := Int.eq_ofNat_of_zero_le (show 0 ≤ m by omega)
    obtain ⟨A, hA4⟩ := Int.eq_ofNat_of_zero_le (show 0 ≤ a - 4 by omega)
    obtain rfl : a = (A : Int) + 4 := by omega
    clear hA4
    go_enter Try.func3, Try.ntmps3
    go_wp2_with fail
    refine (first_any _).mono ?_
    rintro e w2 ⟨rfl, ht2⟩
    have hb2 := ht2.blk HB.out (by simp)
    have d0 := hb2.cell (i := 0) rfl
    have d1 := hb2.cell (i := 1) rfl
    have HT2 := toHid (HT1.out.trans ht2 (by simp))
    have HB2 := toHid hb2
    clear ht2 HB HT1 hb2
    go_wp2_with fail
    refine (inew_any w2 A M (by omega) (by omega) (by omega) (by omega)).mono ?_
    rintro e w3 ⟨X, rfl, hA, hX, ht3⟩
    have hb3 := ht3.blk HB2.out (by simp)
    have e0 := hb3.cell (i := 0) rfl
    have e1 := hb3.cell (i := 1) rfl
    have HP := toHid (And.intro hA (And.intro hX ht3))
    clear hA hX ht3 d0 d1 hb3
    go_wp2_with fail
    refine (rnewA_any w3 3 ((A : Int) + 4) M (by unfold newOk; rw [if_neg (by decide), if_pos rfl, if_neg (by decide)]; omega)).mono ?_
    rintro e w4 ⟨t, rfl, hN1, hN2, hN3, hN4⟩
    have HP4 : Hid (∃ x t', TPair w w4 x t' ∧ x.X = X ∧ t'.r = t.r ∧ t'.clock ≤ 0) := ⟨_, t, pair_new HP.out.1 HP.out.2.1 HT2.out HP.out.2.2 hN1 hN2 hN3 hN4, rfl, rfl, by have : t.clock = t.p.clock := rfl; rw [this, hN2]; show (0 : Int) ≤ 0; omega⟩
    clear hN1 hN2 hN3 hN4 e0 e1 HB2 HP HT2
    generalize t.r = R at *
    go_wp2_with fail
    go_loopw [45] (fun t w' => ∃ k : Nat, k ≤ n ∧ k ≤ 80 ∧ t = .int .i64 k ∧ Hid (∃ x t, TPair w w' x t ∧ x.X = X ∧ t.r = R ∧ t.clock ≤ k)) (fun t _ => n - (intOf t).toNat)
    case atStart => exact ⟨0, by omega, by omega, rfl, HP4⟩
    case round =>
      clear HP4
      obtain ⟨k, hk, hk8, rfl, HI⟩ := hrel
      by_cases hlt : k < n
      · obtain ⟨x, t, hP, hxX, hxR, hxc⟩ := HI.out
        obtain ⟨sb, off, hsa, hcell⟩ := HS.out.1.at_ hlt
        subst hsa
        obtain ⟨ok, c0, c1, c2⟩ := hcell k hlt
        replace c0 := hP.touch.cell c0 (by simp)
        replace c1 := hP.touch.cell c1 (by simp)
        replace c2 := hP.touch.cell c2 (by simp)
        have HSC := toHid (HS.out.2 k hlt)
        generalize f k = o at *
        have hkn : (k : Int) < n := by omega
        have hta := (Touch.refl [] wr).alloc (.cells #[.int .i64 o.k, .slice o.sa o.sl o.sc, .int .u64 o.fl] 35)
        have hP1 := hP.still hta
        by_cases h80 : k = 80
        · subst h80
          have H1 := toHid (ikeys_any hP1.idx)
          rw [hxX] at H1
          have HP1 := toHid hP1
          have HR := toHid hxR
          have hml : (keysP x.l).length ≤ 1000 := by have h1 := hP1.idx.m64; have h2 := hP1.idx.len; have h3 : (keysP x.l).length ≤ x.l.length := List.length_filterMap_le _ _; omega
          have HM := toHid hml
          clear hml hP hP1 hta hcell HI ok hxR hxX hxc
          go_wp2_with fail
          refine Calls.mono H1.out ?_
          rintro e w5 ⟨⟨v, rfl, hK⟩, ht5⟩
          have hP5 := HP1.out.still ht5
          have H2 := toHid (rkeys_any hP5.ref (by have h1 := hP5.good.m2; have h2 : t.p.slots.length = t.slots.length := (by simp [RX.p]); omega))
          rw [hP5.keysOf, HR.out] at H2
          have HK := toHid (And.intro hK hP5)
          clear hK ht5 hP5 H1
          go_wp2_with fail
          refine Calls.mono H2.out ?_
          rintro e w6 ⟨⟨v2, rfl, hK2⟩, ht6⟩
          have H3 := toHid (sameKeys_any (HK.out.1.touch ht6 (by simp)) hK2 HM.out)
          have HT6 := toHid (HK.out.2.touch.trans ht6 (by simp))
          clear hK2 ht6 H2
          go_wp2_with fail
          refine Calls.mono H3.out ?_
          rintro e w7 ⟨rfl, ht7⟩
          have HF := toHid (HT6.out.trans ht7 (by simp))
          clear ht7 H3 HT6
          go_wp2
          go_ret
          exact ⟨rfl, HF.out⟩
        · have h80' : ¬ (80 : Int) ≤ k := by omega
          have H1 := toHid (one_any hP1 (by omega) o ok (HSC.out))
          unfold opV at H1
          rw [hxR, hxX] at H1
          have HX := toHid (And.intro hxR (And.intro hxX hxc))
          clear hP hP1 hta hcell HI ok hxR hxX hxc
          go_wp2_with fail
          refine Calls.mono H1.out ?_
          rintro e w5 ⟨rfl, x', t', hP5, hx5, hr5, hc5⟩
          have HN : Hid (∃ x t, TPair w w5 x t ∧ x.X = X ∧ t.r = R ∧ t.clock ≤ ((k + 1 : Nat) : Int)) := ⟨x', t', hP5, hx5.trans HX.out.2.1, hr5.trans HX.out.1, by have := HX.out.2.2; omega⟩
          clear hP5 hx5 hr5 hc5 HX H1
          go_wp2
          go_roundw
          case rel => exact ⟨k + 1, by omega, by omega, by go_num, HN⟩
          case measure => simp [intOf]; omega
      · obtain rfl : k = n := by omega
        obtain ⟨x, t, hP, hxX, hxR, hxc⟩ := HI.out
        have H1 := toHid (ikeys_any hP.idx)
        rw [hxX] at H1
        have HP1 := toHid hP
        have HR := toHid hxR
        have hml : (keysP x.l).length ≤ 1000 := by have h1 := hP.idx.m64; have h2 := hP.idx.len; have h3 : (keysP x.l).length ≤ x.l.length := List.length_filterMap_le _ _; omega
        have HM := toHid hml
        clear hml hP HI hxR hxX hxc
        go_wp2_with fail
        refine Calls.mono H1.out ?_
        rintro e w5 ⟨⟨v, rfl, hK⟩, ht5⟩
        have hP5 := HP1.out.still ht5
        have H2 := toHid (rkeys_any hP5.ref (by have h1 := hP5.good.m2; have h2 : t.p.slots.length = t.slots.length := (by simp [RX.p]); omega))
        rw [hP5.keysOf, HR.out] at H2
        have HK := toHid (And.intro hK hP5)
        clear hK ht5 hP5 H1
        go_wp2_with fail
        refine Calls.mono H2.out ?_
        rintro e w6 ⟨⟨v2, rfl, hK2⟩, ht6⟩
        have H3 := toHid (sameKeys_any (HK.out.1.touch ht6 (by simp)) hK2 HM.out)
        have HT6 := toHid (HK.out.2.touch.trans ht6 (by simp))
        clear hK2 ht6 H2
        go_wp2_with fail
        refine Calls.mono H3.out ?_
        rintro e w7 ⟨rfl, ht7⟩
        have HF := toHid (HT6.out.trans ht7 (by simp))
        clear ht7 H3 HT6
        go_wp2
        go_ret
        exact ⟨rfl, HF.out⟩
  · go_enter Try.func3, Try.ntmps3
    go_wp2_with fail
    refine (first_any _).mono ?_
    rintro e w2 ⟨rfl, ht2⟩
    have hb2 := ht2.blk HB.out (by simp)
    have d0 := hb2.cell (i := 0) rfl
    have d1 := hb2.cell (i := 1) rfl
    have HT2 := toHid (HT1.out.trans ht2 (by simp))
    clear ht2 HB HT1 hb2
    go_wp2_with fail
    refine (inew_bad w2 a m hm).mono ?_
    rintro e w3 ⟨rfl, rfl⟩
    go_wp2_with fail
    refine (rnewA_bad w3 3 a m (by unfold newOk; rw [if_neg (by decide), if_pos rfl, if_neg (by decide)]; omega)).mono ?_
    rintro e w4 ⟨rfl, rfl⟩
    clear hm
    go_wp2
    go_ret
    exact ⟨rfl, HT2.out⟩
end Go.Proofs.Ytlkbaconlngmjaa
