/-
  For every input LpmCopies returns true. (The walk.)
-/
import Derived.Test.YtlkbaconlngmjaaRCopy
import Derived.Test.YtlkbaconlngmjaaLpmPlays
namespace Go.Proofs.Ytlkbaconlngmjaa
open Go.RowKit Go.Deep

/-- A list of keys that is being written over. -/
structure Scr (w0 w : World) (g : Option Nat) (cap : Nat) (l : List KS) : Prop where
  row : RowAt w 32 1 g l.length cap (l.map KS.v)
  own : ∀ b, g = some b → w0.heap.size ≤ b
  keys : ∀ k ∈ l, (∃ (bs : List Int) (rest : List Value), bs.length = k.bs.length ∧ BlkF w k.b (bs.map (Value.int .u8) ++ rest) 5) ∧ w0.heap.size ≤ k.b ∧ g ≠ some k.b
  lens : ∀ k ∈ l, k.bs.length ≤ 16
  touch : Touch [] w0 w
theorem KLs.scr {w0 w : World} {g : Option Nat} {cap : Nat} {l : List KS} (h : KLs w0 w g cap l) (ht : Touch [] w0 w) : Scr w0 w g cap l :=
  ⟨h.row, h.own, fun k hk => by
    obtain ⟨⟨⟨rest, hB⟩, _⟩, h2⟩ := h.keys k hk
    exact ⟨⟨k.bs, rest, rfl, hB⟩, h2⟩, fun k hk => (h.keys k hk).1.2.2.1, ht⟩
theorem Scr.at_ {w0 w : World} {g : Option Nat} {cap : Nat} {l : List KS} (h : Scr w0 w g cap l) {j : Nat} (hj : j < l.length) : ∃ b k, g = some b ∧ k ∈ l ∧ w.cell? ⟨b, j, none⟩ = some k.v := by
  have hget : l[j]? = some l[j] := List.getElem?_eq_getElem hj
  have hr := h.row
  cases hg : g with
  | none =>
    rw [hg] at hr
    have h1 := hr.2.1
    have h2 : cap = 0 := hr.2.2.2
    omega
  | some b =>
    rw [hg] at hr
    obtain ⟨_, _, _, rest, hB, _⟩ := hr
    refine ⟨b, l[j], rfl, List.mem_of_getElem? hget, hB.cell ?_⟩
    rw [List.getElem?_append_left (by simpa using hj), List.getElem?_map, hget]
    rfl
theorem Scr.cell {w0 w : World} {g : Option Nat} {cap : Nat} {l : List KS} (h : Scr w0 w g cap l) {k : KS} (hk : k ∈ l) {i : Nat} (hi : i < k.bs.length) : (∃ z, w.cell? ⟨k.b, i, none⟩ = some (.int .u8 z)) ∧ w.frozen? ⟨k.b, i, none⟩ = false := by
  obtain ⟨⟨bs, rest, hl, hB⟩, _⟩ := h.keys k hk
  refine ⟨⟨bs.getD i 0, hB.cell ?_⟩, hB.frozen i (by simp; omega)⟩
  rw [List.getElem?_append_left (by rw [List.length_map]; omega), List.getElem?_map, List.getElem?_eq_getElem (by omega), List.getD_eq_getElem?_getD, List.getElem?_eq_getElem (by omega)]
  rfl
theorem Scr.set {w0 w : World} {g : Option Nat} {cap : Nat} {l : List KS} (h : Scr w0 w g cap l) {k : KS} (hk : k ∈ l) (i : Nat) (z : Int) : Scr w0 (w.setCell ⟨k.b, i, none⟩ (.int .u8 z)) g cap l := by
  have ht : Touch [k.b] w (w.setCell ⟨k.b, i, none⟩ (.int .u8 z)) := (Touch.refl _ w).setCell _ _ (Or.inl (by simp))
  obtain ⟨_, hk0, hkg⟩ := h.keys k hk
  refine ⟨h.row.touch ht (fun b hb hx => hkg (by simp at hx; rw [hb, hx])), h.own, fun y hy => ?_, h.lens, h.touch.setCell _ _ (Or.inr hk0)⟩
  obtain ⟨⟨bs, rest, hl, hB⟩, h2⟩ := h.keys y hy
  refine ⟨?_, h2⟩
  by_cases he : y.b = k.b
  · rw [he] at hB ⊢
    have hs := hB.setCell i (.int .u8 z)
    by_cases hi : i < bs.length
    · rw [List.set_append_left _ _ (by simpa using hi), ← List.map_set] at hs
      exact ⟨bs.set i z, rest, by simpa using hl, hs⟩
    · rw [List.set_append_right _ _ (by simpa using hi)] at hs
      exact ⟨bs, _, hl, hs⟩
  · exact ⟨bs, rest, hl, ht.blkF hB (by simpa using he)⟩

theorem OpC.Ok.touch {w w' : World} {o : OpC} (h : o.Ok w) (ht : Touch [] w w') : o.Ok w' := ⟨h.k0, h.k1, h.f0, h.f1, h.key.touch ht⟩

theorem PGood.again {q : PX} (h : PGood q) (m : Int) : PGood { q with max := m } := ⟨h.k0, h.k3, h.s1, h.s2, h.s3, h.m1, h.m2, h.whens, h.clock, h.lens⟩
/-- Copies of both. -/
theorem pair_copy {w0 w w1 w2 : World} {x : TX} {C : Nat} {T' : Tr} {s t : RX} (h : TPair w0 w x s) (hA : IAt w1 ⟨C, x.n, x.m, T', x.l⟩) (hC : ∀ y ∈ (⟨C, x.n, x.m, T', x.l⟩ : TX).own, w.heap.size ≤ y) (h1 : Touch [] w w1) (hc : CopyAt w1 w2 s t s.slots.length s.slots.length) : TPair w w2 ⟨C, x.n, x.m, T', x.l⟩ t := by
  have hlen : s.whens.length = s.slots.length := (h.good.up h.up).lens
  have e : t.p = { s.p with max := t.p.max } := by
    have hs := hc.slots
    have hw := hc.whens
    rw [List.take_length] at hs
    rw [← hlen, List.take_length] at hw
    show (⟨t.kind, t.size, t.max, t.clock, t.slots.map (Option.map KS.bs), t.whens⟩ : PX) = ⟨s.kind, s.size, t.max, s.clock, s.slots.map (Option.map KS.bs), s.whens⟩
    rw [hs, hw, hc.kind, hc.size, hc.clock]
  exact {
    idx := hA.still hc.touch
    ref := hc.ref
    good := by rw [e]; exact h.good.again _
    kind := by rw [hc.kind]; exact h.kind
    up := by rw [hc.clock]; exact h.up
    slots := by rw [e]; exact h.slots
    size := by rw [hc.size]; exact h.size
    apart := fun y hy hx => by
      have := hc.own y hx
      have h9 := hA.lt y hy
      omega
    own := hC
    own' := fun b hb => Nat.le_trans h1.size (hc.own b hb)
    touch := h1.trans hc.touch (by simp) }

set_option maxHeartbeats 8000000 in
set_option maxRecDepth 100000 in
theorem lpmCopies_walk (a m : Int) (sa : Option Addr) (n c : Nat) (f : Nat → OpC) (sb : Option Addr) (n2 c2 : Nat) (f2 : Nat → OpC) (w : World) (hs : Script9 w sa n f) (hn : n ≤ 9223372036854775807) (hnc : n ≤ c) (hs2 : Script9 w sb n2 f2) (hn2 : n2 ≤ 9223372036854775807) (hnc2 : n2 ≤ c2) :
    Calls Try.prog 4 #[.agg #[.int .i64 a, .int .i64 m], .slice sa n c, .slice sb n2 c2] w fun e w' => e = .returned (.bool true) ∧ Touch [] w w' := by
  have HS := toHid hs
  have HS2 := toHid hs2
  have hB := Blk.newA w #[.int .i64 a, .int .i64 m] _ 22 rfl
  have HB := toHid hB
  have HT1 := toHid ((Touch.refl [] w).alloc (.cells #[.int .i64 a, .int .i64 m] 22))
  clear hs hs2 hB
  go_enter Try.func4, Try.ntmps4
  go_wp2_with fail
  refine (first_any _).mono ?_
  rintro e w2 ⟨rfl, ht2⟩
  have hB2 := ht2.blk HB.out (by simp)
  have hT2 := HT1.out.trans ht2 (by simp)
  have HT2 := toHid (((hT2.alloc (.cells #[.int .u8 1, .int .u8 0, .int .u8 0, .int .u8 0] 5)).alloc (.cells #[.int .u8 1, .int .u8 0, .int .u8 0, .int .u8 0] 5)).alloc (.cells #[.int .u8 1, .int .u8 0, .int .u8 0, .int .u8 0] 5))
  have HB2 := toHid (((hB2.alloc (.cells #[.int .u8 1, .int .u8 0, .int .u8 0, .int .u8 0] 5)).alloc (.cells #[.int .u8 1, .int .u8 0, .int .u8 0, .int .u8 0] 5)).alloc (.cells #[.int .u8 1, .int .u8 0, .int .u8 0, .int .u8 0] 5))
  clear ht2 HB HT1 hB2 hT2
  go_wp2_with fail
  refine (inil_find _ _ _ _).mono ?_
  rintro e w3 ⟨rfl, rfl⟩
  go_wp2_with fail
  refine (inil_put _ _ _ _ _).mono ?_
  rintro e w3 ⟨rfl, rfl⟩
  go_wp2_with fail
  refine (inil_del _ _ _ _).mono ?_
  rintro e w3 ⟨rfl, rfl⟩
  generalize ((w2.alloc (.cells #[.int .u8 1, .int .u8 0, .int .u8 0, .int .u8 0] 5)).alloc (.cells #[.int .u8 1, .int .u8 0, .int .u8 0, .int .u8 0] 5)).alloc (.cells #[.int .u8 1, .int .u8 0, .int .u8 0, .int .u8 0] 5) = w3 at *
  go_wp2_with fail
  refine (inil_keys _).mono ?_
  rintro e w4 ⟨rfl, ht4⟩
  have HT4 := toHid (HT2.out.trans ht4 (by simp))
  have HB4 := toHid (ht4.blk HB2.out (by simp))
  clear ht4 HT2 HB2
  go_wp2_with fail
  refine (inil_copy _).mono ?_
  rintro e w4 ⟨rfl, rfl⟩
  have d0 := HB4.out.cell (i := 0) rfl
  have d1 := HB4.out.cell (i := 1) rfl
  generalize w2.heap.size = K2 at *
  by_cases hm : 1 ≤ m ∧ m ≤ 64 ∧ 5 ≤ a ∧ a ≤ 16
  · obtain ⟨M, rfl⟩ := Int.eq_ofNat_of_zero_le (show 0 ≤ m by omega)
    obtain ⟨A, hA4⟩ := Int.eq_ofNat_of_zero_le (show 0 ≤ a - 4 by omega)
    obtain rfl : a = (A : Int) + 4 := by omega
    clear hA4
    go_wp2_with fail
    refine (inew_any w4 A M (by omega) (by omega) (by omega) (by omega)).mono ?_
    rintro e w5 ⟨X, rfl, hA, hX, ht5⟩
    have hb5 := ht5.blk HB4.out (by simp)
    have e0 := hb5.cell (i := 0) rfl
    have e1 := hb5.cell (i := 1) rfl
    have HP := toHid (And.intro hA (And.intro hX ht5))
    clear hA hX ht5 d0 d1 hb5
    go_wp2_with fail
    refine (rnewA_any w5 3 ((A : Int) + 4) M (by unfold newOk; rw [if_neg (by decide), if_pos rfl, if_neg (by decide)]; omega)).mono ?_
    rintro e w6 ⟨t, rfl, hN1, hN2, hN3, hN4⟩
    have HP4 : Hid (∃ x t', TPair w w6 x t' ∧ x.X = X ∧ t'.r = t.r ∧ t'.clock ≤ 0) := ⟨_, t, pair_new HP.out.1 HP.out.2.1 HT4.out HP.out.2.2 hN1 hN2 hN3 hN4, rfl, rfl, by have : t.clock = t.p.clock := rfl; rw [this, hN2]; show (0 : Int) ≤ 0; omega⟩
    clear hN1 hN2 hN3 hN4 e0 e1 HB4 HP HT4
    generalize t.r = R at *
    go_upto_region 13 with fail
    go_cut [102, 103, 104, 105] from 99 to 105 (fun z a b i wx => ∃ h : Nat, h ≤ n ∧ h ≤ 40 ∧ z = .int .i64 h ∧ a = .slice sa h c ∧ b = .int .i64 h ∧ i = .int .i64 0 ∧ wx = w6)
    case first =>
      go_wp2
      all_goals
        go_meet
        first
          | exact ⟨n, Nat.le_refl _, by omega, rfl, rfl, rfl, rfl, rfl⟩
          | exact ⟨40, by omega, Nat.le_refl _, rfl, rfl, rfl, rfl, rfl⟩
    case rest =>
      obtain ⟨h, hh1, hh2, rfl, rfl, rfl, rfl, rfl⟩ := hcut
      go_wp2_with fail
      go_loopw [105] (fun i w' => ∃ k : Nat, k ≤ h ∧ i = .int .i64 k ∧ Hid (∃ x t, TPair w w' x t ∧ x.X = X ∧ t.r = R ∧ t.clock ≤ k)) (fun i _ => h - (intOf i).toNat)
      case atStart => exact ⟨0, by omega, rfl, HP4⟩
      case round =>
        clear HP4
        obtain ⟨k, hk, rfl, HI⟩ := hrel
        obtain ⟨x, s, hP, hxX, hxR, hxc⟩ := HI.out
        by_cases hlt : k < h
        · obtain ⟨bb, off, hsa, hcell⟩ := HS.out.1.at_ (show k < n by omega)
          subst hsa
          obtain ⟨ok, c0, c1, c2⟩ := hcell k (by omega)
          replace c0 := hP.touch.cell c0 (by simp)
          replace c1 := hP.touch.cell c1 (by simp)
          replace c2 := hP.touch.cell c2 (by simp)
          have HSC := toHid (HS.out.2 k (show k < n by omega))
          generalize f k = o at *
          have hkn : (k : Int) < h := by omega
          have hta := (Touch.refl [] wr).alloc (.cells #[.int .i64 o.k, .slice o.sa o.sl o.sc, .int .u64 o.fl] 35)
          have hP1 := hP.still hta
          have H1 := toHid (one_any hP1 (by omega) o ok HSC.out)
          unfold opV at H1
          rw [hxR, hxX] at H1
          have HX := toHid (And.intro hxR (And.intro hxX hxc))
          clear hP hP1 hta hcell HI ok hxR hxX hxc
          go_wp2_with fail
          refine Calls.mono H1.out ?_
          rintro e w5 ⟨rfl, x', t', hP5, hx5, hr5, hc5⟩
          have HN : Hid (∃ x t, TPair w w5 x t ∧ x.X = X ∧ t.r = R ∧ t.clock ≤ ((k + 1 : Nat) : Int)) := ⟨x', t', hP5, hx5.trans HX.out.2.1, hr5.trans HX.out.1, by have := HX.out.2.2; omega⟩
          clear hP5 hx5 hr5 hc5 HX H1
          go_wp2
          go_roundw
          case rel => exact ⟨k + 1, by omega, by go_num, HN⟩
          case measure => simp [intOf]; omega
        · obtain rfl : k = h := by omega
          have H1 := toHid (icopy_any hP.idx)
          rw [hxX] at H1
          have HP := toHid (And.intro hP (And.intro hxR (And.intro hxX hxc)))
          clear hP hxR hxc HI
          go_wp2_with fail
          refine Calls.mono H1.out ?_
          rintro e w7 ⟨C, T7, rfl, hi7, hC7, ht7⟩
          have H2 := toHid (rcopy_any (HP.out.1.ref.touch ht7 (by simp)) (HP.out.1.good.up HP.out.1.up))
          rw [HP.out.2.1] at H2
          have HI7 := toHid (And.intro hi7 (And.intro hC7 ht7))
          clear hi7 ht7 H1 hC7
          go_wp2_with fail
          refine Calls.mono H2.out ?_
          rintro e w8 ⟨t, rfl, hC8⟩
          have HPB := toHid (And.intro (pair_copy HP.out.1 HI7.out.1 HI7.out.2.1 HI7.out.2.2 hC8) (show t.clock ≤ 40 by rw [hC8.clock]; have := HP.out.2.2.2; omega))
          have HPA := toHid (And.intro HP.out.1 (And.intro HP.out.2.1 HP.out.2.2.1))
          have HTB := toHid HP.out.1.touch
          generalize hDD : t.r = D at *
          have HD := toHid hDD
          clear hC8 H2 HI7 HP hDD
          generalize hwB : wr = wB at *
          clear hwB
          go_upto_region 19 with fail
          go_cut [121, 122, 123, 124] from 118 to 124 (fun z a b i wx => ∃ h : Nat, h ≤ n2 ∧ h ≤ 40 ∧ z = .int .i64 h ∧ a = .slice sb h c2 ∧ b = .int .i64 h ∧ i = .int .i64 0 ∧ wx = w8)
          case first =>
            go_wp2
            all_goals
              go_meet
              first
                | exact ⟨n2, Nat.le_refl _, by omega, rfl, rfl, rfl, rfl, rfl⟩
                | exact ⟨40, by omega, Nat.le_refl _, rfl, rfl, rfl, rfl, rfl⟩
          case rest =>
            obtain ⟨h2, hh3, hh4, rfl, rfl, rfl, rfl, rfl⟩ := hcut
            go_wp2_with fail
            go_loopw [124] (fun i w' => ∃ k : Nat, k ≤ h2 ∧ i = .int .i64 k ∧ Hid (∃ x t, TPair wB w' x t ∧ x.X = C ∧ t.r = D ∧ t.clock ≤ 40 + k)) (fun i _ => h2 - (intOf i).toNat)
            case atStart => exact ⟨0, by omega, rfl, _, t, HPB.out.1, rfl, HD.out, by have := HPB.out.2; omega⟩
            case round =>
              clear HPB HD
              obtain ⟨q, hq, rfl, HI⟩ := hrel
              obtain ⟨y, t, hP, hyX, hxR, hxc⟩ := HI.out
              by_cases hlt2 : q < h2
              · obtain ⟨bb, off, hsa, hcell⟩ := HS2.out.1.at_ (show q < n2 by omega)
                subst hsa
                obtain ⟨ok, c0, c1, c2⟩ := hcell q (by omega)
                have htw := HTB.out.trans hP.touch (by simp)
                replace c0 := htw.cell c0 (by simp)
                replace c1 := htw.cell c1 (by simp)
                replace c2 := htw.cell c2 (by simp)
                have HSC2 := toHid (HS2.out.2 q (show q < n2 by omega))
                generalize f2 q = o at *
                have hkn : (q : Int) < h2 := by omega
                have hta := (Touch.refl [] wr).alloc (.cells #[.int .i64 o.k, .slice o.sa o.sl o.sc, .int .u64 o.fl] 35)
                have hP1 := hP.still hta
                have H1 := toHid (one_any hP1 (by omega) o (ok.touch HTB.out) HSC2.out)
                unfold opV at H1
                rw [hxR, hyX] at H1
                have HX := toHid (And.intro hxR (And.intro hyX hxc))
                clear hP hP1 hta hcell HI ok hxR hxc htw hyX
                go_wp2_with fail
                refine Calls.mono H1.out ?_
                rintro e w9 ⟨rfl, yt, t', hP5, hy5, hr5, hc5⟩
                have HN : Hid (TPair wB w9 yt t' ∧ yt.X = C ∧ t'.r = D ∧ t'.clock ≤ 40 + ((q + 1 : Nat) : Int)) := ⟨hP5, hy5.trans HX.out.2.1, hr5.trans HX.out.1, by have := HX.out.2.2; omega⟩
                have H2 := toHid (ikeys_any hP5.idx)
                rw [hy5, HX.out.2.1] at H2
                clear hP5 hy5 hr5 hc5 HX H1 c0 c1 c2
                go_wp2_with fail
                refine Calls.mono H2.out ?_
                rintro e w10 ⟨⟨v, rfl, g, cap, l2, rfl, hKL, hlm⟩, ht10⟩
                have hl64 : l2.length ≤ 64 := by
                  have h8 : l2.length = (keysP yt.l).length := by have h7 := congrArg List.length hlm; rw [List.length_map] at h7; exact h7
                  have h1 := HN.out.1.idx.m64
                  have h2 := HN.out.1.idx.len
                  have h3 : (keysP yt.l).length ≤ yt.l.length := List.length_filterMap_le _ _
                  omega
                obtain ⟨ML, hlM⟩ : ∃ ML, l2.length = ML := ⟨_, rfl⟩
                have HSC := toHid (And.intro (hKL.scr ht10) hlM)
                have hML : ML ≤ 64 := by omega
                rw [hlM]
                unfold slV
                generalize hsg : (g.map fun b => (⟨b, 0, none⟩ : Addr)) = sg at *
                have HG := toHid hsg
                clear hKL ht10 hlm hlM hsg H2 hl64
                go_wp2_with fail
                go_loopw [136] (fun i w' => ∃ j : Nat, j ≤ ML ∧ i = .int .i64 j ∧ Hid (Scr w9 w' g cap l2)) (fun i _ => ML - (intOf i).toNat)
                case atStart => exact ⟨0, by omega, rfl, HSC.out.1⟩
                case round =>
                  obtain ⟨j, hj, rfl, HJ⟩ := hrel
                  by_cases hltj : j < ML
                  · obtain ⟨gb, ky, hgb, hmem, hcell⟩ := HJ.out.at_ (j := j) (by rw [HSC.out.2]; exact hltj)
                    have hsg := HG.out
                    rw [hgb, Option.map_some] at hsg
                    subst hsg
                    unfold KS.v at hcell
                    have HM := toHid hmem
                    have hly : ky.bs.length ≤ 9223372036854775807 := by have := HJ.out.lens ky hmem; omega
                    generalize hkl : ky.bs.length = kl at *
                    have HKL := toHid hkl
                    clear hmem hgb hkl
                    generalize hw11 : wr = w11 at *
                    clear hw11
                    go_wp2_with fail
                    go_loopw [142] (fun i w' => ∃ p : Nat, p ≤ kl ∧ i = .int .i64 p ∧ Hid (Scr w9 w' g cap l2)) (fun i _ => kl - (intOf i).toNat)
                    case atStart => exact ⟨0, by omega, rfl, HJ.out⟩
                    case round =>
                      clear hcell HJ
                      obtain ⟨p, hp, rfl, HK⟩ := hrel
                      by_cases hltp : p < kl
                      · obtain ⟨⟨z, hz⟩, hfz⟩ := HK.out.cell HM.out (i := p) (by rw [HKL.out]; exact hltp)
                        have HNX := fun y => toHid (HK.out.set HM.out p y)
                        go_wp2
                        refine ⟨⟨p + 1, by omega, by go_num, (HNX _).out⟩, by simp [intOf]; omega⟩
                      · obtain rfl : p = kl := by omega
                        go_wp2
                        go_roundw
                        case rel => exact ⟨j + 1, by omega, by go_num, HK⟩
                        case measure => simp [intOf]; omega
                  · obtain rfl : j = ML := by omega
                    have HN2 : Hid (∃ x t, TPair wB wr x t ∧ x.X = C ∧ t.r = D ∧ t.clock ≤ 40 + ((q + 1 : Nat) : Int)) := ⟨yt, t', HN.out.1.still HJ.out.touch, HN.out.2⟩
                    clear HN HJ HSC
                    go_wp2
                    go_roundw
                    case rel => exact ⟨q + 1, by omega, by go_num, HN2⟩
                    case measure => simp [intOf]; omega
              · obtain rfl : q = h2 := by omega
                have hml : (keysP x.l).length ≤ 1000 := by have h1 := HPA.out.1.idx.m64; have h2 := HPA.out.1.idx.len; have h3 : (keysP x.l).length ≤ x.l.length := List.length_filterMap_le _ _; omega
                have hml2 : (keysP y.l).length ≤ 1000 := by have h1 := hP.idx.m64; have h2 := hP.idx.len; have h3 : (keysP y.l).length ≤ y.l.length := List.length_filterMap_le _ _; omega
                have HML := toHid hml
                have HML2 := toHid hml2
                have hPA := HPA.out.1.still hP.touch
                have H1 := toHid (ikeys_any hPA.idx)
                rw [HPA.out.2.2] at H1
                have HA := toHid (And.intro hPA HPA.out.2.1)
                have HBB := toHid (And.intro hP (And.intro hxR hyX))
                clear hml hml2 hPA hP hxR hxc HI hyX
                go_wp2_with fail
                refine Calls.mono H1.out ?_
                rintro e w9 ⟨⟨v, rfl, hK⟩, ht9⟩
                have hP9 := HA.out.1.still ht9
                have H2 := toHid (rkeys_any hP9.ref (by have h1 := hP9.good.m2; have h2 : s.p.slots.length = s.slots.length := (by simp [RX.p]); omega))
                rw [hP9.keysOf, HA.out.2] at H2
                have HK := toHid (And.intro hK ht9)
                clear hK ht9 hP9 H1
                go_wp2_with fail
                refine Calls.mono H2.out ?_
                rintro e w10 ⟨⟨v2, rfl, hK2⟩, ht10⟩
                have H3 := toHid (sameKeys_any (HK.out.1.touch ht10 (by simp)) hK2 HML.out)
                have HT10 := toHid (HK.out.2.trans ht10 (by simp))
                clear hK2 ht10 H2
                go_wp2_with fail
                refine Calls.mono H3.out ?_
                rintro e w11 ⟨rfl, ht11⟩
                have hPB := HBB.out.1.still (HT10.out.trans ht11 (by simp))
                have H4 := toHid (ikeys_any hPB.idx)
                rw [HBB.out.2.2] at H4
                have HB4 := toHid hPB
                clear ht11 H3 HT10 hPB HK
                go_wp2_with fail
                refine Calls.mono H4.out ?_
                rintro e w12 ⟨⟨v3, rfl, hK3⟩, ht12⟩
                have hP12 := HB4.out.still ht12
                have H5 := toHid (rkeys_any hP12.ref (by have h1 := hP12.good.m2; have h2 : t.p.slots.length = t.slots.length := (by simp [RX.p]); omega))
                rw [hP12.keysOf, HBB.out.2.1] at H5
                have HK3 := toHid (And.intro hK3 ht12)
                clear hK3 ht12 hP12 H4
                go_wp2_with fail
                refine Calls.mono H5.out ?_
                rintro e w13 ⟨⟨v4, rfl, hK4⟩, ht13⟩
                have H6 := toHid (sameKeys_any (HK3.out.1.touch ht13 (by simp)) hK4 HML2.out)
                have HT13 := toHid (HTB.out.trans (HB4.out.touch.trans (HK3.out.2.trans ht13 (by simp)) (by simp)) (by simp))
                clear hK4 ht13 H5
                go_wp2_with fail
                refine Calls.mono H6.out ?_
                rintro e w14 ⟨rfl, ht14⟩
                have HF := toHid (HT13.out.trans ht14 (by simp))
                clear ht14 H6 HT13
                go_wp2
                go_ret
                exact ⟨rfl, HF.out⟩
  · go_wp2_with fail
    refine (inew_bad w4 a m hm).mono ?_
    rintro e w5 ⟨rfl, rfl⟩
    go_wp2_with fail
    refine (rnewA_bad _ 3 a m (by unfold newOk; rw [if_neg (by decide), if_pos rfl, if_neg (by decide)]; omega)).mono ?_
    rintro e w6 ⟨rfl, rfl⟩
    clear hm
    go_wp2
    go_ret
    exact ⟨rfl, HT4.out⟩
end Go.Proofs.Ytlkbaconlngmjaa
