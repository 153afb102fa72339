/-
  For every input LruKeeps returns true. (The walk.)
-/
import Derived.Test.YtlkppkgfnmlblaaKeep
import Derived.Deep.CutBlock
namespace Go.Proofs.Ytlkppkgfnmlblaa
open Go.RowKit Go.Maps

theorem KeepAt.start {w0 w : World} {X b M : Nat} (h : LOwn w0 w ⟨X, b, 1, List.replicate M none, none, 0, []⟩) (ks : List Int) : KeepAt w0 w X M ks 0 :=
  ⟨_, h, rfl, ⟨rfl, by simp, fun bs hbs => by simp at hbs, Or.inl fun q hq => absurd hq (by omega), fun q hq => absurd hq (by omega)⟩⟩
theorem KLs.nth {w0 w : World} {g : Option Nat} {cap : Nat} {l : List KS} (h : KLs w0 w g cap l) {j : Nat} (hj : j < l.length) : ∃ b k, g = some b ∧ l[j]? = some k ∧ k.At w ∧ w.cell? ⟨b, j, none⟩ = some k.v := by
  have hget : l[j]? = some l[j] := List.getElem?_eq_getElem hj
  have hr := h.row
  cases hg : g with
  | none =>
    rw [hg] at hr
    have h1 := hr.2.1
    have h2 : cap = 0 := hr.2.2.2
    omega
  | some b =>
    rw [hg] at hr
    obtain ⟨_, _, _, rest, hB, _⟩ := hr
    refine ⟨b, l[j], rfl, hget, (h.keys _ (List.mem_of_getElem? hget)).1, hB.cell ?_⟩
    rw [List.getElem?_append_left (by simpa using hj), List.getElem?_map, hget]
    rfl

set_option maxHeartbeats 8000000 in
set_option maxRecDepth 100000 in
theorem lruKeeps_walk (m : Int) (sk : Option Addr) (kl kc : Nat) (ks : List Int) (w : World) (hk : KeyAt w sk kl ks) :
    Calls Try.prog 5 #[.int .i64 m, .slice sk kl kc] w fun e w' => e = .returned (.bool true) ∧ Touch [] w w' := by
  have hkl : kl ≤ 9223372036854775807 := by rw [hk.1]; exact hk.2.2.1
  have HK := toHid hk
  clear hk
  by_cases hm : 1 ≤ m ∧ m ≤ 64
  · obtain ⟨M, rfl⟩ := Int.eq_ofNat_of_zero_le (show 0 ≤ m by omega)
    go_enter Try.func5, Try.ntmps5
    go_wp2_with fail
    refine (first_any _).mono ?_
    rintro e w2 ⟨rfl, ht2⟩
    have HT2 := toHid ht2
    clear ht2
    go_wp2_with fail
    refine (LOwn.new w w2 HT2.out 1 M (by omega) (by omega) (by omega) (by omega)).mono ?_
    rintro e w3 ⟨X, b, rfl, hL, _⟩
    have HL := toHid (KeepAt.start hL ks)
    clear hL
    go_upto_block 0 with fail
    go_cut [7, 8, 9, 10, 11, 41] from 42 to 65 (fun _ _ _ _ _ _ wx => Hid (KeepAt w wx X M ks (min kl 100)))
    case first =>
      go_wp2_with fail
      go_loopw [41] (fun i w' => ∃ k : Nat, k ≤ kl ∧ k ≤ 100 ∧ i = .int .i64 k ∧ Hid (KeepAt w w' X M ks k)) (fun i _ => kl - (intOf i).toNat)
      case atStart => exact ⟨0, by omega, by omega, rfl, HL⟩
      case round =>
        clear HL
        obtain ⟨k, hkn, hk100, rfl, HI⟩ := hrel
        by_cases hlt : k < kl
        · have HKW := HK.out.touch HI.out.touch
          obtain ⟨kb, ko, hsk, hkc⟩ := HKW.2.2.2 (by rw [← HKW.1]; omega)
          subst hsk
          have hz := hkc k (by rw [← HKW.1]; exact hlt)
          have hzb := getD_bd HKW.2.1 k
          have hlt' : (k : Int) < kl := by omega
          by_cases h100 : k = 100
          · subst h100
            have HF : Hid (KeepAt w wr X M ks (min kl 100)) := by
              rw [Nat.min_eq_right (by omega)]
              exact HI.out
            clear HKW hkc HI
            generalize ks.getD 100 0 = z at *
            go_wp2
            go_meet
            exact HF
          · have h100' : (k : Int) < 100 := by omega
            by_cases h3 : k % 3 = 2
            · have H1 := toHid (keep_find HI.out h3 hzb)
              have h3b : (((k : Int) % 3) == 2) = true := by rw [beq_iff_eq]; omega
              generalize ks.getD k 0 = z at *
              clear HKW hkc h3 HI h100
              go_wp2_with fail
              refine Calls.mono H1.out ?_
              rintro e w5 ⟨fi, fp, rfl, hK5⟩
              have HN := toHid hK5
              clear hK5 H1
              go_wp2
              go_roundw
              case rel => exact ⟨k + 1, by omega, by omega, by go_num, HN⟩
              case measure => simp [intOf]; omega
            · have H1 := toHid (keep_put HI.out h3 hzb)
              have h3b : (((k : Int) % 3) == 2) = false := beq_false_of_ne (by omega)
              generalize ks.getD k 0 = z at *
              clear HKW hkc h3 HI h100
              go_wp2_with fail
              refine Calls.mono H1.out ?_
              rintro e w5 ⟨fi, fp, rfl, hK5⟩
              have HN := toHid hK5
              clear hK5 H1
              go_wp2
              go_roundw
              case rel => exact ⟨k + 1, by omega, by omega, by go_num, HN⟩
              case measure => simp [intOf]; omega
        · have HF : Hid (KeepAt w wr X M ks (min kl 100)) := by
            rw [Nat.min_eq_left (by omega)]
            have : k = kl := by omega
            rw [← this]
            exact HI.out
          clear HI
          go_wp2
          go_meet
          exact HF
    case rest =>
      obtain ⟨N, hN1, hN2, hN3, HN⟩ : ∃ N : Nat, N ≤ kl ∧ N ≤ 100 ∧ (kl ≤ N ∨ 100 ≤ N) ∧ Hid (KeepAt w wc X M ks N) := ⟨min kl 100, by omega, by omega, by omega, hcut⟩
      clear hcut HL
      generalize hw4 : wc = w4 at *
      clear hw4
      go_upto_region 16 with fail
      go_cut [12] from 66 to 68 (fun n wx => n = .int .i64 N ∧ wx = w4)
      case first =>
        go_wp2
        all_goals
          go_meet
          exact ⟨congrArg (Value.int .i64) (by omega), rfl⟩
      case rest =>
        obtain ⟨rfl, rfl⟩ := hcut
        obtain ⟨x, hL, hX, hKp⟩ := HN.out
        have H1 := toHid (lkeys_any hL.idx)
        rw [hX] at H1
        have HF1 := toHid (And.intro (hKp.fin hL.idx) hL.touch)
        clear hL hX hKp HN
        go_wp2_with fail
        refine Calls.mono H1.out ?_
        rintro e w6 ⟨⟨v, rfl, g, cap, l2, rfl, hKL, hlm⟩, ht6⟩
        rw [← hlm] at HF1
        have HT6 := toHid (HF1.out.2.trans ht6 (by simp))
        obtain ⟨L, hL⟩ : ∃ L, l2.length = L := ⟨_, rfl⟩
        have hLM : L ≤ M := by
          have := HF1.out.1.few
          rw [List.length_map] at this
          omega
        have hM64 : M ≤ 64 := by omega
        have HKL := toHid (And.intro hKL hL)
        rw [hL]
        unfold slV
        generalize hsg : (g.map fun b => (⟨b, 0, none⟩ : Addr)) = sg at *
        have HG := toHid hsg
        clear hKL hlm ht6 H1 hL hsg
        go_upto_block 2 with fail
        go_cut [13, 15] from 73 to 100 (fun a _ wx => ∃ (sa : Option Addr) (al cp : Nat), a = .slice sa al cp ∧ Hid (Touch [] w6 wx) ∧ Hid (al < M → L = al))
        case first =>
          go_wp2_with fail
          go_loopw [13, 15] (fun a i w' => ∃ (i0 : Nat) (z : Int) (g : Option Nat) (cap : Nat) (acc : List Int), i = .int .i64 z ∧ z = (i0 : Int) - 1 ∧ i0 ≤ N ∧ a = slV g acc.length cap ∧ Hid (BytesAt w' g cap acc ∧ (∀ b, g = some b → w6.heap.size ≤ b) ∧ Seen ks N i0 acc ∧ Touch [] w6 w')) (fun _ i _ => (intOf i + 1).toNat)
          case atStart => exact ⟨N, (N : Int) - 1, none, 0, [], rfl, rfl, Nat.le_refl _, rfl, ⟨⟨rfl, Nat.le_refl _, Nat.zero_le _, rfl⟩, fun b hb => (by cases hb), Seen.start ks N, Touch.refl _ _⟩⟩
          case round =>
            obtain ⟨i0, z, ga, ca, acc, rfl, hz, hi0, rfl, HI⟩ := hrel
            by_cases h0 : i0 = 0
            · subst h0
              have hzd : decide (z ≥ 0) = false := decide_eq_false (by omega)
              clear hz
              have HX : Hid (Touch [] w6 wr) := HI.out.2.2.2
              have HC : Hid (acc.length < M → L = acc.length) := fun hl => by
                have := HF1.out.1.count HI.out.2.2.1 hl
                rw [List.length_map] at this
                have h9 := HKL.out.2
                omega
              clear HI
              unfold slV
              generalize (ga.map fun b => (⟨b, 0, none⟩ : Addr)) = sa at *
              generalize acc.length = al at *
              go_wp2
              go_meet
              exact ⟨sa, al, ca, rfl, HX, HC⟩
            · by_cases hM : M ≤ acc.length
              · have HX : Hid (Touch [] w6 wr) := HI.out.2.2.2
                have HC : Hid (acc.length < M → L = acc.length) := fun hl => absurd hl (by omega)
                have hz0 : 0 ≤ z := by omega
                have hMz : (M : Int) ≤ acc.length := by omega
                have hzM : ¬ ((acc.length : Int) < M) := by omega
                clear HI hz
                unfold slV
                generalize (ga.map fun b => (⟨b, 0, none⟩ : Addr)) = sa at *
                generalize acc.length = al at *
                go_wp2
                go_meet
                exact ⟨sa, al, ca, rfl, HX, HC⟩
              · obtain ⟨p, rfl⟩ : ∃ p, i0 = p + 1 := ⟨i0 - 1, by omega⟩
                obtain rfl : z = (p : Int) := by omega
                obtain ⟨hBA, hbo, hS, hT⟩ := HI.out
                have hfew := hS.few
                have hMz : ((acc.length : Nat) : Int) < M := by omega
                have hpl : p < kl := by omega
                have HKW := HK.out.touch (HT6.out.trans hT (by simp))
                obtain ⟨kb, ko, hsk, hkc⟩ := HKW.2.2.2 (by rw [← HKW.1]; omega)
                subst hsk
                have hzc := hkc p (by rw [← HKW.1]; exact hpl)
                have hp' : (p : Int) < kl := by omega
                by_cases h3 : p % 3 = 2
                · have h3b : (((p : Int) % 3) == 2) = true := by rw [beq_iff_eq]; omega
                  have HN : Hid (BytesAt wr ga ca acc ∧ (∀ b, ga = some b → w6.heap.size ≤ b) ∧ Seen ks N p acc ∧ Touch [] w6 wr) := ⟨hBA, hbo, hS.skip (Or.inl h3), hT⟩
                  generalize ks.getD p 0 = z at *
                  clear hBA hbo hS hT hfew HKW hkc h3 HI h0 hz hM
                  generalize hal : acc.length = al at *
                  have HL := toHid hal
                  clear hal
                  unfold slV
                  generalize hsga : (ga.map fun b => (⟨b, 0, none⟩ : Addr)) = sga at *
                  have HSG := toHid hsga
                  clear hsga
                  go_wp2
                  go_roundw
                  case rel => exact ⟨p, (p : Int) - 1, ga, ca, acc, rfl, rfl, by omega, by rw [HL.out, HSG.out], HN⟩
                  case measure => first | (simp [intOf]; done) | (simp [intOf]; omega)
                · have h3b : (((p : Int) % 3) == 2) = false := beq_false_of_ne (by omega)
                  have H1 := toHid (has_any hBA (by omega) (ks.getD p 0))
                  obtain ⟨g5, c5, w5, hr5, hB5, hT5, hg5⟩ := bytes_push hBA (by omega) (ks.getD p 0)
                  have HR := toHid hr5
                  have HN1 : Hid (ks.getD p 0 ∈ acc → BytesAt wr ga ca acc ∧ (∀ b, ga = some b → w6.heap.size ≤ b) ∧ Seen ks N p acc ∧ Touch [] w6 wr) := fun hm => ⟨hBA, hbo, hS.skip (Or.inr hm), hT⟩
                  have HN2 : Hid (ks.getD p 0 ∉ acc → BytesAt w5 g5 c5 (acc ++ [ks.getD p 0]) ∧ (∀ b, g5 = some b → w6.heap.size ≤ b) ∧ Seen ks N p (acc ++ [ks.getD p 0]) ∧ Touch [] w6 w5) := fun hm =>
                    ⟨hB5, fun b hb => by
                      rcases hg5 b hb with h1 | h1
                      · exact hbo b (by simpa using h1)
                      · have := hT.size
                        omega, hS.push h3 hm, hT.trans hT5 (fun y hy => Or.inr (hbo y (by simpa using hy)))⟩
                  have hal1 : (acc ++ [ks.getD p 0]).length = acc.length + 1 := by simp
                  generalize acc ++ [ks.getD p 0] = acc2 at *
                  generalize ks.getD p 0 = z at *
                  clear hBA hbo hS hT hfew HKW hkc h3 HI h0 hz hM hr5 hB5 hT5 hg5
                  generalize hal : acc.length = al at *
                  have HL := toHid (And.intro hal hal1)
                  clear hal hal1
                  unfold slV at *
                  generalize hsga : (ga.map fun b => (⟨b, 0, none⟩ : Addr)) = sga at *
                  have HSG := toHid hsga
                  clear hsga
                  generalize hsg5 : (g5.map fun b => (⟨b, 0, none⟩ : Addr)) = sg5 at *
                  have HS5 := toHid hsg5
                  clear hsg5
                  go_wp2_with fail
                  refine Calls.mono H1.out ?_
                  rintro e w8 ⟨⟨hb, rfl, hbm⟩, rfl⟩
                  cases hb with
                  | true =>
                    have HN := toHid (HN1.out (hbm.1 rfl))
                    clear hbm H1 HN1 HN2 HR
                    go_wp2
                    go_roundw
                    case rel => exact ⟨p, (p : Int) - 1, ga, ca, acc, rfl, rfl, by omega, by rw [HL.out.1, HSG.out], HN⟩
                    case measure => first | (simp [intOf]; done) | (simp [intOf]; omega)
                  | false =>
                    have HN := toHid (HN2.out (fun hm => by have := hbm.2 hm; cases this))
                    clear hbm H1 HN1 HN2
                    go_wp2_with (first | (at_builtin; refine Lib.wpList_append_run _ rfl _ _ _ _ rfl _ _ rfl rfl _ _ HR.out ?_))
                    go_roundw
                    case rel => exact ⟨p, (p : Int) - 1, g5, c5, acc2, rfl, rfl, by omega, by rw [HL.out.2, HS5.out], HN⟩
                    case measure => first | (simp [intOf]; done) | (simp [intOf]; omega)
        case rest =>
          obtain ⟨sa, al, cp, rfl, HTw, HAL⟩ := hcut
          go_upto_region 24 with fail
          generalize hw7 : wc = w7 at *
          clear hw7
          go_cut [111] from 101 to 111 (fun c wx => c = .bool false ∧ wx = w7)
          case first =>
            by_cases hal : al < M
            · have hla := HAL.out hal
              subst hla
              have hz : (L : Int) < M := by omega
              go_wp2
              go_meet
              exact ⟨rfl, rfl⟩
            · have hd : decide ((al : Int) < (M : Int)) = false := decide_eq_false (by omega)
              go_wp2
              go_meet
              exact ⟨rfl, rfl⟩
          case rest =>
            obtain ⟨rfl, rfl⟩ := hcut
            generalize hw7 : wc = w7 at *
            clear hw7
            go_wp2_with fail
            go_loop [114] (fun t => ∃ k : Nat, k ≤ L ∧ t = .int .i64 k) (fun t => L - (intOf t).toNat)
            case atStart => exact ⟨0, by omega, rfl⟩
            case round =>
              obtain ⟨k, hkL, rfl⟩ := hrel
              have hKL7 := HKL.out.1.touch HTw.out (by simp)
              have hLe := HKL.out.2
              by_cases hlt : k < L
              · obtain ⟨gb, ky, hgb, hget, hAt, hcell⟩ := hKL7.nth (j := k) (by omega)
                have hsg := HG.out
                rw [hgb, Option.map_some] at hsg
                subst hsg
                have hlen : ky.bs.length = 1 := by
                  obtain ⟨q, _, _, e⟩ := HF1.out.1.from_ ky.bs (List.mem_map.2 ⟨ky, List.mem_of_getElem? hget, rfl⟩)
                  rw [e]
                  rfl
                unfold KS.v at hcell
                rw [hlen] at hcell
                clear hKL7 hLe hgb hget hAt hlen
                have hkz : (k : Int) < L := by omega
                go_wp2
                exact ⟨⟨k + 1, by omega, by go_num⟩, by simp [intOf]; omega⟩
              · obtain rfl : k = L := by omega
                have hLz : (k : Int) ≤ M := by omega
                by_cases hN0 : N = 0
                · subst hN0
                  have HF := toHid (HT6.out.trans HTw.out (by simp))
                  clear hKL7 hLe
                  go_wp2
                  go_ret
                  exact ⟨rfl, HF.out⟩
                · obtain ⟨P, rfl⟩ : ∃ P, N = P + 1 := ⟨N - 1, by omega⟩
                  by_cases h3 : P % 3 = 2
                  · have h3b : (((P : Int) % 3) != 2) = false := by
                      have h9 : (P : Int) % 3 = 2 := by omega
                      rw [h9]
                      rfl
                    have HF := toHid (HT6.out.trans HTw.out (by simp))
                    clear hKL7 hLe h3
                    go_wp2
                    go_ret
                    exact ⟨rfl, HF.out⟩
                  · have h3b : (((P : Int) % 3) != 2) = true := by
                      rw [bne_iff_ne]
                      omega
                    have HPH : Hid (P % 3 ≠ 2) := h3
                    have HKW := HK.out.touch (HT6.out.trans HTw.out (by simp))
                    obtain ⟨kb, ko, hsk, hkc⟩ := HKW.2.2.2 (by rw [← HKW.1]; omega)
                    subst hsk
                    have hzc := hkc P (by rw [← HKW.1]; omega)
                    have hPl : (P : Int) < kl := by omega
                    generalize hzz : ks.getD P 0 = z at *
                    have HZZ := toHid hzz
                    have HC := toHid (And.intro hzc (And.intro hKL7 hLe))
                    clear hzz hKL7 hLe h3 HKW hkc hzc
                    go_wp2_with fail
                    go_loopw [17, 134] (fun fd t w' => ∃ (q : Nat) (b : Bool), q ≤ k ∧ t = .int .i64 q ∧ fd = .bool b ∧ Hid (Touch [] w7 w' ∧ ((∃ j, j < q ∧ (l2.map KS.bs)[j]? = some [z]) → b = true))) (fun _ t _ => k - (intOf t).toNat)
                    case atStart => exact ⟨0, false, by omega, rfl, rfl, Touch.refl _ _, fun ⟨j, hj, _⟩ => absurd hj (by omega)⟩
                    case round =>
                      obtain ⟨q, b, hqk, rfl, rfl, HI⟩ := hrel
                      have hT := HI.out.1
                      have hKLr := HC.out.2.1.touch hT (by simp)
                      have hLe := HC.out.2.2
                      have hzc := hT.cell HC.out.1 (by simp)
                      by_cases hlq : q < k
                      · obtain ⟨gb, ky, hgb, hget, hAt, hcell⟩ := hKLr.nth (j := q) (by omega)
                        have hsg := HG.out
                        rw [hgb, Option.map_some] at hsg
                        subst hsg
                        obtain ⟨y, hy⟩ : ∃ y, ky.bs = [y] := by
                          obtain ⟨q', _, _, e⟩ := HF1.out.1.from_ ky.bs (List.mem_map.2 ⟨ky, List.mem_of_getElem? hget, rfl⟩)
                          exact ⟨_, e⟩
                        have hlen : ky.bs.length = 1 := by rw [hy]; rfl
                        have hyc := hAt.cell 0 (by omega)
                        rw [hy] at hyc
                        simp only [List.getD_cons_zero] at hyc
                        unfold KS.v at hcell
                        rw [hlen] at hcell
                        have hmq : (l2.map KS.bs)[q]? = some [y] := by rw [List.getElem?_map, hget, Option.map_some, hy]
                        have HN : Hid (∀ nq, Touch [] w7 (wr.drewN nq) ∧ ((∃ j, j < q + 1 ∧ (l2.map KS.bs)[j]? = some [z]) → (b || (y == z)) = true)) := fun nq => ⟨hT.drewN nq, fun ⟨j, hj, hjz⟩ => by
                          by_cases e : j = q
                          · subst e
                            rw [hmq] at hjz
                            injection hjz with hjz
                            injection hjz with hjz
                            subst hjz
                            simp
                          · rw [HI.out.2 ⟨j, by omega, hjz⟩]
                            rfl⟩
                        have hqz : (q : Int) < k := by omega
                        clear hKLr hLe hgb hget hAt hlen hy hmq HI hT
                        cases b with
                        | true =>
                          go_wp2_with fail
                          go_quiet (fail)
                          go_wp2
                          go_roundw
                          case rel => exact ⟨q + 1, true, by omega, by go_num, rfl, (HN.out _).1, fun _ => rfl⟩
                          case measure => simp [intOf]; omega
                        | false =>
                          simp only [Bool.false_or] at HN
                          go_wp2_with fail
                          go_quiet (fail)
                          go_wp2
                          go_roundw
                          case rel => exact ⟨q + 1, (y == z), by omega, by go_num, rfl, HN.out _⟩
                          case measure => simp [intOf]; omega
                      · obtain rfl : q = k := by omega
                        have hbt : b = true := HI.out.2 (by
                          have hm := HF1.out.1.last P rfl HPH.out
                          rw [HZZ.out] at hm
                          obtain ⟨j, hj, e⟩ := List.getElem_of_mem hm
                          have hj' := hj
                          rw [List.length_map, hLe] at hj'
                          exact ⟨j, hj', by rw [List.getElem?_eq_getElem hj, e]⟩)
                        subst hbt
                        have HF := toHid ((HT6.out.trans HTw.out (by simp)).trans hT (by simp))
                        clear hKLr hLe hT HI
                        go_wp2
                        go_ret
                        exact ⟨rfl, HF.out⟩
  · go_enter Try.func5, Try.ntmps5
    go_wp2_with fail
    refine (first_any _).mono ?_
    rintro e w2 ⟨rfl, ht2⟩
    go_wp2_with fail
    refine (lnew_bad w2 1 m (by omega)).mono ?_
    rintro e w3 ⟨rfl, rfl⟩
    by_cases h1 : m < 1
    · clear hm
      go_wp2
      go_ret
      exact ⟨rfl, ht2⟩
    · have h2 : 64 < m := by omega
      clear hm
      go_wp2
      go_ret
      exact ⟨rfl, ht2⟩
end Go.Proofs.Ytlkppkgfnmlblaa
