/-
  For every input HashSlots returns true. (The walk.)
-/
import Derived.Test.YtalmgjahfhdlbaaFirst
namespace Go.Proofs.Ytalmgjahfhdlbaa
open Go.RowKit Go.Maps

theorem info4 : (Try.prog.info? 4).map (fun i => (i.zero, i.size, i.bytes)) = some (some (.bool false), 1, 1) := by kernel_rfl

/-- The hash, and how many keys it holds. -/
def SlotsAt (w w' : World) (S X b A M held : Nat) : Prop := ∃ l, HAt w' ⟨X, b, A, l⟩ ∧ l.length = M ∧ held = (keysP l).length ∧ Blk w' S [.int .i64 (A : Int), .int .i64 (M : Int)] 22 ∧ Touch [] w w'

/-- Which slots have been seen, j keys on. -/
def SeenIn (w' : World) (B M : Nat) (l : List (Option (List Int))) (j : Nat) : Prop := ∃ sn : List Bool, sn.length = M ∧ Blk w' B (sn.map Value.bool) 4 ∧ ∀ i : Nat, sn[i]? = some true → ∃ (j' : Nat) (bs : List Int), j' < j ∧ (keysP l)[j']? = some bs ∧ l[i]? = some (some bs)
theorem SeenIn.touch {w w' : World} {B M j : Nat} {l : List (Option (List Int))} (h : SeenIn w B M l j) (ht : Touch [] w w') : SeenIn w' B M l j := by
  obtain ⟨sn, h1, h2, h3⟩ := h
  exact ⟨sn, h1, ht.blk h2 (by simp), h3⟩
/-- The next key's slot has not been seen. -/
theorem SeenIn.fresh {w : World} {B M j i : Nat} {l : List (Option (List Int))} (h : SeenIn w B M l j) (hN : (keysP l).Nodup) {bs : List Int} (hj : (keysP l)[j]? = some bs) (hi : l[i]? = some (some bs)) (hiM : i < M) :
    w.cell? ⟨B, i, none⟩ = some (.bool false) ∧ w.frozen? ⟨B, i, none⟩ = false ∧ SeenIn (w.setCell ⟨B, i, none⟩ (.bool true)) B M l (j + 1) ∧ B < w.heap.size := by
  obtain ⟨sn, h1, h2, h3⟩ := h
  have hil : i < sn.length := by omega
  have hno : sn[i]? = some false := by
    rw [List.getElem?_eq_getElem hil]
    cases hb : sn[i] with
    | false => rfl
    | true =>
      obtain ⟨j', bs', hj', hk, hl⟩ := h3 i (by rw [List.getElem?_eq_getElem hil, hb])
      rw [hi] at hl
      injection hl with hl
      injection hl with hl
      subst hl
      obtain ⟨q1, e1⟩ := List.getElem?_eq_some_iff.1 hj
      obtain ⟨q2, e2⟩ := List.getElem?_eq_some_iff.1 hk
      exact absurd (e2.trans e1.symm) (List.pairwise_iff_getElem.1 hN j' j q2 q1 hj')
  refine ⟨h2.cell (by rw [List.getElem?_map, hno]; rfl), h2.frozen i, ⟨sn.set i true, by simpa using h1, ?_, fun q hq => ?_⟩, h2.lt⟩
  · rw [List.map_set]
    exact h2.setCell i _
  · by_cases e : i = q
    · subst e
      exact ⟨j, bs, by omega, hj, hi⟩
    · rw [List.getElem?_set_ne e] at hq
      obtain ⟨j', bs', hj', hk, hl⟩ := h3 q hq
      exact ⟨j', bs', by omega, hk, hl⟩

set_option maxHeartbeats 8000000 in
set_option maxRecDepth 100000 in
theorem hashSlots_walk (a m : Int) (sa : Option Addr) (n c : Nat) (f : Nat → OpC) (w : World) (hs : Script w sa n f) (hn : n ≤ 9223372036854775807) :
    Calls Try.prog 5 #[.agg #[.int .i64 a, .int .i64 m], .slice sa n c] w fun e w' => e = .returned (.bool true) ∧ Touch [] w w' := by
  have HS := toHid hs
  have hB := Blk.newA w #[.int .i64 a, .int .i64 m] _ 22 rfl
  have HB := toHid hB
  have HT1 := toHid ((Touch.refl [] w).alloc (.cells #[.int .i64 a, .int .i64 m] 22))
  clear hs hB
  by_cases hm : 1 ≤ m ∧ m ≤ 64 ∧ 1 ≤ a ∧ a ≤ 16
  · obtain ⟨M, rfl⟩ := Int.eq_ofNat_of_zero_le (show 0 ≤ m by omega)
    obtain ⟨A, rfl⟩ := Int.eq_ofNat_of_zero_le (show 0 ≤ a by omega)
    go_enter Try.func5, Try.ntmps5
    go_wp2_with fail
    refine (first_any _).mono ?_
    rintro e w2 ⟨rfl, ht2⟩
    have hb2 := ht2.blk HB.out (by simp)
    have d0 := hb2.cell (i := 0) rfl
    have d1 := hb2.cell (i := 1) rfl
    have HT2 := toHid (HT1.out.trans ht2 (by simp))
    have HB2 := toHid hb2
    have HL2 := toHid hb2.lt
    clear ht2 HB HT1 hb2
    go_wp2_with fail
    refine (new_any w2 A M (by omega) (by omega) (by omega) (by omega)).mono ?_
    rintro e w3 ⟨X, b, rfl, hA, hX, hb, ht3⟩
    have HXB : Hid (w.heap.size ≤ X ∧ w.heap.size ≤ b ∧ w.heap.size ≠ b) := by
      have := HT2.out.size
      have := HL2.out
      exact ⟨by omega, by omega, by omega⟩
    have HP : Hid (SlotsAt w w3 w.heap.size X b A M 0) := ⟨_, hA, by simp, by simp [keysP], ht3.blk HB2.out (by simp), HT2.out.trans ht3 (by simp)⟩
    generalize hSS : w.heap.size = S at *
    have HSS := toHid hSS
    clear hA hX hb ht3 d0 d1 HB2 HL2 HT2 hSS
    go_wp2_with fail
    go_loopw [7, 43] (fun h i w' => ∃ k : Nat, k ≤ n ∧ k ≤ 60 ∧ i = .int .i64 k ∧ ∃ held : Nat, h = .int .i64 held ∧ Hid (SlotsAt w w' S X b A M held)) (fun _ i _ => n - (intOf i).toNat)
    case atStart => exact ⟨0, by omega, by omega, rfl, 0, rfl, HP⟩
    case round =>
      clear HP
      obtain ⟨k, hk, hk60, rfl, held, rfl, HI⟩ := hrel
      by_cases hlt : k < n
      · obtain ⟨l, hA, hlM, hheld, hBS, hT⟩ := HI.out
        obtain ⟨sb, off, hsa, hcell⟩ := HS.out.at_ hlt
        subst hsa
        obtain ⟨ok, c0, c1, c2⟩ := hcell k hlt
        replace c0 := hT.cell c0 (by simp)
        replace c1 := hT.cell c1 (by simp)
        replace c2 := hT.cell c2 (by simp)
        generalize f k = o at *
        have hkn : (k : Int) < n := by omega
        by_cases h60 : k = 60
        · subst h60
          have HT := toHid (hT.alloc (.cells #[.int .i64 o.k, .slice o.sa o.sl o.sc, .int .u64 o.fl] 35))
          clear hA hlM hheld hBS hT hcell ok HI
          go_wp2
          go_ret
          exact ⟨rfl, HT.out⟩
        · have h60' : ¬ (60 : Int) ≤ k := by omega
          have hta := (Touch.refl [] wr).alloc (.cells #[.int .i64 o.k, .slice o.sa o.sl o.sc, .int .u64 o.fl] 35)
          have hA1 := hA.touch hta (by simp) (by simp)
          have hT1 := hT.trans hta (by simp)
          have H1 := toHid (find_any hA1 (ok.key.touch hT1) o.sc)
          have HOB := toHid (Blk.newA wr #[.int .i64 o.k, .slice o.sa o.sl o.sc, .int .u64 o.fl] _ 35 rfl)
          have HQ := toHid (And.intro hA1 (And.intro hlM (And.intro hheld (And.intro (hta.blk hBS (by simp)) (And.intro hT1 ok)))))
          clear hA hlM hheld hBS hT hcell ok HI hta hA1 hT1
          go_wp2_with fail
          refine Calls.mono H1.out ?_
          rintro e w4 ⟨rfl, ht4⟩
          have hob := ht4.blk HOB.out (by simp)
          have e0 := hob.cell (i := 0) rfl
          have e1 := hob.cell (i := 1) rfl
          have e2 := hob.cell (i := 2) rfl
          have HW : Hid (HAt w4 ⟨X, b, A, l⟩ ∧ l.length = M ∧ held = (keysP l).length ∧ Blk w4 S [.int .i64 (A : Int), .int .i64 (M : Int)] 22 ∧ Touch [] w w4 ∧ o.Ok w) :=
            ⟨HQ.out.1.touch ht4 (by simp) (by simp), HQ.out.2.1, HQ.out.2.2.1, ht4.blk HQ.out.2.2.2.1 (by simp), HQ.out.2.2.2.2.1.trans ht4 (by simp), HQ.out.2.2.2.2.2⟩
          unfold foundV
          generalize hNN : wr.heap.size = NN at *
          clear ht4 H1 HOB HQ hob c0 c1 c2 hNN
          go_upto_if 61 with fail
          go_cut [7, 10, 11, 12, 13, 14, 15, 16] from 50 to 119 (fun h _ _ _ _ _ _ _ wx => ∃ held' : Nat, h = .int .i64 held' ∧ Hid (SlotsAt w wx S X b A M held'))
          case first =>
            obtain ⟨hA, hlM, hheld, hBS, hT, ok⟩ := HW.out
            have h64 := hA.map.many
            have h64' : l.length ≤ 64 := h64
            have hhl : held ≤ 64 := by rw [hheld]; have := held_le l; unfold keysP; omega
            have hbb : ∀ y ∈ [b], y ∈ ([] : List Nat) ∨ w.heap.size ≤ y := fun y hy => Or.inr (by simp at hy; rw [hy, HSS.out]; exact HXB.out.2.1)
            have hSb : S ∉ [b] := by simp; exact HXB.out.2.2
            have HY := toHid (And.intro hbb (And.intro hSb hlM))
            clear HW h64 hbb hSb
            by_cases hk2 : (IntKind.u64.wrap o.k).tmod 3 = 2
            · have H2 := toHid (del_any hA (ok.key.touch hT) o.sc)
              cases hf : HX.find ⟨X, b, A, l⟩ o.bs with
              | none =>
                obtain ⟨hde, hdl⟩ := del_none hf
                generalize HX.del ⟨X, b, A, l⟩ o.bs = pr at *
                have hde' : (pr.1.2 == 0) = false := by simpa using hde
                unfold idx0 Option.isSome
                have HQ := toHid (And.intro hdl (And.intro hheld (And.intro hBS hT)))
                clear hde hdl hheld hBS hT hf hA ok
                go_wp2_with fail
                refine Calls.mono H2.out ?_
                rintro e w5 ⟨rfl, hA5, ht5⟩
                rw [HQ.out.1] at hA5
                have HN : Hid (SlotsAt w w5 S X b A M held) := ⟨l, hA5, HY.out.2.2, HQ.out.2.1, ht5.blk HQ.out.2.2.1 HY.out.2.1, HQ.out.2.2.2.trans ht5 HY.out.1⟩
                clear hA5 ht5 H2 HQ
                go_wp2
                go_meet
                exact ⟨held, rfl, HN⟩
              | some i =>
                rw [del_some hf] at H2
                have hfg := find_get hf
                have hhd : (keysP (l.set i none)).length + 1 = (keysP l).length := held_del hfg.1
                have hh1 : 1 ≤ held := by rw [hheld]; omega
                unfold idx0 Option.isSome
                have HQ := toHid (And.intro hhd (And.intro hheld (And.intro hBS hT)))
                clear hheld hBS hT hf hA ok hhd hfg
                go_wp2_with fail
                refine Calls.mono H2.out ?_
                rintro e w5 ⟨rfl, hA5, ht5⟩
                have HN : Hid (SlotsAt w w5 S X b A M (held - 1)) := ⟨l.set i none, hA5, by rw [List.length_set]; exact HY.out.2.2, by have := HQ.out.1; have := HQ.out.2.1; omega, ht5.blk HQ.out.2.2.1 HY.out.2.1, HQ.out.2.2.2.trans ht5 HY.out.1⟩
                clear hA5 ht5 H2 HQ
                go_wp2
                go_meet
                exact ⟨held - 1, by congr 1; omega, HN⟩
            · have hk2' : ((IntKind.u64.wrap o.k).tmod 3 == 2) = false := by simpa using hk2
              have H2 := toHid (put_any hA (ok.key.touch hT) o.sc o.fl ok.f0)
              clear hk2
              cases hf : HX.find ⟨X, b, A, l⟩ o.bs with
              | none =>
                unfold idx0 Option.isSome
                rcases put_none hf o.fl with ⟨hpe, hpl⟩ | ⟨g, hpe, hg⟩
                · generalize HX.put ⟨X, b, A, l⟩ o.bs o.fl = pr at *
                  have hpe' : (pr.1.2.2 == 0) = false := by simpa using hpe
                  have HQ := toHid (And.intro hpl (And.intro hheld (And.intro hBS hT)))
                  clear hpe hpl hheld hBS hT hf hA ok
                  go_wp2_with fail
                  refine Calls.mono H2.out ?_
                  rintro e w5 ⟨rfl, hA5, ht5⟩
                  rw [HQ.out.1] at hA5
                  have HN : Hid (SlotsAt w w5 S X b A M held) := ⟨l, hA5, HY.out.2.2, HQ.out.2.1, ht5.blk HQ.out.2.2.1 HY.out.2.1, HQ.out.2.2.2.trans ht5 HY.out.1⟩
                  clear hA5 ht5 H2 HQ
                  go_wp2
                  go_meet
                  exact ⟨held, rfl, HN⟩
                · rw [hpe] at H2
                  have hgl : g < l.length := (List.getElem?_eq_some_iff.1 hg).1
                  have hgM : ¬ (M : Int) ≤ g := by omega
                  have hhd : (keysP (l.set g (some o.bs))).length = (keysP l).length + 1 := held_put o.bs hg
                  have HQ := toHid (And.intro hhd (And.intro hheld (And.intro hBS hT)))
                  clear hheld hBS hT hf hA ok hhd hpe hg
                  go_wp2_with fail
                  refine Calls.mono H2.out ?_
                  rintro e w5 ⟨rfl, hA5, ht5⟩
                  have hB5 := ht5.blk HQ.out.2.2.1 HY.out.2.1
                  have d1 := hB5.cell (i := 1) rfl
                  have HN : Hid (SlotsAt w w5 S X b A M (held + 1)) := ⟨l.set g (some o.bs), hA5, by rw [List.length_set]; exact HY.out.2.2, by have := HQ.out.1; have := HQ.out.2.1; omega, hB5, HQ.out.2.2.2.trans ht5 HY.out.1⟩
                  clear hA5 ht5 H2 HQ hB5
                  go_wp2
                  go_meet
                  exact ⟨held + 1, by congr 1, HN⟩
              | some i =>
                unfold idx0 Option.isSome
                have hil := (find_get hf).2
                rcases put_some hf o.fl with ⟨hpe, hpl⟩ | hpe
                · generalize HX.put ⟨X, b, A, l⟩ o.bs o.fl = pr at *
                  have hpe' : (pr.1.2.2 == 0) = false := by simpa using hpe
                  have HQ := toHid (And.intro hpl (And.intro hheld (And.intro hBS hT)))
                  clear hpe hpl hheld hBS hT hf hA ok hil
                  go_wp2_with fail
                  refine Calls.mono H2.out ?_
                  rintro e w5 ⟨rfl, hA5, ht5⟩
                  rw [HQ.out.1] at hA5
                  have HN : Hid (SlotsAt w w5 S X b A M held) := ⟨l, hA5, HY.out.2.2, HQ.out.2.1, ht5.blk HQ.out.2.2.1 HY.out.2.1, HQ.out.2.2.2.trans ht5 HY.out.1⟩
                  clear hA5 ht5 H2 HQ
                  go_wp2
                  go_meet
                  exact ⟨held, rfl, HN⟩
                · rw [hpe] at H2
                  have hgM : ¬ (M : Int) ≤ i := by have : i < l.length := hil; omega
                  have HQ := toHid (And.intro hheld (And.intro hBS hT))
                  clear hheld hBS hT hf hA ok hpe hil
                  go_wp2_with fail
                  refine Calls.mono H2.out ?_
                  rintro e w5 ⟨rfl, hA5, ht5⟩
                  have hB5 := ht5.blk HQ.out.2.1 HY.out.2.1
                  have d1 := hB5.cell (i := 1) rfl
                  have HN : Hid (SlotsAt w w5 S X b A M held) := ⟨l, hA5, HY.out.2.2, HQ.out.1, hB5, HQ.out.2.2.trans ht5 HY.out.1⟩
                  clear hA5 ht5 H2 HQ hB5
                  go_wp2
                  go_meet
                  exact ⟨held, rfl, HN⟩
          case rest =>
            clear HW e0 e1 e2
            obtain ⟨hd1, rfl, HC⟩ := hcut
            obtain ⟨l1, hA, hlM, hheld, hBS, hT⟩ := HC.out
            have H3 := toHid (keys_any hA)
            have hh64 : hd1 ≤ M := by rw [hheld]; have := held_le l1; unfold keysP; omega
            have HQ := toHid (And.intro hA (And.intro hlM (And.intro hheld (And.intro hBS hT))))
            clear hA hlM hheld hBS hT HC
            go_wp2_with fail
            refine Calls.mono H3.out ?_
            rintro e w6 ⟨⟨v, rfl, g, cap, ll, rfl, hKL, hlm⟩, ht6⟩
            have hll : ll.length = hd1 := by rw [HQ.out.2.2.1, ← hlm, List.length_map]
            have hmk := run_make_blk (P := Try.prog) Try.underlying51 info4 rfl M (by omega) (by omega) .i64
            have hB6 := ht6.blk HQ.out.2.2.2.1 (by simp)
            have d1 := hB6.cell (i := 1) rfl
            have hta := (Touch.refl [] w6).alloc (.cells (Array.replicate M (.bool false)) 4)
            have hSn := Blk.newA w6 (Array.replicate M (.bool false)) (List.replicate M (.bool false)) 4 (by simp)
            have H6 := toHid (And.intro hKL (And.intro hlm (And.intro hB6 (And.intro (HQ.out.1.touch ht6 (by simp) (by simp)) (HQ.out.2.2.2.2.trans ht6 (by simp))))))
            have HZ : Hid (Touch [] w6 (w6.alloc (.cells (Array.replicate M (.bool false)) 4)) ∧ SeenIn (w6.alloc (.cells (Array.replicate M (.bool false)) 4)) w6.heap.size M l1 0) :=
              ⟨hta, List.replicate M false, by simp, by simpa using hSn, fun i hi => by
                have := List.mem_of_getElem? hi
                simp at this⟩
            have HLM := toHid HQ.out.2.1
            rw [hll]
            unfold slV
            generalize hsg : (g.map fun b => (⟨b, 0, none⟩ : Addr)) = sg at *
            have HG := toHid (And.intro hsg hll)
            clear hKL hlm hB6 hta hSn ht6 H3 hsg hll
            go_wp2_with fail
            generalize hBB : w6.heap.size = B at *
            have HBB := toHid hBB
            clear d1 hmk hBB HQ
            go_loopw [127] (fun i w' => ∃ j : Nat, j ≤ hd1 ∧ i = .int .i64 j ∧ Hid (Touch [] w6 w' ∧ SeenIn w' B M l1 j)) (fun i _ => hd1 - (intOf i).toNat)
            case atStart => exact ⟨0, by omega, rfl, HZ.out⟩
            case round =>
              clear HZ
              obtain ⟨j, hj, rfl, HJ⟩ := hrel
              by_cases hltj : j < hd1
              · obtain ⟨b1, k1, hb1, hg1, hc1, hA1⟩ := (H6.out.1.touch HJ.out.1 (by simp)).at_ (j := j) (by rw [HG.out.2]; exact hltj)
                have hkj : (keysP l1)[j]? = some k1.bs := by rw [← H6.out.2.1, List.getElem?_map, hg1]; rfl
                have hAr := H6.out.2.2.2.1.touch HJ.out.1 (by simp) (by simp)
                obtain ⟨i, hfi, hil⟩ := find_held hAr (List.mem_of_getElem? hkj)
                have hiM : i < M := by rw [← HLM.out]; exact hil
                have hiM' : ¬ (M : Int) ≤ i := by omega
                have H4 := toHid (find_any hAr hA1.key k1.cap)
                rw [hfi] at H4
                have HK := toHid (And.intro hkj (And.intro (find_get hfi).1 (keysP_nodup hAr.map)))
                have hsg := HG.out.1
                rw [hb1, Option.map_some] at hsg
                subst hsg
                have hltj' : (j : Int) < hd1 := by omega
                unfold KS.v at hc1
                unfold foundV idx0 Option.isSome at H4
                clear hA1 hAr hkj hfi hil hb1 hg1
                go_wp2_with fail
                refine Calls.mono H4.out ?_
                rintro e w7 ⟨rfl, ht7⟩
                obtain ⟨s1, s2, s3, s4⟩ := (HJ.out.2.touch ht7).fresh HK.out.2.2 HK.out.1 HK.out.2.1 hiM
                have hT7 := HJ.out.1.trans ht7 (by simp)
                have d1 := (hT7.blk H6.out.2.2.1 (by simp)).cell (i := 1) rfl
                have HN : Hid (Touch [] w6 (w7.setCell ⟨B, i, none⟩ (.bool true)) ∧ SeenIn (w7.setCell ⟨B, i, none⟩ (.bool true)) B M l1 (j + 1)) := ⟨hT7.setCell _ _ (Or.inr (by show w6.heap.size ≤ B; rw [HBB.out]; exact Nat.le_refl _)), s3⟩
                clear s3 s4 hT7 ht7 H4 HK HJ hc1
                go_wp2
                go_roundw
                case rel => exact ⟨j + 1, by omega, by go_num, HN⟩
                case measure => simp [intOf]; omega
              · obtain rfl : j = hd1 := by omega
                have d1 := (HJ.out.1.blk H6.out.2.2.1 (by simp)).cell (i := 1) rfl
                have HN : Hid (SlotsAt w wr S X b A M j) := ⟨l1, H6.out.2.2.2.1.touch HJ.out.1 (by simp) (by simp), HLM.out, by rw [← H6.out.2.1, List.length_map]; exact HG.out.2.symm, HJ.out.1.blk H6.out.2.2.1 (by simp), H6.out.2.2.2.2.trans HJ.out.1 (by simp)⟩
                have hjM : ¬ (M : Int) < j := by omega
                clear HJ H6
                go_wp2
                go_roundw
                case rel => exact ⟨k + 1, by omega, by omega, by go_num, j, rfl, HN⟩
                case measure => simp [intOf]; omega
      · obtain rfl : k = n := by omega
        obtain ⟨l, _, _, _, _, hT⟩ := HI.out
        have HT := toHid hT
        clear HI hT
        go_wp2
        go_ret
        exact ⟨rfl, HT.out⟩
  · go_enter Try.func5, Try.ntmps5
    go_wp2_with fail
    refine (first_any _).mono ?_
    rintro e w2 ⟨rfl, ht2⟩
    have hb2 := ht2.blk HB.out (by simp)
    have d0 := hb2.cell (i := 0) rfl
    have d1 := hb2.cell (i := 1) rfl
    have HT2 := toHid (HT1.out.trans ht2 (by simp))
    clear ht2 HB HT1 hb2
    go_wp2_with fail
    refine (new_bad w2 a m hm).mono ?_
    rintro e w3 ⟨rfl, rfl⟩
    clear hm
    go_wp2
    go_ret
    exact ⟨rfl, HT2.out⟩
end Go.Proofs.Ytalmgjahfhdlbaa
