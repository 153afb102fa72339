/-
  For every input LruTwins returns true. (The walk.)
-/
import Derived.Test.YtlkppkgfnmlblaaTwin
import Derived.Test.YtlkppkgfnmlblaaRNewK
namespace Go.Proofs.Ytlkppkgfnmlblaa
open Go.RowKit Go.Maps

def Twins (w0 w : World) (X Y : Nat) : Prop := ∃ x y, Both w0 w x y ∧ Tw x y ∧ x.X = X ∧ y.X = Y
theorem Twins.still {w0 w w' : World} {X Y : Nat} (h : Twins w0 w X Y) (ht : Touch [] w w') : Twins w0 w' X Y := by
  obtain ⟨x, y, h1, h2⟩ := h
  exact ⟨x, y, h1.still ht, h2⟩
theorem Twins.touch {w0 w : World} {X Y : Nat} (h : Twins w0 w X Y) : Touch [] w0 w := by
  obtain ⟨x, y, h1, h2⟩ := h
  exact h1.left.touch

/-- A Find of both. -/
theorem twin_find {w0 w : World} {x : LX} {y : HX} (h : Both w0 w x y) (t : Tw x y) {kq : Int} {sk : Option Addr} (hk : ∀ w', Touch (x.own ++ [y.X, y.b]) w w' → KeyAt w' sk 1 [kq]) :
    Calls Try.prog 14 #[.pointer (some ⟨x.X, 0, none⟩), .slice sk 1 1] w fun e w' => ∃ (fi : Int) (fp : Bool), e = .returned (.tuple #[.int .i64 fi, .bool fp]) ∧
      Calls Try.prog 21 #[.pointer (some ⟨y.X, 0, none⟩), .slice sk 1 1] w' fun e w'' => e = .returned (.tuple #[.int .i64 fi, .bool fp]) ∧ Twins w0 w'' x.X y.X := by
  refine (lfind_any h.left.idx h.left.ok (hk _ (Touch.refl _ _)) 1).mono ?_
  rintro e w6 ⟨rfl, hS6⟩
  have ht6 := hS6.choose_spec.choose_spec.2.1
  obtain ⟨g6, cap6, hB6⟩ := h.lstep hS6 (h.left.ok.find [kq])
  refine ⟨idx0 (y.find [kq]), (y.find [kq]).isSome, by rw [t.find]; rfl, ?_⟩
  refine (find_any hB6.right (hk _ (ht6.mono (fun p hp => Or.inl (List.mem_append_left _ hp)))) 1).mono ?_
  rintro e w7 ⟨rfl, ht7⟩
  exact ⟨rfl, _, y, hB6.still ht7, ⟨t.same, t.sx, t.sy, t.len, t.small⟩, rfl, rfl⟩
/-- A Put of both. -/
theorem twin_put {w0 w : World} {x : LX} {y : HX} (h : Both w0 w x y) (t : Tw x y) {kq : Int} (h0 : 0 ≤ kq) (h1 : kq < 60) {sk : Option Addr} (hk : ∀ w', Touch (x.own ++ [y.X, y.b]) w w' → KeyAt w' sk 1 [kq]) (fl : Int) (f0 : 0 ≤ fl) :
    Calls Try.prog 15 #[.pointer (some ⟨x.X, 0, none⟩), .slice sk 1 1, .int .u64 fl] w fun e w' => ∃ (fi : Int) (fp : Bool) (fe : Int), e = .returned (.tuple #[.int .i64 fi, .bool fp, .int .i64 fe]) ∧ Touch x.own w w' ∧
      Calls Try.prog 22 #[.pointer (some ⟨y.X, 0, none⟩), .slice sk 1 1, .int .u64 fl] w' fun e w'' => e = .returned (.tuple #[.int .i64 fi, .bool fp, .int .i64 fe]) ∧ Twins w0 w'' x.X y.X := by
  obtain ⟨f, hf⟩ := h.room t
  obtain ⟨e1, e2, e3, e4⟩ := t.put hf h0 h1 fl
  refine (lput_any h.left.idx h.left.ok (fun w' ht => hk w' (ht.mono (fun p hp => Or.inl (List.mem_append_left _ hp)))) 1 fl f0).mono ?_
  rintro e w6 ⟨rfl, hS6⟩
  have ht6 := hS6.choose_spec.choose_spec.2.1
  obtain ⟨g6, cap6, hB6⟩ := h.lstep hS6 (h.left.ok.put h.left.idx.m1 [kq] fl)
  refine ⟨(y.put [kq] fl).1.1, (y.put [kq] fl).1.2.1, (y.put [kq] fl).1.2.2, by rw [e1], ht6, ?_⟩
  refine (put_any hB6.right (hk _ (ht6.mono (fun p hp => Or.inl (List.mem_append_left _ hp)))) 1 fl f0).mono ?_
  rintro e w7 ⟨rfl, hA7, ht7⟩
  exact ⟨rfl, _, _, hB6.hstep hA7 ht7, ⟨e2, t.sx, t.sy, e3, e4⟩, rfl, rfl⟩
/-- A Del of both. -/
theorem twin_del {w0 w : World} {x : LX} {y : HX} (h : Both w0 w x y) (t : Tw x y) {kq : Int} {sk : Option Addr} (hk : ∀ w', Touch (x.own ++ [y.X, y.b]) w w' → KeyAt w' sk 1 [kq]) :
    Calls Try.prog 16 #[.pointer (some ⟨x.X, 0, none⟩), .slice sk 1 1] w fun e w' => ∃ (fi : Int) (fe : Int), e = .returned (.tuple #[.int .i64 fi, .int .i64 fe]) ∧
      Calls Try.prog 23 #[.pointer (some ⟨y.X, 0, none⟩), .slice sk 1 1] w' fun e w'' => e = .returned (.tuple #[.int .i64 fi, .int .i64 fe]) ∧ Twins w0 w'' x.X y.X := by
  obtain ⟨e1, e2, e3, e4⟩ := t.del [kq]
  refine (ldel_any h.left.idx (hk _ (Touch.refl _ _)) 1).mono ?_
  rintro e w6 ⟨rfl, hS6⟩
  have ht6 := hS6.choose_spec.choose_spec.2.1
  obtain ⟨g6, cap6, hB6⟩ := h.lstep hS6 (h.left.ok.del [kq])
  refine ⟨(y.del [kq]).1.1, (y.del [kq]).1.2, by rw [e1], ?_⟩
  refine (del_any hB6.right (hk _ (ht6.mono (fun p hp => Or.inl (List.mem_append_left _ hp)))) 1).mono ?_
  rintro e w7 ⟨rfl, hA7, ht7⟩
  exact ⟨rfl, _, _, hB6.hstep hA7 ht7, ⟨e2, t.sx, t.sy, e3, e4⟩, rfl, rfl⟩

set_option maxHeartbeats 8000000 in
set_option maxRecDepth 100000 in
theorem lruTwins_walk (sk : Option Addr) (kl kc : Nat) (bs : List Int) (sa : Option Addr) (n c : Nat) (f : Nat → OpC) (w : World) (hk : KeyAt w sk kl bs) (hs : Script w sa n f) (hn : n ≤ 9223372036854775807) :
    Calls Try.prog 6 #[.slice sk kl kc, .slice sa n c] w fun e w' => e = .returned (.bool true) ∧ Touch [] w w' := by
  have HS := toHid hs
  have hkl : kl ≤ 9223372036854775807 := by rw [hk.1]; exact hk.2.2.1
  have HK := toHid hk
  clear hs hk
  go_enter Try.func6, Try.ntmps6
  go_wp2_with fail
  refine (first_any _).mono ?_
  rintro e w2 ⟨rfl, ht2⟩
  have HT2 := toHid ht2
  clear ht2
  go_wp2_with fail
  refine (LOwn.new w w2 HT2.out 1 64 (by omega) (by omega) (by omega) (by omega)).mono ?_
  rintro e w3 ⟨X, b, rfl, hL, _⟩
  have HL := toHid hL
  clear hL
  go_wp2_with fail
  refine (new_any w3 1 64 (by omega) (by omega) (by omega) (by omega)).mono ?_
  rintro e w4 ⟨Y, yb, rfl, hA, hY, hyb, ht4⟩
  have HI0 : Hid (Twins w w4 X Y) := by
    have hsz := HL.out.touch.size
    refine ⟨_, _, ⟨HL.out.still ht4, hA, fun z hz => ?_, Nat.le_trans hsz hY, Nat.le_trans hsz hyb⟩, ⟨rfl, rfl, rfl, by simp, fun bs hbs => by simp at hbs⟩, rfl, rfl⟩
    have h1 := HL.out.idx.lt z hz
    show z ≠ Y ∧ z ≠ yb
    omega
  clear hA hY hyb ht4 HL HT2
  go_wp2_with fail
  go_loopw [52] (fun i w' => ∃ k : Nat, k ≤ n ∧ k ≤ 60 ∧ i = .int .i64 k ∧ Hid (Twins w w' X Y)) (fun i _ => n - (intOf i).toNat)
  case atStart => exact ⟨0, by omega, by omega, rfl, HI0⟩
  case round =>
    clear HI0
    obtain ⟨k, hkn, hk60, rfl, HI⟩ := hrel
    by_cases hlt : k < n
    · obtain ⟨sb, off, hsa, hcell⟩ := HS.out.at_ hlt
      subst hsa
      obtain ⟨ok, c0, c1, c2⟩ := hcell k hlt
      have hT := HI.out.touch
      replace c0 := hT.cell c0 (by simp)
      replace c1 := hT.cell c1 (by simp)
      replace c2 := hT.cell c2 (by simp)
      generalize f k = o at *
      have hkn' : (k : Int) < n := by omega
      have hta := (Touch.refl [] wr).alloc (.cells #[.int .i64 o.k, .slice o.sa o.sl o.sc, .int .u64 o.fl] 35)
      have HI2 := toHid (HI.out.still hta)
      have HOB := toHid (Blk.newA wr #[.int .i64 o.k, .slice o.sa o.sl o.sc, .int .u64 o.fl] _ 35 rfl)
      by_cases hend : k = 60 ∨ kl = 0
      · clear HI
        have HI := HI2
        clear hta HOB ok hcell hT HI2
        by_cases h60 : k = 60
        · subst h60
          obtain ⟨x, y, hB, hTw, rfl, rfl⟩ := HI.out
          have H1 := toHid (lkeys_any hB.left.idx)
          have HB1 := toHid (And.intro hB hTw)
          have hml : (keysP x.l).length ≤ 1000 := by have h9 : x.l.length ≤ 64 := hB.left.idx.map.many; have := held_le x.l; unfold keysP; omega
          have HM := toHid hml
          clear hml hB hTw HI
          go_wp2_with fail
          refine Calls.mono H1.out ?_
          rintro e w5 ⟨⟨v, rfl, hK⟩, ht5⟩
          have hB5 := HB1.out.1.still ht5
          have H2 := toHid (keys_any hB5.right)
          rw [HB1.out.2.same] at H2
          have HK5 := toHid (And.intro hK hB5)
          clear hK ht5 hB5 H1
          go_wp2_with fail
          refine Calls.mono H2.out ?_
          rintro e w6 ⟨⟨v2, rfl, hK2⟩, ht6⟩
          have H3 := toHid (sameKeys_any (HK5.out.1.touch ht6 (by simp)) hK2 HM.out)
          have HT6 := toHid (HK5.out.2.left.touch.trans ht6 (by simp))
          clear hK2 ht6 H2
          go_wp2_with fail
          refine Calls.mono H3.out ?_
          rintro e w7 ⟨rfl, ht7⟩
          have HF := toHid (HT6.out.trans ht7 (by simp))
          clear ht7 H3 HT6
          go_wp2
          go_ret
          exact ⟨rfl, HF.out⟩
        · have h60' : ¬ (60 : Int) ≤ k := by omega
          obtain rfl : kl = 0 := by omega
          clear hend h60
          obtain ⟨x, y, hB, hTw, rfl, rfl⟩ := HI.out
          have H1 := toHid (lkeys_any hB.left.idx)
          have HB1 := toHid (And.intro hB hTw)
          have hml : (keysP x.l).length ≤ 1000 := by have h9 : x.l.length ≤ 64 := hB.left.idx.map.many; have := held_le x.l; unfold keysP; omega
          have HM := toHid hml
          clear hml hB hTw HI
          go_wp2_with fail
          refine Calls.mono H1.out ?_
          rintro e w5 ⟨⟨v, rfl, hK⟩, ht5⟩
          have hB5 := HB1.out.1.still ht5
          have H2 := toHid (keys_any hB5.right)
          rw [HB1.out.2.same] at H2
          have HK5 := toHid (And.intro hK hB5)
          clear hK ht5 hB5 H1
          go_wp2_with fail
          refine Calls.mono H2.out ?_
          rintro e w6 ⟨⟨v2, rfl, hK2⟩, ht6⟩
          have H3 := toHid (sameKeys_any (HK5.out.1.touch ht6 (by simp)) hK2 HM.out)
          have HT6 := toHid (HK5.out.2.left.touch.trans ht6 (by simp))
          clear hK2 ht6 H2
          go_wp2_with fail
          refine Calls.mono H3.out ?_
          rintro e w7 ⟨rfl, ht7⟩
          have HF := toHid (HT6.out.trans ht7 (by simp))
          clear ht7 H3 HT6
          go_wp2
          go_ret
          exact ⟨rfl, HF.out⟩
      · have h60 : ¬ (60 : Int) ≤ k := by omega
        have hkl0 : ((kl : Int) == 0) = false := beq_false_of_ne (by omega)
        have hklp : (0 : Int) < kl := by omega
        have HKW := HK.out.touch HI2.out.touch
        obtain ⟨kb, ko, hsk, hkc⟩ := HKW.2.2.2 (by rw [← HKW.1]; omega)
        subst hsk
        have hmod : k % kl < kl := Nat.mod_lt _ (by omega)
        have hz := hkc (k % kl) (by rw [← HKW.1]; exact hmod)
        have hzb := getD_bd HKW.2.1 (k % kl)
        generalize bs.getD (k % kl) 0 = z at *
        have htm : (k : Int).tmod (kl : Int) = ((k % kl : Nat) : Int) := by rw [Int.tmod_eq_emod_of_nonneg (by omega)]; rfl
        obtain ⟨x, y, hB0, hTw, hX0, hY0⟩ := HI.out
        have hB := hB0.still hta
        have HOL : Hid (wr.heap.size ∉ x.own) := fun hx => by have := hB0.left.idx.lt _ hx; omega
        have hkq0 : 0 ≤ z % 60 := by omega
        have hkq1 : z % 60 < 60 := by omega
        have HN1 := toHid (And.intro hX0 hY0)
        have hkey := fun (kq : Int) (h0 : 0 ≤ kq) (h1 : kq < 60) => key_new1 (w := wr.alloc (.cells #[.int .i64 o.k, .slice o.sa o.sl o.sc, .int .u64 o.fl] 35)) (S := x.own ++ [y.X, y.b]) (fun p hp => by
          rcases List.mem_append.1 hp with hp | hp
          · exact hB.left.idx.lt p hp
          · have := hB.right.lt
            simp at hp
            omega) kq (by omega)
        simp only [World.size_alloc] at hkey
        have hB5 := fun (kq : Int) => hB.still ((Touch.refl [] _).alloc (.cells #[.int .u8 kq] 5))
        have hob := HOB.out
        have e0 := hob.cell (i := 0) rfl
        have e2 := hob.cell (i := 2) rfl
        have HQ := toHid (And.intro hB5 (And.intro hkey (And.intro hTw (And.intro ok hob))))
        clear hcell hT HKW hkc hob hB hB0 hTw hB5 hkey hX0 hY0 HI HI2 hta
        obtain ⟨q, hq, hkind⟩ := kind3 o.k
        have hq3 : q = 0 ∨ q = 1 ∨ q = 2 := by omega
        clear hq
        rcases hq3 with rfl | rfl | rfl
        · have hkind : (IntKind.u64.wrap o.k).tmod 3 = 0 := hkind
          have H1 := toHid (fun kq (hkq0 : 0 ≤ kq) (hkq1 : kq < 60) => twin_find (HQ.out.1 kq) HQ.out.2.2.1 (HQ.out.2.1 kq hkq0 hkq1))
          rw [HN1.out.1, HN1.out.2] at H1
          go_wp2_with fail
          refine Calls.mono (H1.out _ hkq0 hkq1) ?_
          rintro e w6 ⟨fi, fp, rfl, hC⟩
          have HC := toHid hC
          clear hC H1
          go_wp2_with fail
          refine Calls.mono HC.out ?_
          rintro e w7 ⟨rfl, hTT⟩
          have HN := toHid hTT
          clear hTT HC HQ
          go_wp2
          go_roundw
          case rel => exact ⟨k + 1, by omega, by omega, by go_num, HN⟩
          case measure => simp [intOf]; omega
        · have hkind : (IntKind.u64.wrap o.k).tmod 3 = 1 := hkind
          have H1 := toHid (fun kq (hkq0 : 0 ≤ kq) (hkq1 : kq < 60) => twin_put (HQ.out.1 kq) HQ.out.2.2.1 hkq0 hkq1 (HQ.out.2.1 kq hkq0 hkq1) o.fl HQ.out.2.2.2.1.f0)
          rw [HN1.out.1, HN1.out.2] at H1
          go_wp2_with fail
          refine Calls.mono (H1.out _ hkq0 hkq1) ?_
          rintro e w6 ⟨fi, fp, fe, rfl, ht6, hC⟩
          have HC := toHid hC
          have hob6 := ht6.blk (HQ.out.2.2.2.2.alloc (.cells #[.int .u8 (z % 60)] 5)) HOL.out
          have e3 := hob6.cell (i := 2) rfl
          clear ht6 hob6
          clear hC H1
          go_wp2_with fail
          refine Calls.mono HC.out ?_
          rintro e w7 ⟨rfl, hTT⟩
          have HN := toHid hTT
          clear hTT HC HQ
          go_wp2
          go_roundw
          case rel => exact ⟨k + 1, by omega, by omega, by go_num, HN⟩
          case measure => simp [intOf]; omega
        · have hkind : (IntKind.u64.wrap o.k).tmod 3 = 2 := hkind
          have H1 := toHid (fun kq (hkq0 : 0 ≤ kq) (hkq1 : kq < 60) => twin_del (HQ.out.1 kq) HQ.out.2.2.1 (HQ.out.2.1 kq hkq0 hkq1))
          rw [HN1.out.1, HN1.out.2] at H1
          go_wp2_with fail
          refine Calls.mono (H1.out _ hkq0 hkq1) ?_
          rintro e w6 ⟨fi, fe, rfl, hC⟩
          have HC := toHid hC
          clear hC H1
          go_wp2_with fail
          refine Calls.mono HC.out ?_
          rintro e w7 ⟨rfl, hTT⟩
          have HN := toHid hTT
          clear hTT HC HQ
          go_wp2
          go_roundw
          case rel => exact ⟨k + 1, by omega, by omega, by go_num, HN⟩
          case measure => simp [intOf]; omega
    · obtain rfl : k = n := by omega
      obtain ⟨x, y, hB, hTw, rfl, rfl⟩ := HI.out
      have H1 := toHid (lkeys_any hB.left.idx)
      have HB1 := toHid (And.intro hB hTw)
      have hml : (keysP x.l).length ≤ 1000 := by have h9 : x.l.length ≤ 64 := hB.left.idx.map.many; have := held_le x.l; unfold keysP; omega
      have HM := toHid hml
      clear hml hB hTw HI
      go_wp2_with fail
      refine Calls.mono H1.out ?_
      rintro e w5 ⟨⟨v, rfl, hK⟩, ht5⟩
      have hB5 := HB1.out.1.still ht5
      have H2 := toHid (keys_any hB5.right)
      rw [HB1.out.2.same] at H2
      have HK5 := toHid (And.intro hK hB5)
      clear hK ht5 hB5 H1
      go_wp2_with fail
      refine Calls.mono H2.out ?_
      rintro e w6 ⟨⟨v2, rfl, hK2⟩, ht6⟩
      have H3 := toHid (sameKeys_any (HK5.out.1.touch ht6 (by simp)) hK2 HM.out)
      have HT6 := toHid (HK5.out.2.left.touch.trans ht6 (by simp))
      clear hK2 ht6 H2
      go_wp2_with fail
      refine Calls.mono H3.out ?_
      rintro e w7 ⟨rfl, ht7⟩
      have HF := toHid (HT6.out.trans ht7 (by simp))
      clear ht7 H3 HT6
      go_wp2
      go_ret
      exact ⟨rfl, HF.out⟩
end Go.Proofs.Ytlkppkgfnmlblaa
