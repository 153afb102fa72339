/-
  RingPlays.
-/
import Derived.Test.YtkfmhabplcikiaaGDuo
import Derived.Test.YtkfmhabplcikiaaMBoth
import Derived.BigQuiet
import Derived.Deep.QuietTactic
import Derived.Deep.RegionHeld3
import Derived.Deep.DrawnRows
namespace Go.Proofs.Ytkfmhabplcikiaa.Ring
open Go.RowKit
attribute [local go_sem ↓] Go.wp_at_zero Go.wp_at_succ

theorem pair_new {w0 w : World} (m : Nat) (hM : Mem.MemAt w (Mem.MS.new m)) (ht : Touch [] w0 w) (hm : w0.heap.size ≤ m) : Mem.Pair w0 (w.alloc (.cells #[.slice none 0 0] 29)) (Mem.MS.new m) ⟨w.heap.size, none, 0, []⟩ where
  mem := hM.touch ((Touch.refl [] w).alloc _) (by simp)
  ref :=
    { self := Blk.newA w #[.slice none 0 0] _ 29 rfl
      row := ⟨rfl, Nat.le_refl _, Nat.zero_le _, rfl⟩
      regs := fun r hr => by cases hr
      ok := fun r hr => by cases hr
      apart := by simp [Mem.RS.blocks]
      many := by simp }
  apart := fun x hx hy => by
    have := hM.lt x hx
    simp [Mem.RS.blocks] at hy
    omega
  own := fun x hx => by
    simp [Mem.MS.blocks, Mem.MS.new] at hx
    omega
  own' := fun x hx => by
    simp [Mem.RS.blocks] at hx
    have := ht.size
    omega
  touch := ht.alloc _
/-- Memories with what is taken. -/
def Pre (w0 w : World) (M D : Nat) : Prop := ∃ s u, Mem.Pair w0 w s u ∧ Mem.Rel s.rs s.next u.all ∧ s.m = M ∧ u.m = D ∧ s.next ≤ 1 ∧ u.all.length ≤ 1
theorem add_both {w0 w1 w2 w3 : World} {s : Mem.MS} {u : Mem.RS} {tk : Int} (hP : Mem.Pair w0 w1 s u) (hr : Mem.Rel s.rs s.next u.all) (hn : s.next = 0) (hl : s.rs.length = 0) {e e' : Ending} (h2 : Mem.AddPost w1 s tk 3 3 e w2) (h3 : Mem.RAddPost' w2 u tk 3 3 e' w3) : Pre w0 w3 s.m u.m := by
  obtain ⟨_, ht2, s2, hM2, hown, hbad, hgood⟩ := h2
  obtain ⟨_, ht3, u3, hR3, hm3, hb3, hbad3, hgood3⟩ := h3
  have hE := hr.addE (by omega) tk 3 3
  have hu := hr.len
  have hP2 : Mem.Pair w0 w2 s2 u := hP.goM hM2 ht2 hown.2
  have hP3 := hP2.goR hR3 ht3 hb3
  by_cases h0 : Mem.addE s.rs tk 3 3 = 0
  · obtain ⟨hnx, i, r, _, hrs, hnew⟩ := hgood h0
    obtain ⟨x, hx, g1, g2, g3, g4, g5⟩ := hgood3 (hE.trans h0)
    have htw : Mem.Twin r x := twin_new hM2 (by rw [hrs]; simp) hnew (by omega) g1 g2 g3 g4 (by rw [g5]; rfl)
    exact ⟨s2, u3, hP3, by rw [hrs, hnx, hx]; exact hr.add hnew.hid htw, hown.1, hm3, by omega, by rw [hx, List.length_append]; show u.all.length + 1 ≤ 1; omega⟩
  · have hs := hbad h0
    subst hs
    exact ⟨s2, u3, hP3, by rw [hbad3 (by rw [hE]; exact h0)]; exact hr, rfl, hm3, by omega, by rw [hbad3 (by rw [hE]; exact h0)]; omega⟩
theorem duo_new {w0 w w1 w2 : World} {s : Mem.MS} {u : Mem.RS} (hP : Mem.Pair w0 w s u) (hr : Mem.Rel s.rs s.next u.all) (hn : s.next ≤ 1) (h1 : GBoth w1 (RG.new w.heap.size s.m) s) (ht1 : Touch [] w w1) {ig icap : Nat} (hig : w1.heap.size ≤ ig) (h2 : RGBoth w2 ⟨w1.heap.size, u.m, closed, ig, icap, none, 0, []⟩ u) (ht2 : Touch [] w1 w2) :
    GDuo w0 w2 (RG.new w.heap.size s.m) s ⟨w1.heap.size, u.m, closed, ig, icap, none, 0, []⟩ u 1 := by
  have hz := hP.touch.size
  have hz1 := ht1.size
  have hlt := h1.ring.lt
  have hw : w.heap.size < w1.heap.size := hlt _ (by simp [RG.blocks, RG.new])
  refine ⟨h1.still ht2, h2, rfl, rfl, hr, fun b hb hy => ?_, fun b hb => ?_, fun b hb => ?_, (hP.touch.trans ht1 (by simp)).trans ht2 (by simp), hn, by simp [RG.new]⟩
  · rcases hb with hb | hb
    · have hb1 : b = w.heap.size := by simpa [RG.blocks, RG.new, rowsBl] using hb
      rcases hy with hy | hy
      · have : b = w1.heap.size ∨ b = ig := by simpa [RRG.blocks, rowsBl] using hy
        omega
      · have := hP.ref.lt b hy
        omega
    · have hb1 := hP.mem.lt b hb
      rcases hy with hy | hy
      · have : b = w1.heap.size ∨ b = ig := by simpa [RRG.blocks, rowsBl] using hy
        omega
      · exact hP.apart b hb hy
  · rcases hb with hb | hb
    · have hb1 : b = w.heap.size := by simpa [RG.blocks, RG.new, rowsBl] using hb
      omega
    · exact hP.own b hb
  · rcases hb with hb | hb
    · have : b = w1.heap.size ∨ b = ig := by simpa [RRG.blocks, rowsBl] using hb
      omega
    · exact hP.own' b hb
theorem KR.At.conv' {w : World} {k : KR} (h : k.At w) {l : List Int} (e : k.bs = l) : (convert 60 9 (.slice (some ⟨k.b, 0, none⟩) l.length k.cap)).run Try.prog w = .ok (.string (strOfNums l)) w := by
  subst e
  exact h.conv
set_option maxHeartbeats 8000000 in
set_option maxRecDepth 100000 in
theorem plays_law {w : World} (taken : Int) (t0 : -9223372036854775808 ≤ taken) (t1 : taken ≤ 9223372036854775807) {oa : Option Addr} {m oc : Nat} {f : Nat → OpT} (hs : ScriptT w oa m f) :
    Calls Try.prog 3 #[.int .i64 taken, .slice oa m oc] w fun e w' => e = .returned (.bool true) ∧ Touch [] w w' := by
  have HS := toHid hs
  have hm := hs.small
  clear hs
  obtain ⟨T, hT9, hT⟩ : ∃ T : Nat, T < 9 ∧ (IntKind.u64.wrap taken).tmod 9 = T := by
    have h0 : 0 ≤ IntKind.u64.wrap taken := by
      simp only [IntKind.wrap, IntKind.bits, IntKind.signed]
      simp
      omega
    refine ⟨((IntKind.u64.wrap taken).tmod 9).toNat, ?_, ?_⟩
    · rw [Int.tmod_eq_emod_of_nonneg h0]; omega
    · rw [Int.tmod_eq_emod_of_nonneg h0]; omega
  go_enter Try.func3, Try.ntmps3
  go_wp2_with fail
  refine (first_any _).mono ?_
  rintro e w0 ⟨rfl, ht0⟩
  have HT0 := toHid ht0
  clear ht0
  go_wp2_with fail
  refine (Mem.newM_any _).mono ?_
  rintro e w1 ⟨rfl, hM, ht1⟩
  have hP := pair_new w0.heap.size hM ht1 (Nat.le_refl _)
  have HP := toHid hP
  have hst : Hid (∀ tk : Int, 0 ≤ tk → tk ≤ 18446744073709551615 → Calls Try.prog 8 #[.pointer (some ⟨w0.heap.size, 0, none⟩), .int .u64 tk, .int .i64 3, .int .i64 3] (w1.alloc (.cells #[.slice none 0 0] 29)) (Mem.AddPost (w1.alloc (.cells #[.slice none 0 0] 29)) (Mem.MS.new w0.heap.size) tk 3 3)) := fun tk h0 h1 => Mem.add_any hP.mem tk 3 3 h0 h1 (by simp [Mem.MS.new])
  have HPRE : Hid (Pre w0 (w1.alloc (.cells #[.slice none 0 0] 29)) w0.heap.size w1.heap.size) := ⟨_, _, hP, Mem.Rel.empty, rfl, rfl, by simp [Mem.MS.new], by simp⟩
  clear hM ht1 hP
  by_cases hneg : taken < 0
  · have hpos : ¬ (0 : Int) ≤ taken := by omega
    go_upto_region 8 with fail
    clear HP hst
    generalize (w1.alloc (.cells #[.slice none 0 0] 29)) = wz at *
    obtain ⟨s, u, hPP, hrel, hsm, hum, hsn, _⟩ := HPRE.out
    have HX := toHid (And.intro hPP (And.intro hrel hsn))
    have H1 := toHid (gnew_any hPP.mem)
    rw [hsm] at H1
    have hsm' := toHid hsm
    have hum' := toHid hum
    clear hPP hrel hsn HPRE
    clear hsm hum
    go_wp2_with fail
    refine Calls.mono H1.out ?_
    rintro e w4 ⟨rfl, hB, ht4⟩
    rw [← hsm'.out] at hB
    have H2 := toHid (rgnew_any (HX.out.1.ref.touch ht4 (by simp)))
    rw [hum'.out] at H2
    have HB := toHid (And.intro hB ht4)
    clear hB ht4 H1
    go_wp2_with fail
    refine Calls.mono H2.out ?_
    rintro e w5 ⟨rfl, ⟨ig, icap, hig, hR⟩, ht5⟩
    rw [← hum'.out] at hR
    have hD := duo_new HX.out.1 HX.out.2.1 HX.out.2.2 HB.out.1 HB.out.2 hig hR ht5
    have HD0 : Hid (∃ x s y u, GDuo w0 w5 x s y u (0 + 1) ∧ x.r = wz.heap.size ∧ s.m = w0.heap.size ∧ y.q = w4.heap.size ∧ u.m = w1.heap.size) := ⟨_, _, _, _, hD, rfl, hsm'.out, rfl, hum'.out⟩
    clear hD hR ht5 hig HX HB H2 hsm' hum' hT
    generalize wz.heap.size = R at *
    generalize w0.heap.size = M at *
    generalize w4.heap.size = Q at *
    generalize w1.heap.size = D at *
    go_wp2_with fail
    go_loopw [52] (fun t w' => ∃ k : Nat, k ≤ m ∧ k ≤ 60 ∧ t = .int .i64 k ∧ Hid (∃ x s y u, GDuo w0 w' x s y u (k + 1) ∧ x.r = R ∧ s.m = M ∧ y.q = Q ∧ u.m = D)) (fun t _ => m - (intOf t).toNat)
    case atStart => exact ⟨0, by omega, by omega, rfl, HD0⟩
    case round =>
      clear HD0
      obtain ⟨k, hk, hk60, rfl, HI⟩ := hrel
      by_cases hlt : k < m
      · obtain ⟨x, s, y, u, hD, hxr, hsm, hyq, hum⟩ := HI.out
        obtain ⟨ob, off, hoa, ok, hcells⟩ := HS.out.at_ k hlt
        subst hoa
        generalize f k = o at *
        have htz := HT0.out.trans hD.touch (by simp)
        have c0 := htz.cell (hcells 0 _ rfl) (by simp)
        have c1 := htz.cell (hcells 1 _ rfl) (by simp)
        have c2 := htz.cell (hcells 2 _ rfl) (by simp)
        rw [Nat.add_zero] at c0
        have hkm : (k : Int) < m := by omega
        by_cases h60 : k = 60
        · have h60' : (60 : Int) ≤ k := by omega
          clear h60
          have HD := toHid (hD.still ((Touch.refl [] wr).alloc (.cells o.cells.toArray 44)))
          have HN := toHid (And.intro hxr hyq)
          unfold OpT.cells at *
          clear hD hcells HI ok htz hxr hsm hyq hum
          go_wp2_with fail
          have H1 := toHid (gout_any HD.out.g.ring (by have := HD.out.outn; omega))
          rw [HN.out.1] at H1
          refine Calls.mono H1.out ?_
          rintro e w7 ⟨g7, cap7, l7, rfl, hR7, hbs7, ht7, _⟩
          have hD7 := HD.out.still ht7
          have hbs : l7.map KR.bs = y.l.map KR.bs := hbs7.trans hD7.outs
          obtain ⟨n7, hn7⟩ : ∃ n, l7.length = n := ⟨_, rfl⟩
          have hyl : y.l.length = n7 := by have := congrArg List.length hbs; simp at this; omega
          have hn100 : n7 ≤ 100 := by
            have h1 := congrArg List.length hbs7
            simp at h1
            have := hD7.outn
            omega
          have e2 : w7.cell? ⟨Q, 2, none⟩ = some (slV y.g n7 y.cap) := by rw [← HN.out.2, ← hyl]; exact hD7.r.ring.self.cell rfl
          have HR7 := toHid (And.intro hR7 (And.intro hD7.r.ring.rows (And.intro hbs (And.intro hn7 hyl))))
          have HF := toHid (HT0.out.trans hD7.touch (by simp))
          have HE2 := toHid e2
          clear hR7 hbs7 ht7 hD7 hbs H1 hyl
          unfold slV at e2 ⊢
          rw [hn7]
          clear hn7
          generalize hga : (Option.map (fun b => (⟨b, 0, none⟩ : Addr)) g7) = ga at *
          have HGA := toHid hga
          clear hga
          generalize (Option.map (fun b => (⟨b, 0, none⟩ : Addr)) y.g) = gy at *
          go_wp2_with fail
          clear e2
          go_loopw [147] (fun t w' => ∃ j : Nat, j ≤ n7 ∧ t = .int .i64 j ∧ Hid (Touch [] w7 w')) (fun t _ => n7 - (intOf t).toNat)
          case atStart => exact ⟨0, by omega, rfl, Touch.refl _ _⟩
          case round =>
            obtain ⟨j, hj, rfl, HT⟩ := hrel
            by_cases hjn : j < n7
            · have hjn' : (j : Int) < n7 := by omega
              have hj0 : (0 : Int) ≤ j := by omega
              obtain ⟨hR7, hRY, hbs, hl7, hly⟩ := HR7.out
              have hk1 : l7[j]? = some (l7[j]'(by omega)) := List.getElem?_eq_getElem _
              have hk2 : y.l[j]? = some (y.l[j]'(by omega)) := List.getElem?_eq_getElem _
              have hkk : (l7[j]'(by omega)).bs = (y.l[j]'(by omega)).bs := by
                have h1 := congrArg (fun l => l[j]?) hbs
                simp only [List.getElem?_map, hk1, hk2, Option.map_some] at h1
                exact Option.some.inj h1
              generalize l7[j]'(by omega) = k1 at *
              generalize y.l[j]'(by omega) = k2 at *
              obtain ⟨b7, hb7, hc7⟩ := hR7.cell hk1
              obtain ⟨b8, hb8, hc8⟩ := hRY.cell hk2
              have hga : ga = some ⟨b7, 0, none⟩ := by rw [← HGA.out, hb7]; rfl
              subst hga
              have hA1 := (hR7.keys k1 (List.mem_of_getElem? hk1)).1
              have hA2 := (hRY.keys k2 (List.mem_of_getElem? hk2)).1
              unfold KR.v at hc7 hc8
              have hlen : k1.bs.length = k2.bs.length := by rw [hkk]
              have HSS : Hid (∀ w', Touch [] w7 w' → w'.cell? ⟨b7, j, none⟩ = some (.slice (some ⟨k1.b, 0, none⟩) k2.bs.length k1.cap) ∧ w'.cell? ⟨Q, 2, none⟩ = some (.slice (some ⟨b8, 0, none⟩) n7 y.cap) ∧ w'.cell? ⟨b8, j, none⟩ = some (.slice (some ⟨k2.b, 0, none⟩) k2.bs.length k2.cap) ∧ (convert 60 9 (.slice (some ⟨k1.b, 0, none⟩) k2.bs.length k1.cap)).run Try.prog w' = .ok (.string (strOfNums k2.bs)) w' ∧ (convert 60 9 (.slice (some ⟨k2.b, 0, none⟩) k2.bs.length k2.cap)).run Try.prog w' = .ok (.string (strOfNums k2.bs)) w') := fun w' ht => by
                have hq2 := ht.cell HE2.out (by simp)
                rw [hb8] at hq2
                rw [← hlen]
                refine ⟨ht.cell hc7 (by simp), hq2, ?_, ?_, ?_⟩
                · rw [hlen]; exact ht.cell hc8 (by simp)
                · rw [← hkk]; exact (hA1.touch ht (by simp)).conv
                · rw [hlen]; exact (hA2.touch ht (by simp)).conv
              clear hR7 hRY hbs hl7 hly hk1 hk2 hkk hb7 hc7 hb8 hc8 hA1 hA2 hlen
              generalize strOfNums k2.bs = A at *
              generalize k2.bs.length = L at *
              go_wp2_with fail
              refine wp_region_held_drew (S := fun w' => w'.cell? ⟨b7, j, none⟩ = some (.slice (some ⟨k1.b, 0, none⟩) L k1.cap) ∧ w'.cell? ⟨Q, 2, none⟩ = some (.slice (some ⟨b8, 0, none⟩) n7 y.cap) ∧ w'.cell? ⟨b8, j, none⟩ = some (.slice (some ⟨k2.b, 0, none⟩) L k2.cap) ∧ (convert 60 9 (.slice (some ⟨k1.b, 0, none⟩) L k1.cap)).run Try.prog w' = .ok (.string A) w' ∧ (convert 60 9 (.slice (some ⟨k2.b, 0, none⟩) L k2.cap)).run Try.prog w' = .ok (.string A) w') (by kernel_rfl) ?_ (fun hHeld => ?_)
              · exact HSS.out _ HT.out.drew
              refine wpAnyH_take (i := 0) (v := ?_) rfl (by kernel_rfl) (by kernel_rfl) (by kernel_rfl) (fun _ _ _ h => h) (Or.inl ⟨by rfl, ?_⟩) (by assumption) ?_
              rotate_left
              · (intro w hSw; (try dsimp only at hSw); go_simp; try with_reducible rfl)
              simp only [Act.put, List.getElem_toArray, List.getElem_cons_zero, List.setIfInBounds_toArray, List.set_cons_zero, List.set_cons_succ]
              refine wpAnyH_take (i := 1) (v := ?_) rfl (by kernel_rfl) (by kernel_rfl) (by kernel_rfl) (fun _ _ _ h => h) (Or.inl ⟨by rfl, ?_⟩) (by assumption) ?_
              rotate_left
              · (intro w hSw; (try dsimp only at hSw); go_simp; try with_reducible rfl)
              simp only [Act.put, List.getElem_toArray, List.getElem_cons_zero, List.getElem_cons_succ, List.setIfInBounds_toArray, List.set_cons_zero, List.set_cons_succ]
              refine wpAnyH_take (i := 2) (v := ?_) rfl (by kernel_rfl) (by kernel_rfl) (by kernel_rfl) (fun _ _ _ h => h) (Or.inl ⟨by rfl, ?_⟩) (by assumption) ?_
              rotate_left
              · (intro w hSw; (try dsimp only at hSw); go_simp; try with_reducible rfl)
              simp only [Act.put, List.getElem_toArray, List.getElem_cons_zero, List.getElem_cons_succ, List.setIfInBounds_toArray, List.set_cons_zero, List.set_cons_succ]
              refine wpAnyH_take (i := 3) (v := ?_) rfl (by kernel_rfl) (by kernel_rfl) (by kernel_rfl) (fun _ _ _ h => h) (Or.inl ⟨by rfl, ?_⟩) (by assumption) ?_
              rotate_left
              · (intro w hSw; (try dsimp only at hSw); go_simp; try with_reducible rfl)
              simp only [Act.put, List.getElem_toArray, List.getElem_cons_zero, List.getElem_cons_succ, List.setIfInBounds_toArray, List.set_cons_zero, List.set_cons_succ]
              refine wpAnyH_take (i := 4) (v := ?_) rfl (by kernel_rfl) (by kernel_rfl) (by kernel_rfl) (fun _ _ _ h => h) (Or.inl ⟨by rfl, ?_⟩) (by assumption) ?_
              rotate_left
              · (intro w hSw; (try dsimp only at hSw); go_simp; try with_reducible rfl)
              simp only [Act.put, List.getElem_toArray, List.getElem_cons_zero, List.getElem_cons_succ, List.setIfInBounds_toArray, List.set_cons_zero, List.set_cons_succ]
              refine wpAnyH_take (i := 5) (v := ?_) rfl (by kernel_rfl) (by kernel_rfl) (by kernel_rfl) (fun _ _ _ h => h) (Or.inl ⟨by rfl, ?_⟩) (by assumption) ?_
              rotate_left
              · (intro w hSw; (try dsimp only at hSw); go_simp; try with_reducible rfl)
              simp only [Act.put, List.getElem_toArray, List.getElem_cons_zero, List.getElem_cons_succ, List.setIfInBounds_toArray, List.set_cons_zero, List.set_cons_succ]
              refine wpAnyH_take (i := 6) (v := ?_) rfl (by kernel_rfl) (by kernel_rfl) (by kernel_rfl) (fun _ _ _ h => h) (Or.inl ⟨by rfl, ?_⟩) (by assumption) ?_
              rotate_left
              · (intro w hSw; (try dsimp only at hSw); go_simp; try with_reducible rfl)
              simp only [Act.put, List.getElem_toArray, List.getElem_cons_zero, List.getElem_cons_succ, List.setIfInBounds_toArray, List.set_cons_zero, List.set_cons_succ]
              refine wpAnyH_take (i := 7) (v := ?_) rfl (by kernel_rfl) (by kernel_rfl) (by kernel_rfl) (fun _ _ _ h => h) (Or.inl ⟨by rfl, ?_⟩) (by assumption) ?_
              rotate_left
              · (intro w hSw; (try dsimp only at hSw); go_simp; try with_reducible rfl)
              simp only [Act.put, List.getElem_toArray, List.getElem_cons_zero, List.getElem_cons_succ, List.setIfInBounds_toArray, List.set_cons_zero, List.set_cons_succ]
              refine wpAnyH_take (i := 8) (v := ?_) rfl (by kernel_rfl) (by kernel_rfl) (by kernel_rfl) (fun _ _ _ h => h) (Or.inl ⟨by rfl, ?_⟩) (by assumption) ?_
              rotate_left
              · (intro w hSw; (try dsimp only at hSw); go_simp; try with_reducible rfl)
              simp only [Act.put, List.getElem_toArray, List.getElem_cons_zero, List.getElem_cons_succ, List.setIfInBounds_toArray, List.set_cons_zero, List.set_cons_succ]
              refine wpAnyH_take (i := 9) (v := ?_) rfl (by kernel_rfl) (by kernel_rfl) (by kernel_rfl) (fun _ _ _ h => h) (Or.inl ⟨by rfl, ?_⟩) (by assumption) ?_
              rotate_left
              · (intro w hSw; (try dsimp only at hSw); go_simp; try with_reducible rfl)
              simp only [Act.put, List.getElem_toArray, List.getElem_cons_zero, List.getElem_cons_succ, List.setIfInBounds_toArray, List.set_cons_zero, List.set_cons_succ]
              refine wpAnyH_take (i := 10) (v := ?_) rfl (by kernel_rfl) (by kernel_rfl) (by kernel_rfl) (fun _ _ _ h => h) (Or.inl ⟨by rfl, ?_⟩) (by assumption) ?_
              rotate_left
              · (intro w hSw; (try dsimp only at hSw); go_simp; try with_reducible rfl)
              simp only [Act.put, List.getElem_toArray, List.getElem_cons_zero, List.getElem_cons_succ, List.setIfInBounds_toArray, List.set_cons_zero, List.set_cons_succ]
              refine wpAnyH_take (i := 11) (v := ?_) rfl (by kernel_rfl) (by kernel_rfl) (by kernel_rfl) (fun _ _ _ h => h) (Or.inl ⟨by rfl, ?_⟩) (by assumption) ?_
              rotate_left
              · (intro w hSw; (try dsimp only at hSw); go_simp; try with_reducible rfl)
              simp only [Act.put, List.getElem_toArray, List.getElem_cons_zero, List.getElem_cons_succ, List.setIfInBounds_toArray, List.set_cons_zero, List.set_cons_succ]
              refine wpAnyH_take (i := 12) (v := ?_) rfl (by kernel_rfl) (by kernel_rfl) (by kernel_rfl) (fun _ _ _ h => h) (Or.inl ⟨by rfl, ?_⟩) (by assumption) ?_
              rotate_left
              · (intro w hSw; (try dsimp only at hSw); go_simp; try with_reducible rfl)
              simp only [Act.put, List.getElem_toArray, List.getElem_cons_zero, List.getElem_cons_succ, List.setIfInBounds_toArray, List.set_cons_zero, List.set_cons_succ]
              refine wpAnyH_ready (rs := [13]) (by kernel_rfl) (by simp) ?_
              refine AllReadyH.cons rfl (fun K hK => ?_) AllReadyH.nil
              simp only [List.getElem_toArray, List.getElem_cons_zero, List.getElem_cons_succ]
              go_simp
              refine hK.out _ _ ?_ (fun hHeld => ?_)
              · exact hHeld
              clear hK K
              try simp only [Act.put, List.getElem_toArray, List.getElem_cons_zero, List.getElem_cons_succ, List.setIfInBounds_toArray, List.set_cons_zero, List.set_cons_succ]
              refine wpAnyH_done (by kernel_rfl) ?_ _
              clear hHeld HSS
              have HN2 := toHid HT.out.drew
              go_wp2
              go_roundw
              case rel => exact ⟨j + 1, by omega, by go_num, HN2⟩
              case measure => simp [intOf]; omega
            · obtain rfl : j = n7 := by omega
              have HFF := toHid (HF.out.trans HT.out (by simp))
              go_wp2
              go_ret
              exact ⟨rfl, HFF.out⟩
        · have h60' : ¬ (60 : Int) ≤ k := by omega
          have HD := toHid (hD.still ((Touch.refl [] wr).alloc (.cells o.cells.toArray 44)))
          have hNB := Blk.newA wr o.cells.toArray _ 44 rfl
          have HBB := toHid hNB
          have HOK : Hid (wr.heap.size ∉ x.blocks ++ s.blocks ∧ wr.heap.size ∉ y.blocks ++ u.blocks) := ⟨fun hx => by
            rcases List.mem_append.1 hx with hx | hx
            · have := hD.g.ring.lt _ hx; omega
            · have := hD.g.mem.lt _ hx; omega, fun hx => by
            rcases List.mem_append.1 hx with hx | hx
            · have := hD.r.ring.lt _ hx; omega
            · have := hD.r.mem.lt _ hx; omega⟩
          have HO := toHid ok
          have HNM := toHid (And.intro hxr (And.intro hsm (And.intro hyq hum)))
          have hkc : k + 1 ≤ 100 := by omega
          unfold OpT.cells at *
          clear hcells HI htz h60
          obtain ⟨q4, hq4, hkq⟩ := kind4 o.k
          obtain rfl | rfl | rfl | rfl : q4 = 0 ∨ q4 = 1 ∨ q4 = 2 ∨ q4 = 3 := by omega
          · have hk4 : (IntKind.u64.wrap o.k).tmod 4 = 0 := hkq
            clear hkq hq4
            have H1 := toHid (greserve_any HD.out.g (by have := HD.out.next; omega) o.n ok.f0 ok.f1)
            rw [hxr] at H1
            have H2 : Hid (∀ e w1, ResPost (wr.alloc (.cells #[.int .i64 o.k, .int .i64 o.at_, .int .u64 o.n] 44)) x s o.n e w1 → Calls Try.prog 13 #[.pointer (some ⟨Q, 0, none⟩), .int .u64 o.n] w1 fun e' w2 => e' = .returned (.tuple #[.int .u64 (resP x.recs o.n fun b => Mem.addE s.rs b o.n 3).1, .int .i64 (resP x.recs o.n fun b => Mem.addE s.rs b o.n 3).2]) ∧ Goes w0 x s y u (k + 1) w1 w2) := fun e w1 hp => by
              have h9 := HD.out.reserve2 hkc ok.f0 ok.f1 hp
              rw [hyq] at h9
              exact h9
            clear hD ok hxr hsm hyq hum
            go_wp2_with fail
            refine Calls.mono H1.out ?_
            rintro e w5 hp
            have hv := hp.1
            have hst : ∃ x1 s1, GStep (wr.alloc (.cells #[.int .i64 o.k, .int .i64 o.at_, .int .u64 o.n] 44)) w5 x x1 s s1 := by
              rcases hp.2 with ⟨_, h1⟩ | ⟨_, _, _, _, _, _, _, _, _, _, _, _, _, h1⟩
              · exact ⟨_, _, h1⟩
              · exact ⟨_, _, h1⟩
            obtain ⟨x1, s1, hst⟩ := hst
            have d2 := (hst.touch.blk HBB.out HOK.out.1).cell (i := 2) rfl
            have H3 := toHid (H2.out _ _ hp)
            generalize (resP x.recs o.n fun b => Mem.addE s.rs b o.n 3) = P at *
            subst hv
            clear hst hp H1 H2 c0 c1 c2 hNB
            go_wp2_with fail
            refine Calls.mono H3.out ?_
            rintro e w6 ⟨rfl, hG⟩
            clear d2 H3
            obtain ⟨x2, s2, y2, u2, hD2, n1, n2, n3, n4, _⟩ := hG
            have N1 : x2.r = R := n1.trans HNM.out.1
            have N2 : s2.m = M := n2.trans HNM.out.2.1
            have N3 : y2.q = Q := n3.trans HNM.out.2.2.1
            have N4 : u2.m = D := n4.trans HNM.out.2.2.2
            have H5 := toHid (gopen_any hD2.g.ring)
            rw [N1] at H5
            have HD2 := toHid hD2
            have HNN := toHid (And.intro N1 (And.intro N2 (And.intro N3 N4)))
            clear hD2 n1 n2 n3 n4 N1 N2 N3 N4
            go_wp2_with fail
            refine Calls.mono H5.out ?_
            rintro e w7 ⟨rfl, ht7⟩
            have hD7 := HD2.out.still ht7
            have H6 := toHid (rgopen_any hD7.r.ring)
            rw [HNN.out.2.2.1, ← hD7.recs] at H6
            have H7 := toHid (Mem.count_any hD7.g.mem)
            rw [HNN.out.2.1] at H7
            have H8 := toHid (Mem.rcount_any hD7.r.mem)
            rw [HNN.out.2.2.2, hD7.rel.count hD7.g.mem.ids] at H8
            have HD7 := toHid hD7
            clear hD7 ht7 H5
            go_wp2_with fail
            refine Calls.mono H6.out ?_
            rintro e w8 ⟨rfl, rfl⟩
            go_wp2_with fail
            refine H7.out.mono ?_
            rintro e w9 ⟨rfl, rfl⟩
            go_wp2_with fail
            refine H8.out.mono ?_
            rintro e w10 ⟨rfl, ht10⟩
            have HN10 : Hid (∃ x s y u, GDuo w0 w10 x s y u (k + 1 + 1) ∧ x.r = R ∧ s.m = M ∧ y.q = Q ∧ u.m = D) := ⟨x2, s2, y2, u2, HD7.out.still ht10, HNN.out⟩
            clear ht10 H6 H7 H8 HD7 HNN HD2
            go_wp2
            go_roundw
            case rel => exact ⟨k + 1, by omega, by omega, by go_num, HN10⟩
            case measure => simp [intOf]; omega
          · have hk4 : (IntKind.u64.wrap o.k).tmod 4 = 1 := hkq
            clear hkq hq4
            have HSS : Hid (∀ S w', Touch S (wr.alloc (.cells #[.int .i64 o.k, .int .i64 o.at_, .int .u64 o.n] 44)) w' → wr.heap.size ∉ S → w'.cell? ⟨wr.heap.size, 0, none⟩ = some (.int .i64 o.k) ∧ w'.cell? ⟨wr.heap.size, 1, none⟩ = some (.int .i64 o.at_) ∧ w'.cell? ⟨wr.heap.size, 2, none⟩ = some (.int .u64 o.n)) := fun S w' ht hn => by
              have h9 := ht.blk HBB.out hn
              exact ⟨h9.cell rfl, h9.cell rfl, h9.cell rfl⟩
            have HAD := toHid (fun w => address_any o ok w)
            unfold opT at HAD
            have hab := addrI_bd ok
            generalize hA : addrI o = A at *
            have H1 : Hid (∀ w1, Touch [] (wr.alloc (.cells #[.int .i64 o.k, .int .i64 o.at_, .int .u64 o.n] 44)) w1 → Calls Try.prog 14 #[.pointer (some ⟨R, 0, none⟩), .int .u64 A] w1 (SubPost w1 x s A)) := fun w1 ht => by
              have hD1 := HD.out.still ht
              have h9 := gsubmit_any (hD1.g) (by have := hD1.outn; omega) A
              rw [hxr] at h9
              exact h9
            have H2 : Hid (∀ w1 e w2, Touch [] (wr.alloc (.cells #[.int .i64 o.k, .int .i64 o.at_, .int .u64 o.n] 44)) w1 → SubPost w1 x s A e w2 → ∀ w3, Touch [] w2 w3 → Calls Try.prog 16 #[.pointer (some ⟨Q, 0, none⟩), .int .u64 A, .bool true] w3 fun e' w4 => e' = .returned (.int .i64 (if numI x.recs A = -1 then 14 else 0)) ∧ Goes w0 x s y u (k + 1) w3 w4) := fun w1 e w2 ht hp w3 ht3 => by
              have hp3 : SubPost w1 x s A e w3 := by
                refine ⟨hp.1, ?_⟩
                rcases hp.2 with ⟨h0, h1⟩ | ⟨n9, i9, r9, s9, g9, cap9, k9, p1, p2, p3, p4, p5, p6, p7, p8, h1⟩
                · exact Or.inl ⟨h0, h1.trans (GStep.same h1.both ht3)⟩
                · exact Or.inr ⟨n9, i9, r9, s9, g9, cap9, k9, p1, p2, p3, p4, p5, p6, p7, p8, h1.trans (GStep.same h1.both ht3)⟩
              have h9 := (HD.out.still ht).submit2 hkc hab.1 hp3
              rw [hyq] at h9
              exact h9
            have HTT : Hid (∀ w1 e w2, Touch [] (wr.alloc (.cells #[.int .i64 o.k, .int .i64 o.at_, .int .u64 o.n] 44)) w1 → SubPost w1 x s A e w2 → Touch (x.blocks ++ s.blocks) (wr.alloc (.cells #[.int .i64 o.k, .int .i64 o.at_, .int .u64 o.n] 44)) w2) := fun w1 e w2 ht hp => by
              have hst : ∃ x1 s1, GStep w1 w2 x x1 s s1 := by
                rcases hp.2 with ⟨_, h1⟩ | ⟨_, _, _, _, _, _, _, _, _, _, _, _, _, _, _, h1⟩
                · exact ⟨_, _, h1⟩
                · exact ⟨_, _, h1⟩
              obtain ⟨x1, s1, hst⟩ := hst
              exact ht.nil.trans hst.touch (fun b hb => Or.inl hb)
            have HPV : Hid (∀ w1 e w2, SubPost w1 x s A e w2 → e = .returned (.int .i64 (if numI x.recs A = -1 then 14 else 0))) := fun w1 e w2 hp => hp.1
            clear hD ok hxr hsm hyq hum
            generalize (if numI x.recs A = -1 then (14 : Int) else 0) = V at *
            go_wp2_with fail
            refine wp_region_held_drew (S := fun w' => w'.cell? ⟨wr.heap.size, 0, none⟩ = some (.int .i64 o.k) ∧ w'.cell? ⟨wr.heap.size, 1, none⟩ = some (.int .i64 o.at_) ∧ w'.cell? ⟨wr.heap.size, 2, none⟩ = some (.int .u64 o.n)) (by kernel_rfl) ?_ (fun hHeld => ?_)
            · exact HSS.out [] _ (Touch.refl _ _).drew (by simp)
            refine wpAnyH_take (i := 0) (v := ?_) rfl (by kernel_rfl) (by kernel_rfl) (by kernel_rfl) (fun _ _ _ h => h) (Or.inl ⟨by rfl, ?_⟩) (by assumption) ?_
            rotate_left
            · (intro w hSw; (try dsimp only at hSw); go_simp; try with_reducible rfl)
            simp only [Act.put, List.getElem_toArray, List.getElem_cons_zero, List.setIfInBounds_toArray, List.set_cons_zero, List.set_cons_succ]
            refine wpAnyH_take (i := 1) (v := ?_) rfl (by kernel_rfl) (by kernel_rfl) (by kernel_rfl) (fun _ _ _ h => h) (Or.inl ⟨by rfl, ?_⟩) (by assumption) ?_
            rotate_left
            · (intro w hSw; (try dsimp only at hSw); go_simp; try with_reducible rfl)
            simp only [Act.put, List.getElem_toArray, List.getElem_cons_zero, List.getElem_cons_succ, List.setIfInBounds_toArray, List.set_cons_zero, List.set_cons_succ]
            refine wpAnyH_take (i := 4) (v := ?_) rfl (by kernel_rfl) (by kernel_rfl) (by kernel_rfl) (fun _ _ _ h => h) (Or.inl ⟨by rfl, ?_⟩) (by assumption) ?_
            rotate_left
            · (intro w hSw; (try dsimp only at hSw); go_simp; try with_reducible rfl)
            simp only [Act.put, List.getElem_toArray, List.getElem_cons_zero, List.getElem_cons_succ, List.setIfInBounds_toArray, List.set_cons_zero, List.set_cons_succ]
            refine wpAnyH_take (i := 5) (v := ?_) rfl (by kernel_rfl) (by kernel_rfl) (by kernel_rfl) (fun _ _ _ h => h) (Or.inl ⟨by rfl, ?_⟩) (by assumption) ?_
            rotate_left
            · (intro w hSw; (try dsimp only at hSw); go_simp; try with_reducible rfl)
            simp only [Act.put, List.getElem_toArray, List.getElem_cons_zero, List.getElem_cons_succ, List.setIfInBounds_toArray, List.set_cons_zero, List.set_cons_succ]
            refine wpAnyH_ready (rs := [2]) (by kernel_rfl) (by simp) ?_
            refine AllReadyH.cons rfl (fun K hK => ?_) AllReadyH.nil
            simp only [List.getElem_toArray, List.getElem_cons_zero, List.getElem_cons_succ]
            go_simp
            refine Calls.mono (HAD.out _) ?_; rintro e w5 ⟨rfl, ht5⟩; have HT5 := toHid ((Touch.refl [] (wr.alloc (.cells #[.int .i64 o.k, .int .i64 o.at_, .int .u64 o.n] 44))).drew.trans ht5 (by simp)); clear ht5
            go_wp2_with fail
            refine hK.out _ _ ?_ (fun hHeld => ?_)
            · exact HSS.out _ _ HT5.out (by simp)
            clear hK K
            try simp only [Act.put, List.getElem_toArray, List.getElem_cons_zero, List.getElem_cons_succ, List.setIfInBounds_toArray, List.set_cons_zero, List.set_cons_succ]
            refine wpAnyH_ready (rs := [3]) (by kernel_rfl) (by simp) ?_
            refine AllReadyH.cons rfl (fun K hK => ?_) AllReadyH.nil
            simp only [List.getElem_toArray, List.getElem_cons_zero, List.getElem_cons_succ]
            go_simp
            refine Calls.mono (H1.out _ HT5.out) ?_; rintro e w6 hp; have hv := HPV.out _ _ _ hp; have HT6 := toHid (HTT.out _ _ _ HT5.out hp); have HP6 := toHid hp; clear hp; subst hv
            go_wp2_with fail
            refine hK.out _ _ ?_ (fun hHeld => ?_)
            · exact HSS.out _ _ HT6.out HOK.out.1
            clear hK K
            try simp only [Act.put, List.getElem_toArray, List.getElem_cons_zero, List.getElem_cons_succ, List.setIfInBounds_toArray, List.set_cons_zero, List.set_cons_succ]
            refine wpAnyH_ready (rs := [6]) (by kernel_rfl) (by simp) ?_
            refine AllReadyH.cons rfl (fun K hK => ?_) AllReadyH.nil
            simp only [List.getElem_toArray, List.getElem_cons_zero, List.getElem_cons_succ]
            go_simp
            refine Calls.mono (HAD.out _) ?_; rintro e w7 ⟨rfl, ht7⟩; have HT7 := toHid ht7; have HT67 := toHid (HT6.out.trans ht7 (by simp)); clear ht7
            go_wp2_with fail
            refine hK.out _ _ ?_ (fun hHeld => ?_)
            · exact HSS.out _ _ HT67.out HOK.out.1
            clear hK K
            try simp only [Act.put, List.getElem_toArray, List.getElem_cons_zero, List.getElem_cons_succ, List.setIfInBounds_toArray, List.set_cons_zero, List.set_cons_succ]
            refine wpAnyH_ready (rs := [7]) (by kernel_rfl) (by simp) ?_
            refine AllReadyH.cons rfl (fun K hK => ?_) AllReadyH.nil
            simp only [List.getElem_toArray, List.getElem_cons_zero, List.getElem_cons_succ]
            go_simp
            refine Calls.mono (H2.out _ _ _ HT5.out HP6.out _ HT7.out) ?_; rintro e w8 ⟨rfl, hG⟩; have HG := toHid hG; have HTG : Hid (Touch (y.blocks ++ u.blocks) w7 w8) := by obtain ⟨_, _, _, _, _, _, _, _, _, h9⟩ := hG; exact h9
            go_wp2_with fail
            refine hK.out _ _ ?_ (fun hHeld => ?_)
            · clear hG; exact HSS.out _ _ ((HT67.out.mono (S' := (x.blocks ++ s.blocks) ++ (y.blocks ++ u.blocks)) (fun b hb => Or.inl (List.mem_append_left _ hb))).trans HTG.out (fun b hb => Or.inl (List.mem_append_right _ hb))) (fun hx => by rcases List.mem_append.1 hx with hx | hx; exact HOK.out.1 hx; exact HOK.out.2 hx)
            clear hK K
            try simp only [Act.put, List.getElem_toArray, List.getElem_cons_zero, List.getElem_cons_succ, List.setIfInBounds_toArray, List.set_cons_zero, List.set_cons_succ]
            refine wpAnyH_ready (rs := [8]) (by kernel_rfl) (by simp) ?_
            refine AllReadyH.cons rfl (fun K hK => ?_) AllReadyH.nil
            simp only [List.getElem_toArray, List.getElem_cons_zero, List.getElem_cons_succ]
            go_simp
            refine hK.out _ _ ?_ (fun hHeld => ?_)
            · exact hHeld
            clear hK K
            try simp only [Act.put, List.getElem_toArray, List.getElem_cons_zero, List.getElem_cons_succ, List.setIfInBounds_toArray, List.set_cons_zero, List.set_cons_succ]
            refine wpAnyH_done (by kernel_rfl) ?_ _
            clear hHeld
            have hG := HG.out
            clear H1 H2 HTT HPV HSS HAD c0 c1 c2 hNB HG HTG HT67 HT7 HT6 HT5 HP6
            obtain ⟨x2, s2, y2, u2, hD2, n1, n2, n3, n4, _⟩ := hG
            have N1 : x2.r = R := n1.trans HNM.out.1
            have N2 : s2.m = M := n2.trans HNM.out.2.1
            have N3 : y2.q = Q := n3.trans HNM.out.2.2.1
            have N4 : u2.m = D := n4.trans HNM.out.2.2.2
            have H5 := toHid (gopen_any hD2.g.ring)
            rw [N1] at H5
            have HD2 := toHid hD2
            have HNN := toHid (And.intro N1 (And.intro N2 (And.intro N3 N4)))
            clear hD2 n1 n2 n3 n4 N1 N2 N3 N4
            go_wp2_with fail
            refine Calls.mono H5.out ?_
            rintro e w7 ⟨rfl, ht7⟩
            have hD7 := HD2.out.still ht7
            have H6 := toHid (rgopen_any hD7.r.ring)
            rw [HNN.out.2.2.1, ← hD7.recs] at H6
            have H7 := toHid (Mem.count_any hD7.g.mem)
            rw [HNN.out.2.1] at H7
            have H8 := toHid (Mem.rcount_any hD7.r.mem)
            rw [HNN.out.2.2.2, hD7.rel.count hD7.g.mem.ids] at H8
            have HD7 := toHid hD7
            clear hD7 ht7 H5
            go_wp2_with fail
            refine Calls.mono H6.out ?_
            rintro e w8 ⟨rfl, rfl⟩
            go_wp2_with fail
            refine H7.out.mono ?_
            rintro e w9 ⟨rfl, rfl⟩
            go_wp2_with fail
            refine H8.out.mono ?_
            rintro e w10 ⟨rfl, ht10⟩
            have HN10 : Hid (∃ x s y u, GDuo w0 w10 x s y u (k + 1 + 1) ∧ x.r = R ∧ s.m = M ∧ y.q = Q ∧ u.m = D) := ⟨x2, s2, y2, u2, HD7.out.still ht10, HNN.out⟩
            clear ht10 H6 H7 H8 HD7 HNN HD2
            go_wp2
            go_roundw
            case rel => exact ⟨k + 1, by omega, by omega, by go_num, HN10⟩
            case measure => simp [intOf]; omega
          · have hk4 : (IntKind.u64.wrap o.k).tmod 4 = 2 := hkq
            clear hkq hq4
            have HSS : Hid (∀ S w', Touch S (wr.alloc (.cells #[.int .i64 o.k, .int .i64 o.at_, .int .u64 o.n] 44)) w' → wr.heap.size ∉ S → w'.cell? ⟨wr.heap.size, 0, none⟩ = some (.int .i64 o.k) ∧ w'.cell? ⟨wr.heap.size, 1, none⟩ = some (.int .i64 o.at_) ∧ w'.cell? ⟨wr.heap.size, 2, none⟩ = some (.int .u64 o.n)) := fun S w' ht hn => by
              have h9 := ht.blk HBB.out hn
              exact ⟨h9.cell rfl, h9.cell rfl, h9.cell rfl⟩
            have HAD := toHid (fun w => address_any o ok w)
            unfold opT at HAD
            have hab := addrI_bd ok
            generalize hA : addrI o = A at *
            have H1 : Hid (∀ w1, Touch [] (wr.alloc (.cells #[.int .i64 o.k, .int .i64 o.at_, .int .u64 o.n] 44)) w1 → Calls Try.prog 17 #[.pointer (some ⟨R, 0, none⟩), .int .u64 A] w1 (DisPost w1 x s A)) := fun w1 ht => by
              have hD1 := HD.out.still ht
              have h9 := gdiscard_any (hD1.g) A
              rw [hxr] at h9
              exact h9
            have H2 : Hid (∀ w1 e w2, Touch [] (wr.alloc (.cells #[.int .i64 o.k, .int .i64 o.at_, .int .u64 o.n] 44)) w1 → DisPost w1 x s A e w2 → ∀ w3, Touch [] w2 w3 → Calls Try.prog 16 #[.pointer (some ⟨Q, 0, none⟩), .int .u64 A, .bool false] w3 fun e' w4 => e' = .returned (.int .i64 (if numI x.recs A = -1 then 14 else 0)) ∧ Goes w0 x s y u (k + 1) w3 w4) := fun w1 e w2 ht hp w3 ht3 => by
              have hp3 : DisPost w1 x s A e w3 := by
                refine ⟨hp.1, ?_⟩
                rcases hp.2 with ⟨h0, h1⟩ | ⟨n9, i9, s9, p1, p2, p3, p4, p5, h1⟩
                · exact Or.inl ⟨h0, h1.trans (GStep.same h1.both ht3)⟩
                · exact Or.inr ⟨n9, i9, s9, p1, p2, p3, p4, p5, h1.trans (GStep.same h1.both ht3)⟩
              have h9 := (HD.out.still ht).discard2 hkc hab.1 hp3
              rw [hyq] at h9
              exact h9
            have HTT : Hid (∀ w1 e w2, Touch [] (wr.alloc (.cells #[.int .i64 o.k, .int .i64 o.at_, .int .u64 o.n] 44)) w1 → DisPost w1 x s A e w2 → Touch (x.blocks ++ s.blocks) (wr.alloc (.cells #[.int .i64 o.k, .int .i64 o.at_, .int .u64 o.n] 44)) w2) := fun w1 e w2 ht hp => by
              have hst : ∃ x1 s1, GStep w1 w2 x x1 s s1 := by
                rcases hp.2 with ⟨_, h1⟩ | ⟨_, _, _, _, _, _, _, _, h1⟩
                · exact ⟨_, _, h1⟩
                · exact ⟨_, _, h1⟩
              obtain ⟨x1, s1, hst⟩ := hst
              exact ht.nil.trans hst.touch (fun b hb => Or.inl hb)
            have HPV : Hid (∀ w1 e w2, DisPost w1 x s A e w2 → e = .returned (.int .i64 (if numI x.recs A = -1 then 14 else 0))) := fun w1 e w2 hp => hp.1
            clear hD ok hxr hsm hyq hum
            generalize (if numI x.recs A = -1 then (14 : Int) else 0) = V at *
            go_wp2_with fail
            refine wp_region_held_drew (S := fun w' => w'.cell? ⟨wr.heap.size, 0, none⟩ = some (.int .i64 o.k) ∧ w'.cell? ⟨wr.heap.size, 1, none⟩ = some (.int .i64 o.at_) ∧ w'.cell? ⟨wr.heap.size, 2, none⟩ = some (.int .u64 o.n)) (by kernel_rfl) ?_ (fun hHeld => ?_)
            · exact HSS.out [] _ (Touch.refl _ _).drew (by simp)
            refine wpAnyH_take (i := 0) (v := ?_) rfl (by kernel_rfl) (by kernel_rfl) (by kernel_rfl) (fun _ _ _ h => h) (Or.inl ⟨by rfl, ?_⟩) (by assumption) ?_
            rotate_left
            · (intro w hSw; (try dsimp only at hSw); go_simp; try with_reducible rfl)
            simp only [Act.put, List.getElem_toArray, List.getElem_cons_zero, List.setIfInBounds_toArray, List.set_cons_zero, List.set_cons_succ]
            refine wpAnyH_take (i := 1) (v := ?_) rfl (by kernel_rfl) (by kernel_rfl) (by kernel_rfl) (fun _ _ _ h => h) (Or.inl ⟨by rfl, ?_⟩) (by assumption) ?_
            rotate_left
            · (intro w hSw; (try dsimp only at hSw); go_simp; try with_reducible rfl)
            simp only [Act.put, List.getElem_toArray, List.getElem_cons_zero, List.getElem_cons_succ, List.setIfInBounds_toArray, List.set_cons_zero, List.set_cons_succ]
            refine wpAnyH_take (i := 4) (v := ?_) rfl (by kernel_rfl) (by kernel_rfl) (by kernel_rfl) (fun _ _ _ h => h) (Or.inl ⟨by rfl, ?_⟩) (by assumption) ?_
            rotate_left
            · (intro w hSw; (try dsimp only at hSw); go_simp; try with_reducible rfl)
            simp only [Act.put, List.getElem_toArray, List.getElem_cons_zero, List.getElem_cons_succ, List.setIfInBounds_toArray, List.set_cons_zero, List.set_cons_succ]
            refine wpAnyH_take (i := 5) (v := ?_) rfl (by kernel_rfl) (by kernel_rfl) (by kernel_rfl) (fun _ _ _ h => h) (Or.inl ⟨by rfl, ?_⟩) (by assumption) ?_
            rotate_left
            · (intro w hSw; (try dsimp only at hSw); go_simp; try with_reducible rfl)
            simp only [Act.put, List.getElem_toArray, List.getElem_cons_zero, List.getElem_cons_succ, List.setIfInBounds_toArray, List.set_cons_zero, List.set_cons_succ]
            refine wpAnyH_ready (rs := [2]) (by kernel_rfl) (by simp) ?_
            refine AllReadyH.cons rfl (fun K hK => ?_) AllReadyH.nil
            simp only [List.getElem_toArray, List.getElem_cons_zero, List.getElem_cons_succ]
            go_simp
            refine Calls.mono (HAD.out _) ?_; rintro e w5 ⟨rfl, ht5⟩; have HT5 := toHid ((Touch.refl [] (wr.alloc (.cells #[.int .i64 o.k, .int .i64 o.at_, .int .u64 o.n] 44))).drew.trans ht5 (by simp)); clear ht5
            go_wp2_with fail
            refine hK.out _ _ ?_ (fun hHeld => ?_)
            · exact HSS.out _ _ HT5.out (by simp)
            clear hK K
            try simp only [Act.put, List.getElem_toArray, List.getElem_cons_zero, List.getElem_cons_succ, List.setIfInBounds_toArray, List.set_cons_zero, List.set_cons_succ]
            refine wpAnyH_ready (rs := [3]) (by kernel_rfl) (by simp) ?_
            refine AllReadyH.cons rfl (fun K hK => ?_) AllReadyH.nil
            simp only [List.getElem_toArray, List.getElem_cons_zero, List.getElem_cons_succ]
            go_simp
            refine Calls.mono (H1.out _ HT5.out) ?_; rintro e w6 hp; have hv := HPV.out _ _ _ hp; have HT6 := toHid (HTT.out _ _ _ HT5.out hp); have HP6 := toHid hp; clear hp; subst hv
            go_wp2_with fail
            refine hK.out _ _ ?_ (fun hHeld => ?_)
            · exact HSS.out _ _ HT6.out HOK.out.1
            clear hK K
            try simp only [Act.put, List.getElem_toArray, List.getElem_cons_zero, List.getElem_cons_succ, List.setIfInBounds_toArray, List.set_cons_zero, List.set_cons_succ]
            refine wpAnyH_ready (rs := [6]) (by kernel_rfl) (by simp) ?_
            refine AllReadyH.cons rfl (fun K hK => ?_) AllReadyH.nil
            simp only [List.getElem_toArray, List.getElem_cons_zero, List.getElem_cons_succ]
            go_simp
            refine Calls.mono (HAD.out _) ?_; rintro e w7 ⟨rfl, ht7⟩; have HT7 := toHid ht7; have HT67 := toHid (HT6.out.trans ht7 (by simp)); clear ht7
            go_wp2_with fail
            refine hK.out _ _ ?_ (fun hHeld => ?_)
            · exact HSS.out _ _ HT67.out HOK.out.1
            clear hK K
            try simp only [Act.put, List.getElem_toArray, List.getElem_cons_zero, List.getElem_cons_succ, List.setIfInBounds_toArray, List.set_cons_zero, List.set_cons_succ]
            refine wpAnyH_ready (rs := [7]) (by kernel_rfl) (by simp) ?_
            refine AllReadyH.cons rfl (fun K hK => ?_) AllReadyH.nil
            simp only [List.getElem_toArray, List.getElem_cons_zero, List.getElem_cons_succ]
            go_simp
            refine Calls.mono (H2.out _ _ _ HT5.out HP6.out _ HT7.out) ?_; rintro e w8 ⟨rfl, hG⟩; have HG := toHid hG; have HTG : Hid (Touch (y.blocks ++ u.blocks) w7 w8) := by obtain ⟨_, _, _, _, _, _, _, _, _, h9⟩ := hG; exact h9
            go_wp2_with fail
            refine hK.out _ _ ?_ (fun hHeld => ?_)
            · clear hG; exact HSS.out _ _ ((HT67.out.mono (S' := (x.blocks ++ s.blocks) ++ (y.blocks ++ u.blocks)) (fun b hb => Or.inl (List.mem_append_left _ hb))).trans HTG.out (fun b hb => Or.inl (List.mem_append_right _ hb))) (fun hx => by rcases List.mem_append.1 hx with hx | hx; exact HOK.out.1 hx; exact HOK.out.2 hx)
            clear hK K
            try simp only [Act.put, List.getElem_toArray, List.getElem_cons_zero, List.getElem_cons_succ, List.setIfInBounds_toArray, List.set_cons_zero, List.set_cons_succ]
            refine wpAnyH_ready (rs := [8]) (by kernel_rfl) (by simp) ?_
            refine AllReadyH.cons rfl (fun K hK => ?_) AllReadyH.nil
            simp only [List.getElem_toArray, List.getElem_cons_zero, List.getElem_cons_succ]
            go_simp
            refine hK.out _ _ ?_ (fun hHeld => ?_)
            · exact hHeld
            clear hK K
            try simp only [Act.put, List.getElem_toArray, List.getElem_cons_zero, List.getElem_cons_succ, List.setIfInBounds_toArray, List.set_cons_zero, List.set_cons_succ]
            refine wpAnyH_done (by kernel_rfl) ?_ _
            clear hHeld
            have hG := HG.out
            clear H1 H2 HTT HPV HSS HAD c0 c1 c2 hNB HG HTG HT67 HT7 HT6 HT5 HP6
            obtain ⟨x2, s2, y2, u2, hD2, n1, n2, n3, n4, _⟩ := hG
            have N1 : x2.r = R := n1.trans HNM.out.1
            have N2 : s2.m = M := n2.trans HNM.out.2.1
            have N3 : y2.q = Q := n3.trans HNM.out.2.2.1
            have N4 : u2.m = D := n4.trans HNM.out.2.2.2
            have H5 := toHid (gopen_any hD2.g.ring)
            rw [N1] at H5
            have HD2 := toHid hD2
            have HNN := toHid (And.intro N1 (And.intro N2 (And.intro N3 N4)))
            clear hD2 n1 n2 n3 n4 N1 N2 N3 N4
            go_wp2_with fail
            refine Calls.mono H5.out ?_
            rintro e w7 ⟨rfl, ht7⟩
            have hD7 := HD2.out.still ht7
            have H6 := toHid (rgopen_any hD7.r.ring)
            rw [HNN.out.2.2.1, ← hD7.recs] at H6
            have H7 := toHid (Mem.count_any hD7.g.mem)
            rw [HNN.out.2.1] at H7
            have H8 := toHid (Mem.rcount_any hD7.r.mem)
            rw [HNN.out.2.2.2, hD7.rel.count hD7.g.mem.ids] at H8
            have HD7 := toHid hD7
            clear hD7 ht7 H5
            go_wp2_with fail
            refine Calls.mono H6.out ?_
            rintro e w8 ⟨rfl, rfl⟩
            go_wp2_with fail
            refine H7.out.mono ?_
            rintro e w9 ⟨rfl, rfl⟩
            go_wp2_with fail
            refine H8.out.mono ?_
            rintro e w10 ⟨rfl, ht10⟩
            have HN10 : Hid (∃ x s y u, GDuo w0 w10 x s y u (k + 1 + 1) ∧ x.r = R ∧ s.m = M ∧ y.q = Q ∧ u.m = D) := ⟨x2, s2, y2, u2, HD7.out.still ht10, HNN.out⟩
            clear ht10 H6 H7 H8 HD7 HNN HD2
            go_wp2
            go_roundw
            case rel => exact ⟨k + 1, by omega, by omega, by go_num, HN10⟩
            case measure => simp [intOf]; omega
          · have hk4 : (IntKind.u64.wrap o.k).tmod 4 = 3 := hkq
            clear hkq hq4
            have HSS : Hid (∀ S w', Touch S (wr.alloc (.cells #[.int .i64 o.k, .int .i64 o.at_, .int .u64 o.n] 44)) w' → wr.heap.size ∉ S → w'.cell? ⟨wr.heap.size, 0, none⟩ = some (.int .i64 o.k) ∧ w'.cell? ⟨wr.heap.size, 1, none⟩ = some (.int .i64 o.at_) ∧ w'.cell? ⟨wr.heap.size, 2, none⟩ = some (.int .u64 o.n)) := fun S w' ht hn => by
              have h9 := ht.blk HBB.out hn
              exact ⟨h9.cell rfl, h9.cell rfl, h9.cell rfl⟩
            have HAD := toHid (fun w => address_any o ok w)
            unfold opT at HAD
            have hab := addrI_bd ok
            generalize hA : addrI o = A at *
            have H1 : Hid (∀ w1, Touch [] (wr.alloc (.cells #[.int .i64 o.k, .int .i64 o.at_, .int .u64 o.n] 44)) w1 → Calls Try.prog 18 #[.pointer (some ⟨M, 0, none⟩), .int .u64 A, .int .i64 1, .int .u64 o.n] w1 (Mem.StorePost w1 s A 1 o.n)) := fun w1 ht => by
              have h9 := Mem.store_any (HD.out.still ht).g.mem A 1 o.n hab.1 hab.2 HO.out.f0
              rw [hsm] at h9
              exact h9
            have H2 : Hid (∀ w1 e w2, Touch [] (wr.alloc (.cells #[.int .i64 o.k, .int .i64 o.at_, .int .u64 o.n] 44)) w1 → Mem.StorePost w1 s A 1 o.n e w2 → ∀ w3, Touch [] w2 w3 → Calls Try.prog 19 #[.pointer (some ⟨D, 0, none⟩), .int .u64 A, .int .i64 1, .int .u64 o.n] w3 fun e' w4 => e' = .returned (.int .i64 (Mem.storeE s.rs A 1)) ∧ Goes w0 x s y u (k + 1) w3 w4) := fun w1 e w2 ht hp w3 ht3 => by
              have hp3 : Mem.StorePost w1 s A 1 o.n e w3 := ⟨hp.1, hp.2.1.trans ht3 (by simp), hp.2.2.1.touch ht3 (by simp), hp.2.2.2⟩
              have h9 := (HD.out.still ht).store2 hab.1 hab.2 HO.out.f0 HO.out.f1 hp3
              rw [hum] at h9
              exact h9
            have HTT : Hid (∀ w1 e w2, Touch [] (wr.alloc (.cells #[.int .i64 o.k, .int .i64 o.at_, .int .u64 o.n] 44)) w1 → Mem.StorePost w1 s A 1 o.n e w2 → Touch (x.blocks ++ s.blocks) (wr.alloc (.cells #[.int .i64 o.k, .int .i64 o.at_, .int .u64 o.n] 44)) w2) := fun w1 e w2 ht hp => ht.nil.trans hp.2.1 (fun b hb => Or.inl (List.mem_append_right _ hb))
            have HPV : Hid (∀ w1 e w2, Mem.StorePost w1 s A 1 o.n e w2 → e = .returned (.int .i64 (Mem.storeE s.rs A 1))) := fun w1 e w2 hp => hp.1
            clear hD ok hxr hsm hyq hum
            generalize Mem.storeE s.rs A 1 = V at *
            go_wp2_with fail
            refine wp_region_held_drew (S := fun w' => w'.cell? ⟨wr.heap.size, 0, none⟩ = some (.int .i64 o.k) ∧ w'.cell? ⟨wr.heap.size, 1, none⟩ = some (.int .i64 o.at_) ∧ w'.cell? ⟨wr.heap.size, 2, none⟩ = some (.int .u64 o.n)) (by kernel_rfl) ?_ (fun hHeld => ?_)
            · exact HSS.out [] _ (Touch.refl _ _).drew (by simp)
            refine wpAnyH_take (i := 0) (v := ?_) rfl (by kernel_rfl) (by kernel_rfl) (by kernel_rfl) (fun _ _ _ h => h) (Or.inl ⟨by rfl, ?_⟩) (by assumption) ?_
            rotate_left
            · (intro w hSw; (try dsimp only at hSw); go_simp; try with_reducible rfl)
            simp only [Act.put, List.getElem_toArray, List.getElem_cons_zero, List.setIfInBounds_toArray, List.set_cons_zero, List.set_cons_succ]
            refine wpAnyH_take (i := 1) (v := ?_) rfl (by kernel_rfl) (by kernel_rfl) (by kernel_rfl) (fun _ _ _ h => h) (Or.inl ⟨by rfl, ?_⟩) (by assumption) ?_
            rotate_left
            · (intro w hSw; (try dsimp only at hSw); go_simp; try with_reducible rfl)
            simp only [Act.put, List.getElem_toArray, List.getElem_cons_zero, List.getElem_cons_succ, List.setIfInBounds_toArray, List.set_cons_zero, List.set_cons_succ]
            refine wpAnyH_take (i := 3) (v := ?_) rfl (by kernel_rfl) (by kernel_rfl) (by kernel_rfl) (fun _ _ _ h => h) (Or.inl ⟨by rfl, ?_⟩) (by assumption) ?_
            rotate_left
            · (intro w hSw; (try dsimp only at hSw); go_simp; try with_reducible rfl)
            simp only [Act.put, List.getElem_toArray, List.getElem_cons_zero, List.getElem_cons_succ, List.setIfInBounds_toArray, List.set_cons_zero, List.set_cons_succ]
            refine wpAnyH_take (i := 4) (v := ?_) rfl (by kernel_rfl) (by kernel_rfl) (by kernel_rfl) (fun _ _ _ h => h) (Or.inl ⟨by rfl, ?_⟩) (by assumption) ?_
            rotate_left
            · (intro w hSw; (try dsimp only at hSw); go_simp; try with_reducible rfl)
            simp only [Act.put, List.getElem_toArray, List.getElem_cons_zero, List.getElem_cons_succ, List.setIfInBounds_toArray, List.set_cons_zero, List.set_cons_succ]
            refine wpAnyH_take (i := 6) (v := ?_) rfl (by kernel_rfl) (by kernel_rfl) (by kernel_rfl) (fun _ _ _ h => h) (Or.inl ⟨by rfl, ?_⟩) (by assumption) ?_
            rotate_left
            · (intro w hSw; (try dsimp only at hSw); go_simp; try with_reducible rfl)
            simp only [Act.put, List.getElem_toArray, List.getElem_cons_zero, List.getElem_cons_succ, List.setIfInBounds_toArray, List.set_cons_zero, List.set_cons_succ]
            refine wpAnyH_take (i := 7) (v := ?_) rfl (by kernel_rfl) (by kernel_rfl) (by kernel_rfl) (fun _ _ _ h => h) (Or.inl ⟨by rfl, ?_⟩) (by assumption) ?_
            rotate_left
            · (intro w hSw; (try dsimp only at hSw); go_simp; try with_reducible rfl)
            simp only [Act.put, List.getElem_toArray, List.getElem_cons_zero, List.getElem_cons_succ, List.setIfInBounds_toArray, List.set_cons_zero, List.set_cons_succ]
            refine wpAnyH_take (i := 9) (v := ?_) rfl (by kernel_rfl) (by kernel_rfl) (by kernel_rfl) (fun _ _ _ h => h) (Or.inl ⟨by rfl, ?_⟩) (by assumption) ?_
            rotate_left
            · (intro w hSw; (try dsimp only at hSw); go_simp; try with_reducible rfl)
            simp only [Act.put, List.getElem_toArray, List.getElem_cons_zero, List.getElem_cons_succ, List.setIfInBounds_toArray, List.set_cons_zero, List.set_cons_succ]
            refine wpAnyH_take (i := 10) (v := ?_) rfl (by kernel_rfl) (by kernel_rfl) (by kernel_rfl) (fun _ _ _ h => h) (Or.inl ⟨by rfl, ?_⟩) (by assumption) ?_
            rotate_left
            · (intro w hSw; (try dsimp only at hSw); go_simp; try with_reducible rfl)
            simp only [Act.put, List.getElem_toArray, List.getElem_cons_zero, List.getElem_cons_succ, List.setIfInBounds_toArray, List.set_cons_zero, List.set_cons_succ]
            refine wpAnyH_ready (rs := [2]) (by kernel_rfl) (by simp) ?_
            refine AllReadyH.cons rfl (fun K hK => ?_) AllReadyH.nil
            simp only [List.getElem_toArray, List.getElem_cons_zero, List.getElem_cons_succ]
            go_simp
            refine Calls.mono (HAD.out _) ?_; rintro e w5 ⟨rfl, ht5⟩; have HT5 := toHid ((Touch.refl [] (wr.alloc (.cells #[.int .i64 o.k, .int .i64 o.at_, .int .u64 o.n] 44))).drew.trans ht5 (by simp)); clear ht5
            go_wp2_with fail
            refine hK.out _ _ ?_ (fun hHeld => ?_)
            · exact HSS.out _ _ HT5.out (by simp)
            clear hK K
            try simp only [Act.put, List.getElem_toArray, List.getElem_cons_zero, List.getElem_cons_succ, List.setIfInBounds_toArray, List.set_cons_zero, List.set_cons_succ]
            refine wpAnyH_ready (rs := [5]) (by kernel_rfl) (by simp) ?_
            refine AllReadyH.cons rfl (fun K hK => ?_) AllReadyH.nil
            simp only [List.getElem_toArray, List.getElem_cons_zero, List.getElem_cons_succ]
            go_simp
            refine Calls.mono (H1.out _ HT5.out) ?_; rintro e w6 hp; have hv := HPV.out _ _ _ hp; have HT6 := toHid (HTT.out _ _ _ HT5.out hp); have HP6 := toHid hp; clear hp; subst hv
            go_wp2_with fail
            refine hK.out _ _ ?_ (fun hHeld => ?_)
            · exact HSS.out _ _ HT6.out HOK.out.1
            clear hK K
            try simp only [Act.put, List.getElem_toArray, List.getElem_cons_zero, List.getElem_cons_succ, List.setIfInBounds_toArray, List.set_cons_zero, List.set_cons_succ]
            refine wpAnyH_ready (rs := [8]) (by kernel_rfl) (by simp) ?_
            refine AllReadyH.cons rfl (fun K hK => ?_) AllReadyH.nil
            simp only [List.getElem_toArray, List.getElem_cons_zero, List.getElem_cons_succ]
            go_simp
            refine Calls.mono (HAD.out _) ?_; rintro e w7 ⟨rfl, ht7⟩; have HT7 := toHid ht7; have HT67 := toHid (HT6.out.trans ht7 (by simp)); clear ht7
            go_wp2_with fail
            refine hK.out _ _ ?_ (fun hHeld => ?_)
            · exact HSS.out _ _ HT67.out HOK.out.1
            clear hK K
            try simp only [Act.put, List.getElem_toArray, List.getElem_cons_zero, List.getElem_cons_succ, List.setIfInBounds_toArray, List.set_cons_zero, List.set_cons_succ]
            refine wpAnyH_ready (rs := [11]) (by kernel_rfl) (by simp) ?_
            refine AllReadyH.cons rfl (fun K hK => ?_) AllReadyH.nil
            simp only [List.getElem_toArray, List.getElem_cons_zero, List.getElem_cons_succ]
            go_simp
            refine Calls.mono (H2.out _ _ _ HT5.out HP6.out _ HT7.out) ?_; rintro e w8 ⟨rfl, hG⟩; have HG := toHid hG; have HTG : Hid (Touch (y.blocks ++ u.blocks) w7 w8) := by obtain ⟨_, _, _, _, _, _, _, _, _, h9⟩ := hG; exact h9
            go_wp2_with fail
            refine hK.out _ _ ?_ (fun hHeld => ?_)
            · clear hG; exact HSS.out _ _ ((HT67.out.mono (S' := (x.blocks ++ s.blocks) ++ (y.blocks ++ u.blocks)) (fun b hb => Or.inl (List.mem_append_left _ hb))).trans HTG.out (fun b hb => Or.inl (List.mem_append_right _ hb))) (fun hx => by rcases List.mem_append.1 hx with hx | hx; exact HOK.out.1 hx; exact HOK.out.2 hx)
            clear hK K
            try simp only [Act.put, List.getElem_toArray, List.getElem_cons_zero, List.getElem_cons_succ, List.setIfInBounds_toArray, List.set_cons_zero, List.set_cons_succ]
            refine wpAnyH_ready (rs := [12]) (by kernel_rfl) (by simp) ?_
            refine AllReadyH.cons rfl (fun K hK => ?_) AllReadyH.nil
            simp only [List.getElem_toArray, List.getElem_cons_zero, List.getElem_cons_succ]
            go_simp
            refine hK.out _ _ ?_ (fun hHeld => ?_)
            · exact hHeld
            clear hK K
            try simp only [Act.put, List.getElem_toArray, List.getElem_cons_zero, List.getElem_cons_succ, List.setIfInBounds_toArray, List.set_cons_zero, List.set_cons_succ]
            refine wpAnyH_done (by kernel_rfl) ?_ _
            clear hHeld
            have hG := HG.out
            clear H1 H2 HTT HPV HSS HAD c0 c1 c2 hNB HG HTG HT67 HT7 HT6 HT5 HP6
            obtain ⟨x2, s2, y2, u2, hD2, n1, n2, n3, n4, _⟩ := hG
            have N1 : x2.r = R := n1.trans HNM.out.1
            have N2 : s2.m = M := n2.trans HNM.out.2.1
            have N3 : y2.q = Q := n3.trans HNM.out.2.2.1
            have N4 : u2.m = D := n4.trans HNM.out.2.2.2
            have H5 := toHid (gopen_any hD2.g.ring)
            rw [N1] at H5
            have HD2 := toHid hD2
            have HNN := toHid (And.intro N1 (And.intro N2 (And.intro N3 N4)))
            clear hD2 n1 n2 n3 n4 N1 N2 N3 N4
            go_wp2_with fail
            refine Calls.mono H5.out ?_
            rintro e w7 ⟨rfl, ht7⟩
            have hD7 := HD2.out.still ht7
            have H6 := toHid (rgopen_any hD7.r.ring)
            rw [HNN.out.2.2.1, ← hD7.recs] at H6
            have H7 := toHid (Mem.count_any hD7.g.mem)
            rw [HNN.out.2.1] at H7
            have H8 := toHid (Mem.rcount_any hD7.r.mem)
            rw [HNN.out.2.2.2, hD7.rel.count hD7.g.mem.ids] at H8
            have HD7 := toHid hD7
            clear hD7 ht7 H5
            go_wp2_with fail
            refine Calls.mono H6.out ?_
            rintro e w8 ⟨rfl, rfl⟩
            go_wp2_with fail
            refine H7.out.mono ?_
            rintro e w9 ⟨rfl, rfl⟩
            go_wp2_with fail
            refine H8.out.mono ?_
            rintro e w10 ⟨rfl, ht10⟩
            have HN10 : Hid (∃ x s y u, GDuo w0 w10 x s y u (k + 1 + 1) ∧ x.r = R ∧ s.m = M ∧ y.q = Q ∧ u.m = D) := ⟨x2, s2, y2, u2, HD7.out.still ht10, HNN.out⟩
            clear ht10 H6 H7 H8 HD7 HNN HD2
            go_wp2
            go_roundw
            case rel => exact ⟨k + 1, by omega, by omega, by go_num, HN10⟩
            case measure => simp [intOf]; omega
      · obtain ⟨x, s, y, u, hD, hxr, hsm, hyq, hum⟩ := HI.out
        obtain rfl : k = m := by omega
        have HD := toHid hD
        have HN := toHid (And.intro hxr hyq)
        clear hD HI hxr hsm hyq hum
        go_wp2_with fail
        have H1 := toHid (gout_any HD.out.g.ring (by have := HD.out.outn; omega))
        rw [HN.out.1] at H1
        refine Calls.mono H1.out ?_
        rintro e w7 ⟨g7, cap7, l7, rfl, hR7, hbs7, ht7, _⟩
        have hD7 := HD.out.still ht7
        have hbs : l7.map KR.bs = y.l.map KR.bs := hbs7.trans hD7.outs
        obtain ⟨n7, hn7⟩ : ∃ n, l7.length = n := ⟨_, rfl⟩
        have hyl : y.l.length = n7 := by have := congrArg List.length hbs; simp at this; omega
        have hn100 : n7 ≤ 100 := by
          have h1 := congrArg List.length hbs7
          simp at h1
          have := hD7.outn
          omega
        have e2 : w7.cell? ⟨Q, 2, none⟩ = some (slV y.g n7 y.cap) := by rw [← HN.out.2, ← hyl]; exact hD7.r.ring.self.cell rfl
        have HR7 := toHid (And.intro hR7 (And.intro hD7.r.ring.rows (And.intro hbs (And.intro hn7 hyl))))
        have HF := toHid (HT0.out.trans hD7.touch (by simp))
        have HE2 := toHid e2
        clear hR7 hbs7 ht7 hD7 hbs H1 hyl
        unfold slV at e2 ⊢
        rw [hn7]
        clear hn7
        generalize hga : (Option.map (fun b => (⟨b, 0, none⟩ : Addr)) g7) = ga at *
        have HGA := toHid hga
        clear hga
        generalize (Option.map (fun b => (⟨b, 0, none⟩ : Addr)) y.g) = gy at *
        go_wp2_with fail
        clear e2
        go_loopw [147] (fun t w' => ∃ j : Nat, j ≤ n7 ∧ t = .int .i64 j ∧ Hid (Touch [] w7 w')) (fun t _ => n7 - (intOf t).toNat)
        case atStart => exact ⟨0, by omega, rfl, Touch.refl _ _⟩
        case round =>
          obtain ⟨j, hj, rfl, HT⟩ := hrel
          by_cases hjn : j < n7
          · have hjn' : (j : Int) < n7 := by omega
            have hj0 : (0 : Int) ≤ j := by omega
            obtain ⟨hR7, hRY, hbs, hl7, hly⟩ := HR7.out
            have hk1 : l7[j]? = some (l7[j]'(by omega)) := List.getElem?_eq_getElem _
            have hk2 : y.l[j]? = some (y.l[j]'(by omega)) := List.getElem?_eq_getElem _
            have hkk : (l7[j]'(by omega)).bs = (y.l[j]'(by omega)).bs := by
              have h1 := congrArg (fun l => l[j]?) hbs
              simp only [List.getElem?_map, hk1, hk2, Option.map_some] at h1
              exact Option.some.inj h1
            generalize l7[j]'(by omega) = k1 at *
            generalize y.l[j]'(by omega) = k2 at *
            obtain ⟨b7, hb7, hc7⟩ := hR7.cell hk1
            obtain ⟨b8, hb8, hc8⟩ := hRY.cell hk2
            have hga : ga = some ⟨b7, 0, none⟩ := by rw [← HGA.out, hb7]; rfl
            subst hga
            have hA1 := (hR7.keys k1 (List.mem_of_getElem? hk1)).1
            have hA2 := (hRY.keys k2 (List.mem_of_getElem? hk2)).1
            unfold KR.v at hc7 hc8
            have hlen : k1.bs.length = k2.bs.length := by rw [hkk]
            have HSS : Hid (∀ w', Touch [] w7 w' → w'.cell? ⟨b7, j, none⟩ = some (.slice (some ⟨k1.b, 0, none⟩) k2.bs.length k1.cap) ∧ w'.cell? ⟨Q, 2, none⟩ = some (.slice (some ⟨b8, 0, none⟩) n7 y.cap) ∧ w'.cell? ⟨b8, j, none⟩ = some (.slice (some ⟨k2.b, 0, none⟩) k2.bs.length k2.cap) ∧ (convert 60 9 (.slice (some ⟨k1.b, 0, none⟩) k2.bs.length k1.cap)).run Try.prog w' = .ok (.string (strOfNums k2.bs)) w' ∧ (convert 60 9 (.slice (some ⟨k2.b, 0, none⟩) k2.bs.length k2.cap)).run Try.prog w' = .ok (.string (strOfNums k2.bs)) w') := fun w' ht => by
              have hq2 := ht.cell HE2.out (by simp)
              rw [hb8] at hq2
              rw [← hlen]
              refine ⟨ht.cell hc7 (by simp), hq2, ?_, ?_, ?_⟩
              · rw [hlen]; exact ht.cell hc8 (by simp)
              · rw [← hkk]; exact (hA1.touch ht (by simp)).conv
              · rw [hlen]; exact (hA2.touch ht (by simp)).conv
            clear hR7 hRY hbs hl7 hly hk1 hk2 hkk hb7 hc7 hb8 hc8 hA1 hA2 hlen
            generalize strOfNums k2.bs = A at *
            generalize k2.bs.length = L at *
            go_wp2_with fail
            refine wp_region_held_drew (S := fun w' => w'.cell? ⟨b7, j, none⟩ = some (.slice (some ⟨k1.b, 0, none⟩) L k1.cap) ∧ w'.cell? ⟨Q, 2, none⟩ = some (.slice (some ⟨b8, 0, none⟩) n7 y.cap) ∧ w'.cell? ⟨b8, j, none⟩ = some (.slice (some ⟨k2.b, 0, none⟩) L k2.cap) ∧ (convert 60 9 (.slice (some ⟨k1.b, 0, none⟩) L k1.cap)).run Try.prog w' = .ok (.string A) w' ∧ (convert 60 9 (.slice (some ⟨k2.b, 0, none⟩) L k2.cap)).run Try.prog w' = .ok (.string A) w') (by kernel_rfl) ?_ (fun hHeld => ?_)
            · exact HSS.out _ HT.out.drew
            refine wpAnyH_take (i := 0) (v := ?_) rfl (by kernel_rfl) (by kernel_rfl) (by kernel_rfl) (fun _ _ _ h => h) (Or.inl ⟨by rfl, ?_⟩) (by assumption) ?_
            rotate_left
            · (intro w hSw; (try dsimp only at hSw); go_simp; try with_reducible rfl)
            simp only [Act.put, List.getElem_toArray, List.getElem_cons_zero, List.setIfInBounds_toArray, List.set_cons_zero, List.set_cons_succ]
            refine wpAnyH_take (i := 1) (v := ?_) rfl (by kernel_rfl) (by kernel_rfl) (by kernel_rfl) (fun _ _ _ h => h) (Or.inl ⟨by rfl, ?_⟩) (by assumption) ?_
            rotate_left
            · (intro w hSw; (try dsimp only at hSw); go_simp; try with_reducible rfl)
            simp only [Act.put, List.getElem_toArray, List.getElem_cons_zero, List.getElem_cons_succ, List.setIfInBounds_toArray, List.set_cons_zero, List.set_cons_succ]
            refine wpAnyH_take (i := 2) (v := ?_) rfl (by kernel_rfl) (by kernel_rfl) (by kernel_rfl) (fun _ _ _ h => h) (Or.inl ⟨by rfl, ?_⟩) (by assumption) ?_
            rotate_left
            · (intro w hSw; (try dsimp only at hSw); go_simp; try with_reducible rfl)
            simp only [Act.put, List.getElem_toArray, List.getElem_cons_zero, List.getElem_cons_succ, List.setIfInBounds_toArray, List.set_cons_zero, List.set_cons_succ]
            refine wpAnyH_take (i := 3) (v := ?_) rfl (by kernel_rfl) (by kernel_rfl) (by kernel_rfl) (fun _ _ _ h => h) (Or.inl ⟨by rfl, ?_⟩) (by assumption) ?_
            rotate_left
            · (intro w hSw; (try dsimp only at hSw); go_simp; try with_reducible rfl)
            simp only [Act.put, List.getElem_toArray, List.getElem_cons_zero, List.getElem_cons_succ, List.setIfInBounds_toArray, List.set_cons_zero, List.set_cons_succ]
            refine wpAnyH_take (i := 4) (v := ?_) rfl (by kernel_rfl) (by kernel_rfl) (by kernel_rfl) (fun _ _ _ h => h) (Or.inl ⟨by rfl, ?_⟩) (by assumption) ?_
            rotate_left
            · (intro w hSw; (try dsimp only at hSw); go_simp; try with_reducible rfl)
            simp only [Act.put, List.getElem_toArray, List.getElem_cons_zero, List.getElem_cons_succ, List.setIfInBounds_toArray, List.set_cons_zero, List.set_cons_succ]
            refine wpAnyH_take (i := 5) (v := ?_) rfl (by kernel_rfl) (by kernel_rfl) (by kernel_rfl) (fun _ _ _ h => h) (Or.inl ⟨by rfl, ?_⟩) (by assumption) ?_
            rotate_left
            · (intro w hSw; (try dsimp only at hSw); go_simp; try with_reducible rfl)
            simp only [Act.put, List.getElem_toArray, List.getElem_cons_zero, List.getElem_cons_succ, List.setIfInBounds_toArray, List.set_cons_zero, List.set_cons_succ]
            refine wpAnyH_take (i := 6) (v := ?_) rfl (by kernel_rfl) (by kernel_rfl) (by kernel_rfl) (fun _ _ _ h => h) (Or.inl ⟨by rfl, ?_⟩) (by assumption) ?_
            rotate_left
            · (intro w hSw; (try dsimp only at hSw); go_simp; try with_reducible rfl)
            simp only [Act.put, List.getElem_toArray, List.getElem_cons_zero, List.getElem_cons_succ, List.setIfInBounds_toArray, List.set_cons_zero, List.set_cons_succ]
            refine wpAnyH_take (i := 7) (v := ?_) rfl (by kernel_rfl) (by kernel_rfl) (by kernel_rfl) (fun _ _ _ h => h) (Or.inl ⟨by rfl, ?_⟩) (by assumption) ?_
            rotate_left
            · (intro w hSw; (try dsimp only at hSw); go_simp; try with_reducible rfl)
            simp only [Act.put, List.getElem_toArray, List.getElem_cons_zero, List.getElem_cons_succ, List.setIfInBounds_toArray, List.set_cons_zero, List.set_cons_succ]
            refine wpAnyH_take (i := 8) (v := ?_) rfl (by kernel_rfl) (by kernel_rfl) (by kernel_rfl) (fun _ _ _ h => h) (Or.inl ⟨by rfl, ?_⟩) (by assumption) ?_
            rotate_left
            · (intro w hSw; (try dsimp only at hSw); go_simp; try with_reducible rfl)
            simp only [Act.put, List.getElem_toArray, List.getElem_cons_zero, List.getElem_cons_succ, List.setIfInBounds_toArray, List.set_cons_zero, List.set_cons_succ]
            refine wpAnyH_take (i := 9) (v := ?_) rfl (by kernel_rfl) (by kernel_rfl) (by kernel_rfl) (fun _ _ _ h => h) (Or.inl ⟨by rfl, ?_⟩) (by assumption) ?_
            rotate_left
            · (intro w hSw; (try dsimp only at hSw); go_simp; try with_reducible rfl)
            simp only [Act.put, List.getElem_toArray, List.getElem_cons_zero, List.getElem_cons_succ, List.setIfInBounds_toArray, List.set_cons_zero, List.set_cons_succ]
            refine wpAnyH_take (i := 10) (v := ?_) rfl (by kernel_rfl) (by kernel_rfl) (by kernel_rfl) (fun _ _ _ h => h) (Or.inl ⟨by rfl, ?_⟩) (by assumption) ?_
            rotate_left
            · (intro w hSw; (try dsimp only at hSw); go_simp; try with_reducible rfl)
            simp only [Act.put, List.getElem_toArray, List.getElem_cons_zero, List.getElem_cons_succ, List.setIfInBounds_toArray, List.set_cons_zero, List.set_cons_succ]
            refine wpAnyH_take (i := 11) (v := ?_) rfl (by kernel_rfl) (by kernel_rfl) (by kernel_rfl) (fun _ _ _ h => h) (Or.inl ⟨by rfl, ?_⟩) (by assumption) ?_
            rotate_left
            · (intro w hSw; (try dsimp only at hSw); go_simp; try with_reducible rfl)
            simp only [Act.put, List.getElem_toArray, List.getElem_cons_zero, List.getElem_cons_succ, List.setIfInBounds_toArray, List.set_cons_zero, List.set_cons_succ]
            refine wpAnyH_take (i := 12) (v := ?_) rfl (by kernel_rfl) (by kernel_rfl) (by kernel_rfl) (fun _ _ _ h => h) (Or.inl ⟨by rfl, ?_⟩) (by assumption) ?_
            rotate_left
            · (intro w hSw; (try dsimp only at hSw); go_simp; try with_reducible rfl)
            simp only [Act.put, List.getElem_toArray, List.getElem_cons_zero, List.getElem_cons_succ, List.setIfInBounds_toArray, List.set_cons_zero, List.set_cons_succ]
            refine wpAnyH_ready (rs := [13]) (by kernel_rfl) (by simp) ?_
            refine AllReadyH.cons rfl (fun K hK => ?_) AllReadyH.nil
            simp only [List.getElem_toArray, List.getElem_cons_zero, List.getElem_cons_succ]
            go_simp
            refine hK.out _ _ ?_ (fun hHeld => ?_)
            · exact hHeld
            clear hK K
            try simp only [Act.put, List.getElem_toArray, List.getElem_cons_zero, List.getElem_cons_succ, List.setIfInBounds_toArray, List.set_cons_zero, List.set_cons_succ]
            refine wpAnyH_done (by kernel_rfl) ?_ _
            clear hHeld HSS
            have HN2 := toHid HT.out.drew
            go_wp2
            go_roundw
            case rel => exact ⟨j + 1, by omega, by go_num, HN2⟩
            case measure => simp [intOf]; omega
          · obtain rfl : j = n7 := by omega
            have HFF := toHid (HF.out.trans HT.out (by simp))
            go_wp2
            go_ret
            exact ⟨rfl, HFF.out⟩
  · have hpos : (0 : Int) ≤ taken := by omega
    go_wp2_with fail
    refine Calls.mono (hst.out _ (by omega) (by omega)) ?_
    rintro e w2 hA
    obtain ⟨va, vb, hAv⟩ : ∃ va vb : Int, e = .returned (.tuple #[.int .i64 va, .int .i64 vb]) := ⟨_, _, hA.1⟩
    subst hAv
    have hP2 : Mem.RefAt w2 ⟨w1.heap.size, none, 0, []⟩ := HP.out.ref.touch hA.2.1 (fun b hb hx => HP.out.apart b hx hb)
    have HR2 : Hid (∀ tk : Int, 0 ≤ tk → tk ≤ 18446744073709551615 → Calls Try.prog 9 #[.pointer (some ⟨w1.heap.size, 0, none⟩), .int .u64 tk, .int .i64 3, .int .i64 3] w2 (Mem.RAddPost' w2 ⟨w1.heap.size, none, 0, []⟩ tk 3 3)) := fun tk h0 h1 => Mem.radd_any hP2 tk 3 3 h0 h1 (by simp)
    have HA := toHid hA
    clear hA hP2
    go_wp2_with fail
    refine Calls.mono (HR2.out _ (by omega) (by omega)) ?_
    rintro e w3 hB
    obtain ⟨vc, vd, hBv⟩ : ∃ vc vd : Int, e = .returned (.tuple #[.int .i64 vc, .int .i64 vd]) := ⟨_, _, hB.1⟩
    subst hBv
    have HPRE : Hid (Pre w0 w3 w0.heap.size w1.heap.size) := add_both HP.out Mem.Rel.empty rfl rfl HA.out hB
    clear hB HA HR2 HP hst
    go_upto_region 8 with fail
    obtain ⟨s, u, hPP, hrel, hsm, hum, hsn, _⟩ := HPRE.out
    have HX := toHid (And.intro hPP (And.intro hrel hsn))
    have H1 := toHid (gnew_any hPP.mem)
    rw [hsm] at H1
    have hsm' := toHid hsm
    have hum' := toHid hum
    clear hPP hrel hsn HPRE
    clear hsm hum
    go_wp2_with fail
    refine Calls.mono H1.out ?_
    rintro e w4 ⟨rfl, hB, ht4⟩
    rw [← hsm'.out] at hB
    have H2 := toHid (rgnew_any (HX.out.1.ref.touch ht4 (by simp)))
    rw [hum'.out] at H2
    have HB := toHid (And.intro hB ht4)
    clear hB ht4 H1
    go_wp2_with fail
    refine Calls.mono H2.out ?_
    rintro e w5 ⟨rfl, ⟨ig, icap, hig, hR⟩, ht5⟩
    rw [← hum'.out] at hR
    have hD := duo_new HX.out.1 HX.out.2.1 HX.out.2.2 HB.out.1 HB.out.2 hig hR ht5
    have HD0 : Hid (∃ x s y u, GDuo w0 w5 x s y u (0 + 1) ∧ x.r = w3.heap.size ∧ s.m = w0.heap.size ∧ y.q = w4.heap.size ∧ u.m = w1.heap.size) := ⟨_, _, _, _, hD, rfl, hsm'.out, rfl, hum'.out⟩
    clear hD hR ht5 hig HX HB H2 hsm' hum' hT
    generalize w3.heap.size = R at *
    generalize w0.heap.size = M at *
    generalize w4.heap.size = Q at *
    generalize w1.heap.size = D at *
    go_wp2_with fail
    go_loopw [52] (fun t w' => ∃ k : Nat, k ≤ m ∧ k ≤ 60 ∧ t = .int .i64 k ∧ Hid (∃ x s y u, GDuo w0 w' x s y u (k + 1) ∧ x.r = R ∧ s.m = M ∧ y.q = Q ∧ u.m = D)) (fun t _ => m - (intOf t).toNat)
    case atStart => exact ⟨0, by omega, by omega, rfl, HD0⟩
    case round =>
      clear HD0
      obtain ⟨k, hk, hk60, rfl, HI⟩ := hrel
      by_cases hlt : k < m
      · obtain ⟨x, s, y, u, hD, hxr, hsm, hyq, hum⟩ := HI.out
        obtain ⟨ob, off, hoa, ok, hcells⟩ := HS.out.at_ k hlt
        subst hoa
        generalize f k = o at *
        have htz := HT0.out.trans hD.touch (by simp)
        have c0 := htz.cell (hcells 0 _ rfl) (by simp)
        have c1 := htz.cell (hcells 1 _ rfl) (by simp)
        have c2 := htz.cell (hcells 2 _ rfl) (by simp)
        rw [Nat.add_zero] at c0
        have hkm : (k : Int) < m := by omega
        by_cases h60 : k = 60
        · have h60' : (60 : Int) ≤ k := by omega
          clear h60
          have HD := toHid (hD.still ((Touch.refl [] wr).alloc (.cells o.cells.toArray 44)))
          have HN := toHid (And.intro hxr hyq)
          unfold OpT.cells at *
          clear hD hcells HI ok htz hxr hsm hyq hum
          go_wp2_with fail
          have H1 := toHid (gout_any HD.out.g.ring (by have := HD.out.outn; omega))
          rw [HN.out.1] at H1
          refine Calls.mono H1.out ?_
          rintro e w7 ⟨g7, cap7, l7, rfl, hR7, hbs7, ht7, _⟩
          have hD7 := HD.out.still ht7
          have hbs : l7.map KR.bs = y.l.map KR.bs := hbs7.trans hD7.outs
          obtain ⟨n7, hn7⟩ : ∃ n, l7.length = n := ⟨_, rfl⟩
          have hyl : y.l.length = n7 := by have := congrArg List.length hbs; simp at this; omega
          have hn100 : n7 ≤ 100 := by
            have h1 := congrArg List.length hbs7
            simp at h1
            have := hD7.outn
            omega
          have e2 : w7.cell? ⟨Q, 2, none⟩ = some (slV y.g n7 y.cap) := by rw [← HN.out.2, ← hyl]; exact hD7.r.ring.self.cell rfl
          have HR7 := toHid (And.intro hR7 (And.intro hD7.r.ring.rows (And.intro hbs (And.intro hn7 hyl))))
          have HF := toHid (HT0.out.trans hD7.touch (by simp))
          have HE2 := toHid e2
          clear hR7 hbs7 ht7 hD7 hbs H1 hyl
          unfold slV at e2 ⊢
          rw [hn7]
          clear hn7
          generalize hga : (Option.map (fun b => (⟨b, 0, none⟩ : Addr)) g7) = ga at *
          have HGA := toHid hga
          clear hga
          generalize (Option.map (fun b => (⟨b, 0, none⟩ : Addr)) y.g) = gy at *
          go_wp2_with fail
          clear e2
          go_loopw [147] (fun t w' => ∃ j : Nat, j ≤ n7 ∧ t = .int .i64 j ∧ Hid (Touch [] w7 w')) (fun t _ => n7 - (intOf t).toNat)
          case atStart => exact ⟨0, by omega, rfl, Touch.refl _ _⟩
          case round =>
            obtain ⟨j, hj, rfl, HT⟩ := hrel
            by_cases hjn : j < n7
            · have hjn' : (j : Int) < n7 := by omega
              have hj0 : (0 : Int) ≤ j := by omega
              obtain ⟨hR7, hRY, hbs, hl7, hly⟩ := HR7.out
              have hk1 : l7[j]? = some (l7[j]'(by omega)) := List.getElem?_eq_getElem _
              have hk2 : y.l[j]? = some (y.l[j]'(by omega)) := List.getElem?_eq_getElem _
              have hkk : (l7[j]'(by omega)).bs = (y.l[j]'(by omega)).bs := by
                have h1 := congrArg (fun l => l[j]?) hbs
                simp only [List.getElem?_map, hk1, hk2, Option.map_some] at h1
                exact Option.some.inj h1
              generalize l7[j]'(by omega) = k1 at *
              generalize y.l[j]'(by omega) = k2 at *
              obtain ⟨b7, hb7, hc7⟩ := hR7.cell hk1
              obtain ⟨b8, hb8, hc8⟩ := hRY.cell hk2
              have hga : ga = some ⟨b7, 0, none⟩ := by rw [← HGA.out, hb7]; rfl
              subst hga
              have hA1 := (hR7.keys k1 (List.mem_of_getElem? hk1)).1
              have hA2 := (hRY.keys k2 (List.mem_of_getElem? hk2)).1
              unfold KR.v at hc7 hc8
              have hlen : k1.bs.length = k2.bs.length := by rw [hkk]
              have HSS : Hid (∀ w', Touch [] w7 w' → w'.cell? ⟨b7, j, none⟩ = some (.slice (some ⟨k1.b, 0, none⟩) k2.bs.length k1.cap) ∧ w'.cell? ⟨Q, 2, none⟩ = some (.slice (some ⟨b8, 0, none⟩) n7 y.cap) ∧ w'.cell? ⟨b8, j, none⟩ = some (.slice (some ⟨k2.b, 0, none⟩) k2.bs.length k2.cap) ∧ (convert 60 9 (.slice (some ⟨k1.b, 0, none⟩) k2.bs.length k1.cap)).run Try.prog w' = .ok (.string (strOfNums k2.bs)) w' ∧ (convert 60 9 (.slice (some ⟨k2.b, 0, none⟩) k2.bs.length k2.cap)).run Try.prog w' = .ok (.string (strOfNums k2.bs)) w') := fun w' ht => by
                have hq2 := ht.cell HE2.out (by simp)
                rw [hb8] at hq2
                rw [← hlen]
                refine ⟨ht.cell hc7 (by simp), hq2, ?_, ?_, ?_⟩
                · rw [hlen]; exact ht.cell hc8 (by simp)
                · rw [← hkk]; exact (hA1.touch ht (by simp)).conv
                · rw [hlen]; exact (hA2.touch ht (by simp)).conv
              clear hR7 hRY hbs hl7 hly hk1 hk2 hkk hb7 hc7 hb8 hc8 hA1 hA2 hlen
              generalize strOfNums k2.bs = A at *
              generalize k2.bs.length = L at *
              go_wp2_with fail
              refine wp_region_held_drew (S := fun w' => w'.cell? ⟨b7, j, none⟩ = some (.slice (some ⟨k1.b, 0, none⟩) L k1.cap) ∧ w'.cell? ⟨Q, 2, none⟩ = some (.slice (some ⟨b8, 0, none⟩) n7 y.cap) ∧ w'.cell? ⟨b8, j, none⟩ = some (.slice (some ⟨k2.b, 0, none⟩) L k2.cap) ∧ (convert 60 9 (.slice (some ⟨k1.b, 0, none⟩) L k1.cap)).run Try.prog w' = .ok (.string A) w' ∧ (convert 60 9 (.slice (some ⟨k2.b, 0, none⟩) L k2.cap)).run Try.prog w' = .ok (.string A) w') (by kernel_rfl) ?_ (fun hHeld => ?_)
              · exact HSS.out _ HT.out.drew
              refine wpAnyH_take (i := 0) (v := ?_) rfl (by kernel_rfl) (by kernel_rfl) (by kernel_rfl) (fun _ _ _ h => h) (Or.inl ⟨by rfl, ?_⟩) (by assumption) ?_
              rotate_left
              · (intro w hSw; (try dsimp only at hSw); go_simp; try with_reducible rfl)
              simp only [Act.put, List.getElem_toArray, List.getElem_cons_zero, List.setIfInBounds_toArray, List.set_cons_zero, List.set_cons_succ]
              refine wpAnyH_take (i := 1) (v := ?_) rfl (by kernel_rfl) (by kernel_rfl) (by kernel_rfl) (fun _ _ _ h => h) (Or.inl ⟨by rfl, ?_⟩) (by assumption) ?_
              rotate_left
              · (intro w hSw; (try dsimp only at hSw); go_simp; try with_reducible rfl)
              simp only [Act.put, List.getElem_toArray, List.getElem_cons_zero, List.getElem_cons_succ, List.setIfInBounds_toArray, List.set_cons_zero, List.set_cons_succ]
              refine wpAnyH_take (i := 2) (v := ?_) rfl (by kernel_rfl) (by kernel_rfl) (by kernel_rfl) (fun _ _ _ h => h) (Or.inl ⟨by rfl, ?_⟩) (by assumption) ?_
              rotate_left
              · (intro w hSw; (try dsimp only at hSw); go_simp; try with_reducible rfl)
              simp only [Act.put, List.getElem_toArray, List.getElem_cons_zero, List.getElem_cons_succ, List.setIfInBounds_toArray, List.set_cons_zero, List.set_cons_succ]
              refine wpAnyH_take (i := 3) (v := ?_) rfl (by kernel_rfl) (by kernel_rfl) (by kernel_rfl) (fun _ _ _ h => h) (Or.inl ⟨by rfl, ?_⟩) (by assumption) ?_
              rotate_left
              · (intro w hSw; (try dsimp only at hSw); go_simp; try with_reducible rfl)
              simp only [Act.put, List.getElem_toArray, List.getElem_cons_zero, List.getElem_cons_succ, List.setIfInBounds_toArray, List.set_cons_zero, List.set_cons_succ]
              refine wpAnyH_take (i := 4) (v := ?_) rfl (by kernel_rfl) (by kernel_rfl) (by kernel_rfl) (fun _ _ _ h => h) (Or.inl ⟨by rfl, ?_⟩) (by assumption) ?_
              rotate_left
              · (intro w hSw; (try dsimp only at hSw); go_simp; try with_reducible rfl)
              simp only [Act.put, List.getElem_toArray, List.getElem_cons_zero, List.getElem_cons_succ, List.setIfInBounds_toArray, List.set_cons_zero, List.set_cons_succ]
              refine wpAnyH_take (i := 5) (v := ?_) rfl (by kernel_rfl) (by kernel_rfl) (by kernel_rfl) (fun _ _ _ h => h) (Or.inl ⟨by rfl, ?_⟩) (by assumption) ?_
              rotate_left
              · (intro w hSw; (try dsimp only at hSw); go_simp; try with_reducible rfl)
              simp only [Act.put, List.getElem_toArray, List.getElem_cons_zero, List.getElem_cons_succ, List.setIfInBounds_toArray, List.set_cons_zero, List.set_cons_succ]
              refine wpAnyH_take (i := 6) (v := ?_) rfl (by kernel_rfl) (by kernel_rfl) (by kernel_rfl) (fun _ _ _ h => h) (Or.inl ⟨by rfl, ?_⟩) (by assumption) ?_
              rotate_left
              · (intro w hSw; (try dsimp only at hSw); go_simp; try with_reducible rfl)
              simp only [Act.put, List.getElem_toArray, List.getElem_cons_zero, List.getElem_cons_succ, List.setIfInBounds_toArray, List.set_cons_zero, List.set_cons_succ]
              refine wpAnyH_take (i := 7) (v := ?_) rfl (by kernel_rfl) (by kernel_rfl) (by kernel_rfl) (fun _ _ _ h => h) (Or.inl ⟨by rfl, ?_⟩) (by assumption) ?_
              rotate_left
              · (intro w hSw; (try dsimp only at hSw); go_simp; try with_reducible rfl)
              simp only [Act.put, List.getElem_toArray, List.getElem_cons_zero, List.getElem_cons_succ, List.setIfInBounds_toArray, List.set_cons_zero, List.set_cons_succ]
              refine wpAnyH_take (i := 8) (v := ?_) rfl (by kernel_rfl) (by kernel_rfl) (by kernel_rfl) (fun _ _ _ h => h) (Or.inl ⟨by rfl, ?_⟩) (by assumption) ?_
              rotate_left
              · (intro w hSw; (try dsimp only at hSw); go_simp; try with_reducible rfl)
              simp only [Act.put, List.getElem_toArray, List.getElem_cons_zero, List.getElem_cons_succ, List.setIfInBounds_toArray, List.set_cons_zero, List.set_cons_succ]
              refine wpAnyH_take (i := 9) (v := ?_) rfl (by kernel_rfl) (by kernel_rfl) (by kernel_rfl) (fun _ _ _ h => h) (Or.inl ⟨by rfl, ?_⟩) (by assumption) ?_
              rotate_left
              · (intro w hSw; (try dsimp only at hSw); go_simp; try with_reducible rfl)
              simp only [Act.put, List.getElem_toArray, List.getElem_cons_zero, List.getElem_cons_succ, List.setIfInBounds_toArray, List.set_cons_zero, List.set_cons_succ]
              refine wpAnyH_take (i := 10) (v := ?_) rfl (by kernel_rfl) (by kernel_rfl) (by kernel_rfl) (fun _ _ _ h => h) (Or.inl ⟨by rfl, ?_⟩) (by assumption) ?_
              rotate_left
              · (intro w hSw; (try dsimp only at hSw); go_simp; try with_reducible rfl)
              simp only [Act.put, List.getElem_toArray, List.getElem_cons_zero, List.getElem_cons_succ, List.setIfInBounds_toArray, List.set_cons_zero, List.set_cons_succ]
              refine wpAnyH_take (i := 11) (v := ?_) rfl (by kernel_rfl) (by kernel_rfl) (by kernel_rfl) (fun _ _ _ h => h) (Or.inl ⟨by rfl, ?_⟩) (by assumption) ?_
              rotate_left
              · (intro w hSw; (try dsimp only at hSw); go_simp; try with_reducible rfl)
              simp only [Act.put, List.getElem_toArray, List.getElem_cons_zero, List.getElem_cons_succ, List.setIfInBounds_toArray, List.set_cons_zero, List.set_cons_succ]
              refine wpAnyH_take (i := 12) (v := ?_) rfl (by kernel_rfl) (by kernel_rfl) (by kernel_rfl) (fun _ _ _ h => h) (Or.inl ⟨by rfl, ?_⟩) (by assumption) ?_
              rotate_left
              · (intro w hSw; (try dsimp only at hSw); go_simp; try with_reducible rfl)
              simp only [Act.put, List.getElem_toArray, List.getElem_cons_zero, List.getElem_cons_succ, List.setIfInBounds_toArray, List.set_cons_zero, List.set_cons_succ]
              refine wpAnyH_ready (rs := [13]) (by kernel_rfl) (by simp) ?_
              refine AllReadyH.cons rfl (fun K hK => ?_) AllReadyH.nil
              simp only [List.getElem_toArray, List.getElem_cons_zero, List.getElem_cons_succ]
              go_simp
              refine hK.out _ _ ?_ (fun hHeld => ?_)
              · exact hHeld
              clear hK K
              try simp only [Act.put, List.getElem_toArray, List.getElem_cons_zero, List.getElem_cons_succ, List.setIfInBounds_toArray, List.set_cons_zero, List.set_cons_succ]
              refine wpAnyH_done (by kernel_rfl) ?_ _
              clear hHeld HSS
              have HN2 := toHid HT.out.drew
              go_wp2
              go_roundw
              case rel => exact ⟨j + 1, by omega, by go_num, HN2⟩
              case measure => simp [intOf]; omega
            · obtain rfl : j = n7 := by omega
              have HFF := toHid (HF.out.trans HT.out (by simp))
              go_wp2
              go_ret
              exact ⟨rfl, HFF.out⟩
        · have h60' : ¬ (60 : Int) ≤ k := by omega
          have HD := toHid (hD.still ((Touch.refl [] wr).alloc (.cells o.cells.toArray 44)))
          have hNB := Blk.newA wr o.cells.toArray _ 44 rfl
          have HBB := toHid hNB
          have HOK : Hid (wr.heap.size ∉ x.blocks ++ s.blocks ∧ wr.heap.size ∉ y.blocks ++ u.blocks) := ⟨fun hx => by
            rcases List.mem_append.1 hx with hx | hx
            · have := hD.g.ring.lt _ hx; omega
            · have := hD.g.mem.lt _ hx; omega, fun hx => by
            rcases List.mem_append.1 hx with hx | hx
            · have := hD.r.ring.lt _ hx; omega
            · have := hD.r.mem.lt _ hx; omega⟩
          have HO := toHid ok
          have HNM := toHid (And.intro hxr (And.intro hsm (And.intro hyq hum)))
          have hkc : k + 1 ≤ 100 := by omega
          unfold OpT.cells at *
          clear hcells HI htz h60
          obtain ⟨q4, hq4, hkq⟩ := kind4 o.k
          obtain rfl | rfl | rfl | rfl : q4 = 0 ∨ q4 = 1 ∨ q4 = 2 ∨ q4 = 3 := by omega
          · have hk4 : (IntKind.u64.wrap o.k).tmod 4 = 0 := hkq
            clear hkq hq4
            have H1 := toHid (greserve_any HD.out.g (by have := HD.out.next; omega) o.n ok.f0 ok.f1)
            rw [hxr] at H1
            have H2 : Hid (∀ e w1, ResPost (wr.alloc (.cells #[.int .i64 o.k, .int .i64 o.at_, .int .u64 o.n] 44)) x s o.n e w1 → Calls Try.prog 13 #[.pointer (some ⟨Q, 0, none⟩), .int .u64 o.n] w1 fun e' w2 => e' = .returned (.tuple #[.int .u64 (resP x.recs o.n fun b => Mem.addE s.rs b o.n 3).1, .int .i64 (resP x.recs o.n fun b => Mem.addE s.rs b o.n 3).2]) ∧ Goes w0 x s y u (k + 1) w1 w2) := fun e w1 hp => by
              have h9 := HD.out.reserve2 hkc ok.f0 ok.f1 hp
              rw [hyq] at h9
              exact h9
            clear hD ok hxr hsm hyq hum
            go_wp2_with fail
            refine Calls.mono H1.out ?_
            rintro e w5 hp
            have hv := hp.1
            have hst : ∃ x1 s1, GStep (wr.alloc (.cells #[.int .i64 o.k, .int .i64 o.at_, .int .u64 o.n] 44)) w5 x x1 s s1 := by
              rcases hp.2 with ⟨_, h1⟩ | ⟨_, _, _, _, _, _, _, _, _, _, _, _, _, h1⟩
              · exact ⟨_, _, h1⟩
              · exact ⟨_, _, h1⟩
            obtain ⟨x1, s1, hst⟩ := hst
            have d2 := (hst.touch.blk HBB.out HOK.out.1).cell (i := 2) rfl
            have H3 := toHid (H2.out _ _ hp)
            generalize (resP x.recs o.n fun b => Mem.addE s.rs b o.n 3) = P at *
            subst hv
            clear hst hp H1 H2 c0 c1 c2 hNB
            go_wp2_with fail
            refine Calls.mono H3.out ?_
            rintro e w6 ⟨rfl, hG⟩
            clear d2 H3
            obtain ⟨x2, s2, y2, u2, hD2, n1, n2, n3, n4, _⟩ := hG
            have N1 : x2.r = R := n1.trans HNM.out.1
            have N2 : s2.m = M := n2.trans HNM.out.2.1
            have N3 : y2.q = Q := n3.trans HNM.out.2.2.1
            have N4 : u2.m = D := n4.trans HNM.out.2.2.2
            have H5 := toHid (gopen_any hD2.g.ring)
            rw [N1] at H5
            have HD2 := toHid hD2
            have HNN := toHid (And.intro N1 (And.intro N2 (And.intro N3 N4)))
            clear hD2 n1 n2 n3 n4 N1 N2 N3 N4
            go_wp2_with fail
            refine Calls.mono H5.out ?_
            rintro e w7 ⟨rfl, ht7⟩
            have hD7 := HD2.out.still ht7
            have H6 := toHid (rgopen_any hD7.r.ring)
            rw [HNN.out.2.2.1, ← hD7.recs] at H6
            have H7 := toHid (Mem.count_any hD7.g.mem)
            rw [HNN.out.2.1] at H7
            have H8 := toHid (Mem.rcount_any hD7.r.mem)
            rw [HNN.out.2.2.2, hD7.rel.count hD7.g.mem.ids] at H8
            have HD7 := toHid hD7
            clear hD7 ht7 H5
            go_wp2_with fail
            refine Calls.mono H6.out ?_
            rintro e w8 ⟨rfl, rfl⟩
            go_wp2_with fail
            refine H7.out.mono ?_
            rintro e w9 ⟨rfl, rfl⟩
            go_wp2_with fail
            refine H8.out.mono ?_
            rintro e w10 ⟨rfl, ht10⟩
            have HN10 : Hid (∃ x s y u, GDuo w0 w10 x s y u (k + 1 + 1) ∧ x.r = R ∧ s.m = M ∧ y.q = Q ∧ u.m = D) := ⟨x2, s2, y2, u2, HD7.out.still ht10, HNN.out⟩
            clear ht10 H6 H7 H8 HD7 HNN HD2
            go_wp2
            go_roundw
            case rel => exact ⟨k + 1, by omega, by omega, by go_num, HN10⟩
            case measure => simp [intOf]; omega
          · have hk4 : (IntKind.u64.wrap o.k).tmod 4 = 1 := hkq
            clear hkq hq4
            have HSS : Hid (∀ S w', Touch S (wr.alloc (.cells #[.int .i64 o.k, .int .i64 o.at_, .int .u64 o.n] 44)) w' → wr.heap.size ∉ S → w'.cell? ⟨wr.heap.size, 0, none⟩ = some (.int .i64 o.k) ∧ w'.cell? ⟨wr.heap.size, 1, none⟩ = some (.int .i64 o.at_) ∧ w'.cell? ⟨wr.heap.size, 2, none⟩ = some (.int .u64 o.n)) := fun S w' ht hn => by
              have h9 := ht.blk HBB.out hn
              exact ⟨h9.cell rfl, h9.cell rfl, h9.cell rfl⟩
            have HAD := toHid (fun w => address_any o ok w)
            unfold opT at HAD
            have hab := addrI_bd ok
            generalize hA : addrI o = A at *
            have H1 : Hid (∀ w1, Touch [] (wr.alloc (.cells #[.int .i64 o.k, .int .i64 o.at_, .int .u64 o.n] 44)) w1 → Calls Try.prog 14 #[.pointer (some ⟨R, 0, none⟩), .int .u64 A] w1 (SubPost w1 x s A)) := fun w1 ht => by
              have hD1 := HD.out.still ht
              have h9 := gsubmit_any (hD1.g) (by have := hD1.outn; omega) A
              rw [hxr] at h9
              exact h9
            have H2 : Hid (∀ w1 e w2, Touch [] (wr.alloc (.cells #[.int .i64 o.k, .int .i64 o.at_, .int .u64 o.n] 44)) w1 → SubPost w1 x s A e w2 → ∀ w3, Touch [] w2 w3 → Calls Try.prog 16 #[.pointer (some ⟨Q, 0, none⟩), .int .u64 A, .bool true] w3 fun e' w4 => e' = .returned (.int .i64 (if numI x.recs A = -1 then 14 else 0)) ∧ Goes w0 x s y u (k + 1) w3 w4) := fun w1 e w2 ht hp w3 ht3 => by
              have hp3 : SubPost w1 x s A e w3 := by
                refine ⟨hp.1, ?_⟩
                rcases hp.2 with ⟨h0, h1⟩ | ⟨n9, i9, r9, s9, g9, cap9, k9, p1, p2, p3, p4, p5, p6, p7, p8, h1⟩
                · exact Or.inl ⟨h0, h1.trans (GStep.same h1.both ht3)⟩
                · exact Or.inr ⟨n9, i9, r9, s9, g9, cap9, k9, p1, p2, p3, p4, p5, p6, p7, p8, h1.trans (GStep.same h1.both ht3)⟩
              have h9 := (HD.out.still ht).submit2 hkc hab.1 hp3
              rw [hyq] at h9
              exact h9
            have HTT : Hid (∀ w1 e w2, Touch [] (wr.alloc (.cells #[.int .i64 o.k, .int .i64 o.at_, .int .u64 o.n] 44)) w1 → SubPost w1 x s A e w2 → Touch (x.blocks ++ s.blocks) (wr.alloc (.cells #[.int .i64 o.k, .int .i64 o.at_, .int .u64 o.n] 44)) w2) := fun w1 e w2 ht hp => by
              have hst : ∃ x1 s1, GStep w1 w2 x x1 s s1 := by
                rcases hp.2 with ⟨_, h1⟩ | ⟨_, _, _, _, _, _, _, _, _, _, _, _, _, _, _, h1⟩
                · exact ⟨_, _, h1⟩
                · exact ⟨_, _, h1⟩
              obtain ⟨x1, s1, hst⟩ := hst
              exact ht.nil.trans hst.touch (fun b hb => Or.inl hb)
            have HPV : Hid (∀ w1 e w2, SubPost w1 x s A e w2 → e = .returned (.int .i64 (if numI x.recs A = -1 then 14 else 0))) := fun w1 e w2 hp => hp.1
            clear hD ok hxr hsm hyq hum
            generalize (if numI x.recs A = -1 then (14 : Int) else 0) = V at *
            go_wp2_with fail
            refine wp_region_held_drew (S := fun w' => w'.cell? ⟨wr.heap.size, 0, none⟩ = some (.int .i64 o.k) ∧ w'.cell? ⟨wr.heap.size, 1, none⟩ = some (.int .i64 o.at_) ∧ w'.cell? ⟨wr.heap.size, 2, none⟩ = some (.int .u64 o.n)) (by kernel_rfl) ?_ (fun hHeld => ?_)
            · exact HSS.out [] _ (Touch.refl _ _).drew (by simp)
            refine wpAnyH_take (i := 0) (v := ?_) rfl (by kernel_rfl) (by kernel_rfl) (by kernel_rfl) (fun _ _ _ h => h) (Or.inl ⟨by rfl, ?_⟩) (by assumption) ?_
            rotate_left
            · (intro w hSw; (try dsimp only at hSw); go_simp; try with_reducible rfl)
            simp only [Act.put, List.getElem_toArray, List.getElem_cons_zero, List.setIfInBounds_toArray, List.set_cons_zero, List.set_cons_succ]
            refine wpAnyH_take (i := 1) (v := ?_) rfl (by kernel_rfl) (by kernel_rfl) (by kernel_rfl) (fun _ _ _ h => h) (Or.inl ⟨by rfl, ?_⟩) (by assumption) ?_
            rotate_left
            · (intro w hSw; (try dsimp only at hSw); go_simp; try with_reducible rfl)
            simp only [Act.put, List.getElem_toArray, List.getElem_cons_zero, List.getElem_cons_succ, List.setIfInBounds_toArray, List.set_cons_zero, List.set_cons_succ]
            refine wpAnyH_take (i := 4) (v := ?_) rfl (by kernel_rfl) (by kernel_rfl) (by kernel_rfl) (fun _ _ _ h => h) (Or.inl ⟨by rfl, ?_⟩) (by assumption) ?_
            rotate_left
            · (intro w hSw; (try dsimp only at hSw); go_simp; try with_reducible rfl)
            simp only [Act.put, List.getElem_toArray, List.getElem_cons_zero, List.getElem_cons_succ, List.setIfInBounds_toArray, List.set_cons_zero, List.set_cons_succ]
            refine wpAnyH_take (i := 5) (v := ?_) rfl (by kernel_rfl) (by kernel_rfl) (by kernel_rfl) (fun _ _ _ h => h) (Or.inl ⟨by rfl, ?_⟩) (by assumption) ?_
            rotate_left
            · (intro w hSw; (try dsimp only at hSw); go_simp; try with_reducible rfl)
            simp only [Act.put, List.getElem_toArray, List.getElem_cons_zero, List.getElem_cons_succ, List.setIfInBounds_toArray, List.set_cons_zero, List.set_cons_succ]
            refine wpAnyH_ready (rs := [2]) (by kernel_rfl) (by simp) ?_
            refine AllReadyH.cons rfl (fun K hK => ?_) AllReadyH.nil
            simp only [List.getElem_toArray, List.getElem_cons_zero, List.getElem_cons_succ]
            go_simp
            refine Calls.mono (HAD.out _) ?_; rintro e w5 ⟨rfl, ht5⟩; have HT5 := toHid ((Touch.refl [] (wr.alloc (.cells #[.int .i64 o.k, .int .i64 o.at_, .int .u64 o.n] 44))).drew.trans ht5 (by simp)); clear ht5
            go_wp2_with fail
            refine hK.out _ _ ?_ (fun hHeld => ?_)
            · exact HSS.out _ _ HT5.out (by simp)
            clear hK K
            try simp only [Act.put, List.getElem_toArray, List.getElem_cons_zero, List.getElem_cons_succ, List.setIfInBounds_toArray, List.set_cons_zero, List.set_cons_succ]
            refine wpAnyH_ready (rs := [3]) (by kernel_rfl) (by simp) ?_
            refine AllReadyH.cons rfl (fun K hK => ?_) AllReadyH.nil
            simp only [List.getElem_toArray, List.getElem_cons_zero, List.getElem_cons_succ]
            go_simp
            refine Calls.mono (H1.out _ HT5.out) ?_; rintro e w6 hp; have hv := HPV.out _ _ _ hp; have HT6 := toHid (HTT.out _ _ _ HT5.out hp); have HP6 := toHid hp; clear hp; subst hv
            go_wp2_with fail
            refine hK.out _ _ ?_ (fun hHeld => ?_)
            · exact HSS.out _ _ HT6.out HOK.out.1
            clear hK K
            try simp only [Act.put, List.getElem_toArray, List.getElem_cons_zero, List.getElem_cons_succ, List.setIfInBounds_toArray, List.set_cons_zero, List.set_cons_succ]
            refine wpAnyH_ready (rs := [6]) (by kernel_rfl) (by simp) ?_
            refine AllReadyH.cons rfl (fun K hK => ?_) AllReadyH.nil
            simp only [List.getElem_toArray, List.getElem_cons_zero, List.getElem_cons_succ]
            go_simp
            refine Calls.mono (HAD.out _) ?_; rintro e w7 ⟨rfl, ht7⟩; have HT7 := toHid ht7; have HT67 := toHid (HT6.out.trans ht7 (by simp)); clear ht7
            go_wp2_with fail
            refine hK.out _ _ ?_ (fun hHeld => ?_)
            · exact HSS.out _ _ HT67.out HOK.out.1
            clear hK K
            try simp only [Act.put, List.getElem_toArray, List.getElem_cons_zero, List.getElem_cons_succ, List.setIfInBounds_toArray, List.set_cons_zero, List.set_cons_succ]
            refine wpAnyH_ready (rs := [7]) (by kernel_rfl) (by simp) ?_
            refine AllReadyH.cons rfl (fun K hK => ?_) AllReadyH.nil
            simp only [List.getElem_toArray, List.getElem_cons_zero, List.getElem_cons_succ]
            go_simp
            refine Calls.mono (H2.out _ _ _ HT5.out HP6.out _ HT7.out) ?_; rintro e w8 ⟨rfl, hG⟩; have HG := toHid hG; have HTG : Hid (Touch (y.blocks ++ u.blocks) w7 w8) := by obtain ⟨_, _, _, _, _, _, _, _, _, h9⟩ := hG; exact h9
            go_wp2_with fail
            refine hK.out _ _ ?_ (fun hHeld => ?_)
            · clear hG; exact HSS.out _ _ ((HT67.out.mono (S' := (x.blocks ++ s.blocks) ++ (y.blocks ++ u.blocks)) (fun b hb => Or.inl (List.mem_append_left _ hb))).trans HTG.out (fun b hb => Or.inl (List.mem_append_right _ hb))) (fun hx => by rcases List.mem_append.1 hx with hx | hx; exact HOK.out.1 hx; exact HOK.out.2 hx)
            clear hK K
            try simp only [Act.put, List.getElem_toArray, List.getElem_cons_zero, List.getElem_cons_succ, List.setIfInBounds_toArray, List.set_cons_zero, List.set_cons_succ]
            refine wpAnyH_ready (rs := [8]) (by kernel_rfl) (by simp) ?_
            refine AllReadyH.cons rfl (fun K hK => ?_) AllReadyH.nil
            simp only [List.getElem_toArray, List.getElem_cons_zero, List.getElem_cons_succ]
            go_simp
            refine hK.out _ _ ?_ (fun hHeld => ?_)
            · exact hHeld
            clear hK K
            try simp only [Act.put, List.getElem_toArray, List.getElem_cons_zero, List.getElem_cons_succ, List.setIfInBounds_toArray, List.set_cons_zero, List.set_cons_succ]
            refine wpAnyH_done (by kernel_rfl) ?_ _
            clear hHeld
            have hG := HG.out
            clear H1 H2 HTT HPV HSS HAD c0 c1 c2 hNB HG HTG HT67 HT7 HT6 HT5 HP6
            obtain ⟨x2, s2, y2, u2, hD2, n1, n2, n3, n4, _⟩ := hG
            have N1 : x2.r = R := n1.trans HNM.out.1
            have N2 : s2.m = M := n2.trans HNM.out.2.1
            have N3 : y2.q = Q := n3.trans HNM.out.2.2.1
            have N4 : u2.m = D := n4.trans HNM.out.2.2.2
            have H5 := toHid (gopen_any hD2.g.ring)
            rw [N1] at H5
            have HD2 := toHid hD2
            have HNN := toHid (And.intro N1 (And.intro N2 (And.intro N3 N4)))
            clear hD2 n1 n2 n3 n4 N1 N2 N3 N4
            go_wp2_with fail
            refine Calls.mono H5.out ?_
            rintro e w7 ⟨rfl, ht7⟩
            have hD7 := HD2.out.still ht7
            have H6 := toHid (rgopen_any hD7.r.ring)
            rw [HNN.out.2.2.1, ← hD7.recs] at H6
            have H7 := toHid (Mem.count_any hD7.g.mem)
            rw [HNN.out.2.1] at H7
            have H8 := toHid (Mem.rcount_any hD7.r.mem)
            rw [HNN.out.2.2.2, hD7.rel.count hD7.g.mem.ids] at H8
            have HD7 := toHid hD7
            clear hD7 ht7 H5
            go_wp2_with fail
            refine Calls.mono H6.out ?_
            rintro e w8 ⟨rfl, rfl⟩
            go_wp2_with fail
            refine H7.out.mono ?_
            rintro e w9 ⟨rfl, rfl⟩
            go_wp2_with fail
            refine H8.out.mono ?_
            rintro e w10 ⟨rfl, ht10⟩
            have HN10 : Hid (∃ x s y u, GDuo w0 w10 x s y u (k + 1 + 1) ∧ x.r = R ∧ s.m = M ∧ y.q = Q ∧ u.m = D) := ⟨x2, s2, y2, u2, HD7.out.still ht10, HNN.out⟩
            clear ht10 H6 H7 H8 HD7 HNN HD2
            go_wp2
            go_roundw
            case rel => exact ⟨k + 1, by omega, by omega, by go_num, HN10⟩
            case measure => simp [intOf]; omega
          · have hk4 : (IntKind.u64.wrap o.k).tmod 4 = 2 := hkq
            clear hkq hq4
            have HSS : Hid (∀ S w', Touch S (wr.alloc (.cells #[.int .i64 o.k, .int .i64 o.at_, .int .u64 o.n] 44)) w' → wr.heap.size ∉ S → w'.cell? ⟨wr.heap.size, 0, none⟩ = some (.int .i64 o.k) ∧ w'.cell? ⟨wr.heap.size, 1, none⟩ = some (.int .i64 o.at_) ∧ w'.cell? ⟨wr.heap.size, 2, none⟩ = some (.int .u64 o.n)) := fun S w' ht hn => by
              have h9 := ht.blk HBB.out hn
              exact ⟨h9.cell rfl, h9.cell rfl, h9.cell rfl⟩
            have HAD := toHid (fun w => address_any o ok w)
            unfold opT at HAD
            have hab := addrI_bd ok
            generalize hA : addrI o = A at *
            have H1 : Hid (∀ w1, Touch [] (wr.alloc (.cells #[.int .i64 o.k, .int .i64 o.at_, .int .u64 o.n] 44)) w1 → Calls Try.prog 17 #[.pointer (some ⟨R, 0, none⟩), .int .u64 A] w1 (DisPost w1 x s A)) := fun w1 ht => by
              have hD1 := HD.out.still ht
              have h9 := gdiscard_any (hD1.g) A
              rw [hxr] at h9
              exact h9
            have H2 : Hid (∀ w1 e w2, Touch [] (wr.alloc (.cells #[.int .i64 o.k, .int .i64 o.at_, .int .u64 o.n] 44)) w1 → DisPost w1 x s A e w2 → ∀ w3, Touch [] w2 w3 → Calls Try.prog 16 #[.pointer (some ⟨Q, 0, none⟩), .int .u64 A, .bool false] w3 fun e' w4 => e' = .returned (.int .i64 (if numI x.recs A = -1 then 14 else 0)) ∧ Goes w0 x s y u (k + 1) w3 w4) := fun w1 e w2 ht hp w3 ht3 => by
              have hp3 : DisPost w1 x s A e w3 := by
                refine ⟨hp.1, ?_⟩
                rcases hp.2 with ⟨h0, h1⟩ | ⟨n9, i9, s9, p1, p2, p3, p4, p5, h1⟩
                · exact Or.inl ⟨h0, h1.trans (GStep.same h1.both ht3)⟩
                · exact Or.inr ⟨n9, i9, s9, p1, p2, p3, p4, p5, h1.trans (GStep.same h1.both ht3)⟩
              have h9 := (HD.out.still ht).discard2 hkc hab.1 hp3
              rw [hyq] at h9
              exact h9
            have HTT : Hid (∀ w1 e w2, Touch [] (wr.alloc (.cells #[.int .i64 o.k, .int .i64 o.at_, .int .u64 o.n] 44)) w1 → DisPost w1 x s A e w2 → Touch (x.blocks ++ s.blocks) (wr.alloc (.cells #[.int .i64 o.k, .int .i64 o.at_, .int .u64 o.n] 44)) w2) := fun w1 e w2 ht hp => by
              have hst : ∃ x1 s1, GStep w1 w2 x x1 s s1 := by
                rcases hp.2 with ⟨_, h1⟩ | ⟨_, _, _, _, _, _, _, _, h1⟩
                · exact ⟨_, _, h1⟩
                · exact ⟨_, _, h1⟩
              obtain ⟨x1, s1, hst⟩ := hst
              exact ht.nil.trans hst.touch (fun b hb => Or.inl hb)
            have HPV : Hid (∀ w1 e w2, DisPost w1 x s A e w2 → e = .returned (.int .i64 (if numI x.recs A = -1 then 14 else 0))) := fun w1 e w2 hp => hp.1
            clear hD ok hxr hsm hyq hum
            generalize (if numI x.recs A = -1 then (14 : Int) else 0) = V at *
            go_wp2_with fail
            refine wp_region_held_drew (S := fun w' => w'.cell? ⟨wr.heap.size, 0, none⟩ = some (.int .i64 o.k) ∧ w'.cell? ⟨wr.heap.size, 1, none⟩ = some (.int .i64 o.at_) ∧ w'.cell? ⟨wr.heap.size, 2, none⟩ = some (.int .u64 o.n)) (by kernel_rfl) ?_ (fun hHeld => ?_)
            · exact HSS.out [] _ (Touch.refl _ _).drew (by simp)
            refine wpAnyH_take (i := 0) (v := ?_) rfl (by kernel_rfl) (by kernel_rfl) (by kernel_rfl) (fun _ _ _ h => h) (Or.inl ⟨by rfl, ?_⟩) (by assumption) ?_
            rotate_left
            · (intro w hSw; (try dsimp only at hSw); go_simp; try with_reducible rfl)
            simp only [Act.put, List.getElem_toArray, List.getElem_cons_zero, List.setIfInBounds_toArray, List.set_cons_zero, List.set_cons_succ]
            refine wpAnyH_take (i := 1) (v := ?_) rfl (by kernel_rfl) (by kernel_rfl) (by kernel_rfl) (fun _ _ _ h => h) (Or.inl ⟨by rfl, ?_⟩) (by assumption) ?_
            rotate_left
            · (intro w hSw; (try dsimp only at hSw); go_simp; try with_reducible rfl)
            simp only [Act.put, List.getElem_toArray, List.getElem_cons_zero, List.getElem_cons_succ, List.setIfInBounds_toArray, List.set_cons_zero, List.set_cons_succ]
            refine wpAnyH_take (i := 4) (v := ?_) rfl (by kernel_rfl) (by kernel_rfl) (by kernel_rfl) (fun _ _ _ h => h) (Or.inl ⟨by rfl, ?_⟩) (by assumption) ?_
            rotate_left
            · (intro w hSw; (try dsimp only at hSw); go_simp; try with_reducible rfl)
            simp only [Act.put, List.getElem_toArray, List.getElem_cons_zero, List.getElem_cons_succ, List.setIfInBounds_toArray, List.set_cons_zero, List.set_cons_succ]
            refine wpAnyH_take (i := 5) (v := ?_) rfl (by kernel_rfl) (by kernel_rfl) (by kernel_rfl) (fun _ _ _ h => h) (Or.inl ⟨by rfl, ?_⟩) (by assumption) ?_
            rotate_left
            · (intro w hSw; (try dsimp only at hSw); go_simp; try with_reducible rfl)
            simp only [Act.put, List.getElem_toArray, List.getElem_cons_zero, List.getElem_cons_succ, List.setIfInBounds_toArray, List.set_cons_zero, List.set_cons_succ]
            refine wpAnyH_ready (rs := [2]) (by kernel_rfl) (by simp) ?_
            refine AllReadyH.cons rfl (fun K hK => ?_) AllReadyH.nil
            simp only [List.getElem_toArray, List.getElem_cons_zero, List.getElem_cons_succ]
            go_simp
            refine Calls.mono (HAD.out _) ?_; rintro e w5 ⟨rfl, ht5⟩; have HT5 := toHid ((Touch.refl [] (wr.alloc (.cells #[.int .i64 o.k, .int .i64 o.at_, .int .u64 o.n] 44))).drew.trans ht5 (by simp)); clear ht5
            go_wp2_with fail
            refine hK.out _ _ ?_ (fun hHeld => ?_)
            · exact HSS.out _ _ HT5.out (by simp)
            clear hK K
            try simp only [Act.put, List.getElem_toArray, List.getElem_cons_zero, List.getElem_cons_succ, List.setIfInBounds_toArray, List.set_cons_zero, List.set_cons_succ]
            refine wpAnyH_ready (rs := [3]) (by kernel_rfl) (by simp) ?_
            refine AllReadyH.cons rfl (fun K hK => ?_) AllReadyH.nil
            simp only [List.getElem_toArray, List.getElem_cons_zero, List.getElem_cons_succ]
            go_simp
            refine Calls.mono (H1.out _ HT5.out) ?_; rintro e w6 hp; have hv := HPV.out _ _ _ hp; have HT6 := toHid (HTT.out _ _ _ HT5.out hp); have HP6 := toHid hp; clear hp; subst hv
            go_wp2_with fail
            refine hK.out _ _ ?_ (fun hHeld => ?_)
            · exact HSS.out _ _ HT6.out HOK.out.1
            clear hK K
            try simp only [Act.put, List.getElem_toArray, List.getElem_cons_zero, List.getElem_cons_succ, List.setIfInBounds_toArray, List.set_cons_zero, List.set_cons_succ]
            refine wpAnyH_ready (rs := [6]) (by kernel_rfl) (by simp) ?_
            refine AllReadyH.cons rfl (fun K hK => ?_) AllReadyH.nil
            simp only [List.getElem_toArray, List.getElem_cons_zero, List.getElem_cons_succ]
            go_simp
            refine Calls.mono (HAD.out _) ?_; rintro e w7 ⟨rfl, ht7⟩; have HT7 := toHid ht7; have HT67 := toHid (HT6.out.trans ht7 (by simp)); clear ht7
            go_wp2_with fail
            refine hK.out _ _ ?_ (fun hHeld => ?_)
            · exact HSS.out _ _ HT67.out HOK.out.1
            clear hK K
            try simp only [Act.put, List.getElem_toArray, List.getElem_cons_zero, List.getElem_cons_succ, List.setIfInBounds_toArray, List.set_cons_zero, List.set_cons_succ]
            refine wpAnyH_ready (rs := [7]) (by kernel_rfl) (by simp) ?_
            refine AllReadyH.cons rfl (fun K hK => ?_) AllReadyH.nil
            simp only [List.getElem_toArray, List.getElem_cons_zero, List.getElem_cons_succ]
            go_simp
            refine Calls.mono (H2.out _ _ _ HT5.out HP6.out _ HT7.out) ?_; rintro e w8 ⟨rfl, hG⟩; have HG := toHid hG; have HTG : Hid (Touch (y.blocks ++ u.blocks) w7 w8) := by obtain ⟨_, _, _, _, _, _, _, _, _, h9⟩ := hG; exact h9
            go_wp2_with fail
            refine hK.out _ _ ?_ (fun hHeld => ?_)
            · clear hG; exact HSS.out _ _ ((HT67.out.mono (S' := (x.blocks ++ s.blocks) ++ (y.blocks ++ u.blocks)) (fun b hb => Or.inl (List.mem_append_left _ hb))).trans HTG.out (fun b hb => Or.inl (List.mem_append_right _ hb))) (fun hx => by rcases List.mem_append.1 hx with hx | hx; exact HOK.out.1 hx; exact HOK.out.2 hx)
            clear hK K
            try simp only [Act.put, List.getElem_toArray, List.getElem_cons_zero, List.getElem_cons_succ, List.setIfInBounds_toArray, List.set_cons_zero, List.set_cons_succ]
            refine wpAnyH_ready (rs := [8]) (by kernel_rfl) (by simp) ?_
            refine AllReadyH.cons rfl (fun K hK => ?_) AllReadyH.nil
            simp only [List.getElem_toArray, List.getElem_cons_zero, List.getElem_cons_succ]
            go_simp
            refine hK.out _ _ ?_ (fun hHeld => ?_)
            · exact hHeld
            clear hK K
            try simp only [Act.put, List.getElem_toArray, List.getElem_cons_zero, List.getElem_cons_succ, List.setIfInBounds_toArray, List.set_cons_zero, List.set_cons_succ]
            refine wpAnyH_done (by kernel_rfl) ?_ _
            clear hHeld
            have hG := HG.out
            clear H1 H2 HTT HPV HSS HAD c0 c1 c2 hNB HG HTG HT67 HT7 HT6 HT5 HP6
            obtain ⟨x2, s2, y2, u2, hD2, n1, n2, n3, n4, _⟩ := hG
            have N1 : x2.r = R := n1.trans HNM.out.1
            have N2 : s2.m = M := n2.trans HNM.out.2.1
            have N3 : y2.q = Q := n3.trans HNM.out.2.2.1
            have N4 : u2.m = D := n4.trans HNM.out.2.2.2
            have H5 := toHid (gopen_any hD2.g.ring)
            rw [N1] at H5
            have HD2 := toHid hD2
            have HNN := toHid (And.intro N1 (And.intro N2 (And.intro N3 N4)))
            clear hD2 n1 n2 n3 n4 N1 N2 N3 N4
            go_wp2_with fail
            refine Calls.mono H5.out ?_
            rintro e w7 ⟨rfl, ht7⟩
            have hD7 := HD2.out.still ht7
            have H6 := toHid (rgopen_any hD7.r.ring)
            rw [HNN.out.2.2.1, ← hD7.recs] at H6
            have H7 := toHid (Mem.count_any hD7.g.mem)
            rw [HNN.out.2.1] at H7
            have H8 := toHid (Mem.rcount_any hD7.r.mem)
            rw [HNN.out.2.2.2, hD7.rel.count hD7.g.mem.ids] at H8
            have HD7 := toHid hD7
            clear hD7 ht7 H5
            go_wp2_with fail
            refine Calls.mono H6.out ?_
            rintro e w8 ⟨rfl, rfl⟩
            go_wp2_with fail
            refine H7.out.mono ?_
            rintro e w9 ⟨rfl, rfl⟩
            go_wp2_with fail
            refine H8.out.mono ?_
            rintro e w10 ⟨rfl, ht10⟩
            have HN10 : Hid (∃ x s y u, GDuo w0 w10 x s y u (k + 1 + 1) ∧ x.r = R ∧ s.m = M ∧ y.q = Q ∧ u.m = D) := ⟨x2, s2, y2, u2, HD7.out.still ht10, HNN.out⟩
            clear ht10 H6 H7 H8 HD7 HNN HD2
            go_wp2
            go_roundw
            case rel => exact ⟨k + 1, by omega, by omega, by go_num, HN10⟩
            case measure => simp [intOf]; omega
          · have hk4 : (IntKind.u64.wrap o.k).tmod 4 = 3 := hkq
            clear hkq hq4
            have HSS : Hid (∀ S w', Touch S (wr.alloc (.cells #[.int .i64 o.k, .int .i64 o.at_, .int .u64 o.n] 44)) w' → wr.heap.size ∉ S → w'.cell? ⟨wr.heap.size, 0, none⟩ = some (.int .i64 o.k) ∧ w'.cell? ⟨wr.heap.size, 1, none⟩ = some (.int .i64 o.at_) ∧ w'.cell? ⟨wr.heap.size, 2, none⟩ = some (.int .u64 o.n)) := fun S w' ht hn => by
              have h9 := ht.blk HBB.out hn
              exact ⟨h9.cell rfl, h9.cell rfl, h9.cell rfl⟩
            have HAD := toHid (fun w => address_any o ok w)
            unfold opT at HAD
            have hab := addrI_bd ok
            generalize hA : addrI o = A at *
            have H1 : Hid (∀ w1, Touch [] (wr.alloc (.cells #[.int .i64 o.k, .int .i64 o.at_, .int .u64 o.n] 44)) w1 → Calls Try.prog 18 #[.pointer (some ⟨M, 0, none⟩), .int .u64 A, .int .i64 1, .int .u64 o.n] w1 (Mem.StorePost w1 s A 1 o.n)) := fun w1 ht => by
              have h9 := Mem.store_any (HD.out.still ht).g.mem A 1 o.n hab.1 hab.2 HO.out.f0
              rw [hsm] at h9
              exact h9
            have H2 : Hid (∀ w1 e w2, Touch [] (wr.alloc (.cells #[.int .i64 o.k, .int .i64 o.at_, .int .u64 o.n] 44)) w1 → Mem.StorePost w1 s A 1 o.n e w2 → ∀ w3, Touch [] w2 w3 → Calls Try.prog 19 #[.pointer (some ⟨D, 0, none⟩), .int .u64 A, .int .i64 1, .int .u64 o.n] w3 fun e' w4 => e' = .returned (.int .i64 (Mem.storeE s.rs A 1)) ∧ Goes w0 x s y u (k + 1) w3 w4) := fun w1 e w2 ht hp w3 ht3 => by
              have hp3 : Mem.StorePost w1 s A 1 o.n e w3 := ⟨hp.1, hp.2.1.trans ht3 (by simp), hp.2.2.1.touch ht3 (by simp), hp.2.2.2⟩
              have h9 := (HD.out.still ht).store2 hab.1 hab.2 HO.out.f0 HO.out.f1 hp3
              rw [hum] at h9
              exact h9
            have HTT : Hid (∀ w1 e w2, Touch [] (wr.alloc (.cells #[.int .i64 o.k, .int .i64 o.at_, .int .u64 o.n] 44)) w1 → Mem.StorePost w1 s A 1 o.n e w2 → Touch (x.blocks ++ s.blocks) (wr.alloc (.cells #[.int .i64 o.k, .int .i64 o.at_, .int .u64 o.n] 44)) w2) := fun w1 e w2 ht hp => ht.nil.trans hp.2.1 (fun b hb => Or.inl (List.mem_append_right _ hb))
            have HPV : Hid (∀ w1 e w2, Mem.StorePost w1 s A 1 o.n e w2 → e = .returned (.int .i64 (Mem.storeE s.rs A 1))) := fun w1 e w2 hp => hp.1
            clear hD ok hxr hsm hyq hum
            generalize Mem.storeE s.rs A 1 = V at *
            go_wp2_with fail
            refine wp_region_held_drew (S := fun w' => w'.cell? ⟨wr.heap.size, 0, none⟩ = some (.int .i64 o.k) ∧ w'.cell? ⟨wr.heap.size, 1, none⟩ = some (.int .i64 o.at_) ∧ w'.cell? ⟨wr.heap.size, 2, none⟩ = some (.int .u64 o.n)) (by kernel_rfl) ?_ (fun hHeld => ?_)
            · exact HSS.out [] _ (Touch.refl _ _).drew (by simp)
            refine wpAnyH_take (i := 0) (v := ?_) rfl (by kernel_rfl) (by kernel_rfl) (by kernel_rfl) (fun _ _ _ h => h) (Or.inl ⟨by rfl, ?_⟩) (by assumption) ?_
            rotate_left
            · (intro w hSw; (try dsimp only at hSw); go_simp; try with_reducible rfl)
            simp only [Act.put, List.getElem_toArray, List.getElem_cons_zero, List.setIfInBounds_toArray, List.set_cons_zero, List.set_cons_succ]
            refine wpAnyH_take (i := 1) (v := ?_) rfl (by kernel_rfl) (by kernel_rfl) (by kernel_rfl) (fun _ _ _ h => h) (Or.inl ⟨by rfl, ?_⟩) (by assumption) ?_
            rotate_left
            · (intro w hSw; (try dsimp only at hSw); go_simp; try with_reducible rfl)
            simp only [Act.put, List.getElem_toArray, List.getElem_cons_zero, List.getElem_cons_succ, List.setIfInBounds_toArray, List.set_cons_zero, List.set_cons_succ]
            refine wpAnyH_take (i := 3) (v := ?_) rfl (by kernel_rfl) (by kernel_rfl) (by kernel_rfl) (fun _ _ _ h => h) (Or.inl ⟨by rfl, ?_⟩) (by assumption) ?_
            rotate_left
            · (intro w hSw; (try dsimp only at hSw); go_simp; try with_reducible rfl)
            simp only [Act.put, List.getElem_toArray, List.getElem_cons_zero, List.getElem_cons_succ, List.setIfInBounds_toArray, List.set_cons_zero, List.set_cons_succ]
            refine wpAnyH_take (i := 4) (v := ?_) rfl (by kernel_rfl) (by kernel_rfl) (by kernel_rfl) (fun _ _ _ h => h) (Or.inl ⟨by rfl, ?_⟩) (by assumption) ?_
            rotate_left
            · (intro w hSw; (try dsimp only at hSw); go_simp; try with_reducible rfl)
            simp only [Act.put, List.getElem_toArray, List.getElem_cons_zero, List.getElem_cons_succ, List.setIfInBounds_toArray, List.set_cons_zero, List.set_cons_succ]
            refine wpAnyH_take (i := 6) (v := ?_) rfl (by kernel_rfl) (by kernel_rfl) (by kernel_rfl) (fun _ _ _ h => h) (Or.inl ⟨by rfl, ?_⟩) (by assumption) ?_
            rotate_left
            · (intro w hSw; (try dsimp only at hSw); go_simp; try with_reducible rfl)
            simp only [Act.put, List.getElem_toArray, List.getElem_cons_zero, List.getElem_cons_succ, List.setIfInBounds_toArray, List.set_cons_zero, List.set_cons_succ]
            refine wpAnyH_take (i := 7) (v := ?_) rfl (by kernel_rfl) (by kernel_rfl) (by kernel_rfl) (fun _ _ _ h => h) (Or.inl ⟨by rfl, ?_⟩) (by assumption) ?_
            rotate_left
            · (intro w hSw; (try dsimp only at hSw); go_simp; try with_reducible rfl)
            simp only [Act.put, List.getElem_toArray, List.getElem_cons_zero, List.getElem_cons_succ, List.setIfInBounds_toArray, List.set_cons_zero, List.set_cons_succ]
            refine wpAnyH_take (i := 9) (v := ?_) rfl (by kernel_rfl) (by kernel_rfl) (by kernel_rfl) (fun _ _ _ h => h) (Or.inl ⟨by rfl, ?_⟩) (by assumption) ?_
            rotate_left
            · (intro w hSw; (try dsimp only at hSw); go_simp; try with_reducible rfl)
            simp only [Act.put, List.getElem_toArray, List.getElem_cons_zero, List.getElem_cons_succ, List.setIfInBounds_toArray, List.set_cons_zero, List.set_cons_succ]
            refine wpAnyH_take (i := 10) (v := ?_) rfl (by kernel_rfl) (by kernel_rfl) (by kernel_rfl) (fun _ _ _ h => h) (Or.inl ⟨by rfl, ?_⟩) (by assumption) ?_
            rotate_left
            · (intro w hSw; (try dsimp only at hSw); go_simp; try with_reducible rfl)
            simp only [Act.put, List.getElem_toArray, List.getElem_cons_zero, List.getElem_cons_succ, List.setIfInBounds_toArray, List.set_cons_zero, List.set_cons_succ]
            refine wpAnyH_ready (rs := [2]) (by kernel_rfl) (by simp) ?_
            refine AllReadyH.cons rfl (fun K hK => ?_) AllReadyH.nil
            simp only [List.getElem_toArray, List.getElem_cons_zero, List.getElem_cons_succ]
            go_simp
            refine Calls.mono (HAD.out _) ?_; rintro e w5 ⟨rfl, ht5⟩; have HT5 := toHid ((Touch.refl [] (wr.alloc (.cells #[.int .i64 o.k, .int .i64 o.at_, .int .u64 o.n] 44))).drew.trans ht5 (by simp)); clear ht5
            go_wp2_with fail
            refine hK.out _ _ ?_ (fun hHeld => ?_)
            · exact HSS.out _ _ HT5.out (by simp)
            clear hK K
            try simp only [Act.put, List.getElem_toArray, List.getElem_cons_zero, List.getElem_cons_succ, List.setIfInBounds_toArray, List.set_cons_zero, List.set_cons_succ]
            refine wpAnyH_ready (rs := [5]) (by kernel_rfl) (by simp) ?_
            refine AllReadyH.cons rfl (fun K hK => ?_) AllReadyH.nil
            simp only [List.getElem_toArray, List.getElem_cons_zero, List.getElem_cons_succ]
            go_simp
            refine Calls.mono (H1.out _ HT5.out) ?_; rintro e w6 hp; have hv := HPV.out _ _ _ hp; have HT6 := toHid (HTT.out _ _ _ HT5.out hp); have HP6 := toHid hp; clear hp; subst hv
            go_wp2_with fail
            refine hK.out _ _ ?_ (fun hHeld => ?_)
            · exact HSS.out _ _ HT6.out HOK.out.1
            clear hK K
            try simp only [Act.put, List.getElem_toArray, List.getElem_cons_zero, List.getElem_cons_succ, List.setIfInBounds_toArray, List.set_cons_zero, List.set_cons_succ]
            refine wpAnyH_ready (rs := [8]) (by kernel_rfl) (by simp) ?_
            refine AllReadyH.cons rfl (fun K hK => ?_) AllReadyH.nil
            simp only [List.getElem_toArray, List.getElem_cons_zero, List.getElem_cons_succ]
            go_simp
            refine Calls.mono (HAD.out _) ?_; rintro e w7 ⟨rfl, ht7⟩; have HT7 := toHid ht7; have HT67 := toHid (HT6.out.trans ht7 (by simp)); clear ht7
            go_wp2_with fail
            refine hK.out _ _ ?_ (fun hHeld => ?_)
            · exact HSS.out _ _ HT67.out HOK.out.1
            clear hK K
            try simp only [Act.put, List.getElem_toArray, List.getElem_cons_zero, List.getElem_cons_succ, List.setIfInBounds_toArray, List.set_cons_zero, List.set_cons_succ]
            refine wpAnyH_ready (rs := [11]) (by kernel_rfl) (by simp) ?_
            refine AllReadyH.cons rfl (fun K hK => ?_) AllReadyH.nil
            simp only [List.getElem_toArray, List.getElem_cons_zero, List.getElem_cons_succ]
            go_simp
            refine Calls.mono (H2.out _ _ _ HT5.out HP6.out _ HT7.out) ?_; rintro e w8 ⟨rfl, hG⟩; have HG := toHid hG; have HTG : Hid (Touch (y.blocks ++ u.blocks) w7 w8) := by obtain ⟨_, _, _, _, _, _, _, _, _, h9⟩ := hG; exact h9
            go_wp2_with fail
            refine hK.out _ _ ?_ (fun hHeld => ?_)
            · clear hG; exact HSS.out _ _ ((HT67.out.mono (S' := (x.blocks ++ s.blocks) ++ (y.blocks ++ u.blocks)) (fun b hb => Or.inl (List.mem_append_left _ hb))).trans HTG.out (fun b hb => Or.inl (List.mem_append_right _ hb))) (fun hx => by rcases List.mem_append.1 hx with hx | hx; exact HOK.out.1 hx; exact HOK.out.2 hx)
            clear hK K
            try simp only [Act.put, List.getElem_toArray, List.getElem_cons_zero, List.getElem_cons_succ, List.setIfInBounds_toArray, List.set_cons_zero, List.set_cons_succ]
            refine wpAnyH_ready (rs := [12]) (by kernel_rfl) (by simp) ?_
            refine AllReadyH.cons rfl (fun K hK => ?_) AllReadyH.nil
            simp only [List.getElem_toArray, List.getElem_cons_zero, List.getElem_cons_succ]
            go_simp
            refine hK.out _ _ ?_ (fun hHeld => ?_)
            · exact hHeld
            clear hK K
            try simp only [Act.put, List.getElem_toArray, List.getElem_cons_zero, List.getElem_cons_succ, List.setIfInBounds_toArray, List.set_cons_zero, List.set_cons_succ]
            refine wpAnyH_done (by kernel_rfl) ?_ _
            clear hHeld
            have hG := HG.out
            clear H1 H2 HTT HPV HSS HAD c0 c1 c2 hNB HG HTG HT67 HT7 HT6 HT5 HP6
            obtain ⟨x2, s2, y2, u2, hD2, n1, n2, n3, n4, _⟩ := hG
            have N1 : x2.r = R := n1.trans HNM.out.1
            have N2 : s2.m = M := n2.trans HNM.out.2.1
            have N3 : y2.q = Q := n3.trans HNM.out.2.2.1
            have N4 : u2.m = D := n4.trans HNM.out.2.2.2
            have H5 := toHid (gopen_any hD2.g.ring)
            rw [N1] at H5
            have HD2 := toHid hD2
            have HNN := toHid (And.intro N1 (And.intro N2 (And.intro N3 N4)))
            clear hD2 n1 n2 n3 n4 N1 N2 N3 N4
            go_wp2_with fail
            refine Calls.mono H5.out ?_
            rintro e w7 ⟨rfl, ht7⟩
            have hD7 := HD2.out.still ht7
            have H6 := toHid (rgopen_any hD7.r.ring)
            rw [HNN.out.2.2.1, ← hD7.recs] at H6
            have H7 := toHid (Mem.count_any hD7.g.mem)
            rw [HNN.out.2.1] at H7
            have H8 := toHid (Mem.rcount_any hD7.r.mem)
            rw [HNN.out.2.2.2, hD7.rel.count hD7.g.mem.ids] at H8
            have HD7 := toHid hD7
            clear hD7 ht7 H5
            go_wp2_with fail
            refine Calls.mono H6.out ?_
            rintro e w8 ⟨rfl, rfl⟩
            go_wp2_with fail
            refine H7.out.mono ?_
            rintro e w9 ⟨rfl, rfl⟩
            go_wp2_with fail
            refine H8.out.mono ?_
            rintro e w10 ⟨rfl, ht10⟩
            have HN10 : Hid (∃ x s y u, GDuo w0 w10 x s y u (k + 1 + 1) ∧ x.r = R ∧ s.m = M ∧ y.q = Q ∧ u.m = D) := ⟨x2, s2, y2, u2, HD7.out.still ht10, HNN.out⟩
            clear ht10 H6 H7 H8 HD7 HNN HD2
            go_wp2
            go_roundw
            case rel => exact ⟨k + 1, by omega, by omega, by go_num, HN10⟩
            case measure => simp [intOf]; omega
      · obtain ⟨x, s, y, u, hD, hxr, hsm, hyq, hum⟩ := HI.out
        obtain rfl : k = m := by omega
        have HD := toHid hD
        have HN := toHid (And.intro hxr hyq)
        clear hD HI hxr hsm hyq hum
        go_wp2_with fail
        have H1 := toHid (gout_any HD.out.g.ring (by have := HD.out.outn; omega))
        rw [HN.out.1] at H1
        refine Calls.mono H1.out ?_
        rintro e w7 ⟨g7, cap7, l7, rfl, hR7, hbs7, ht7, _⟩
        have hD7 := HD.out.still ht7
        have hbs : l7.map KR.bs = y.l.map KR.bs := hbs7.trans hD7.outs
        obtain ⟨n7, hn7⟩ : ∃ n, l7.length = n := ⟨_, rfl⟩
        have hyl : y.l.length = n7 := by have := congrArg List.length hbs; simp at this; omega
        have hn100 : n7 ≤ 100 := by
          have h1 := congrArg List.length hbs7
          simp at h1
          have := hD7.outn
          omega
        have e2 : w7.cell? ⟨Q, 2, none⟩ = some (slV y.g n7 y.cap) := by rw [← HN.out.2, ← hyl]; exact hD7.r.ring.self.cell rfl
        have HR7 := toHid (And.intro hR7 (And.intro hD7.r.ring.rows (And.intro hbs (And.intro hn7 hyl))))
        have HF := toHid (HT0.out.trans hD7.touch (by simp))
        have HE2 := toHid e2
        clear hR7 hbs7 ht7 hD7 hbs H1 hyl
        unfold slV at e2 ⊢
        rw [hn7]
        clear hn7
        generalize hga : (Option.map (fun b => (⟨b, 0, none⟩ : Addr)) g7) = ga at *
        have HGA := toHid hga
        clear hga
        generalize (Option.map (fun b => (⟨b, 0, none⟩ : Addr)) y.g) = gy at *
        go_wp2_with fail
        clear e2
        go_loopw [147] (fun t w' => ∃ j : Nat, j ≤ n7 ∧ t = .int .i64 j ∧ Hid (Touch [] w7 w')) (fun t _ => n7 - (intOf t).toNat)
        case atStart => exact ⟨0, by omega, rfl, Touch.refl _ _⟩
        case round =>
          obtain ⟨j, hj, rfl, HT⟩ := hrel
          by_cases hjn : j < n7
          · have hjn' : (j : Int) < n7 := by omega
            have hj0 : (0 : Int) ≤ j := by omega
            obtain ⟨hR7, hRY, hbs, hl7, hly⟩ := HR7.out
            have hk1 : l7[j]? = some (l7[j]'(by omega)) := List.getElem?_eq_getElem _
            have hk2 : y.l[j]? = some (y.l[j]'(by omega)) := List.getElem?_eq_getElem _
            have hkk : (l7[j]'(by omega)).bs = (y.l[j]'(by omega)).bs := by
              have h1 := congrArg (fun l => l[j]?) hbs
              simp only [List.getElem?_map, hk1, hk2, Option.map_some] at h1
              exact Option.some.inj h1
            generalize l7[j]'(by omega) = k1 at *
            generalize y.l[j]'(by omega) = k2 at *
            obtain ⟨b7, hb7, hc7⟩ := hR7.cell hk1
            obtain ⟨b8, hb8, hc8⟩ := hRY.cell hk2
            have hga : ga = some ⟨b7, 0, none⟩ := by rw [← HGA.out, hb7]; rfl
            subst hga
            have hA1 := (hR7.keys k1 (List.mem_of_getElem? hk1)).1
            have hA2 := (hRY.keys k2 (List.mem_of_getElem? hk2)).1
            unfold KR.v at hc7 hc8
            have hlen : k1.bs.length = k2.bs.length := by rw [hkk]
            have HSS : Hid (∀ w', Touch [] w7 w' → w'.cell? ⟨b7, j, none⟩ = some (.slice (some ⟨k1.b, 0, none⟩) k2.bs.length k1.cap) ∧ w'.cell? ⟨Q, 2, none⟩ = some (.slice (some ⟨b8, 0, none⟩) n7 y.cap) ∧ w'.cell? ⟨b8, j, none⟩ = some (.slice (some ⟨k2.b, 0, none⟩) k2.bs.length k2.cap) ∧ (convert 60 9 (.slice (some ⟨k1.b, 0, none⟩) k2.bs.length k1.cap)).run Try.prog w' = .ok (.string (strOfNums k2.bs)) w' ∧ (convert 60 9 (.slice (some ⟨k2.b, 0, none⟩) k2.bs.length k2.cap)).run Try.prog w' = .ok (.string (strOfNums k2.bs)) w') := fun w' ht => by
              have hq2 := ht.cell HE2.out (by simp)
              rw [hb8] at hq2
              rw [← hlen]
              refine ⟨ht.cell hc7 (by simp), hq2, ?_, ?_, ?_⟩
              · rw [hlen]; exact ht.cell hc8 (by simp)
              · rw [← hkk]; exact (hA1.touch ht (by simp)).conv
              · rw [hlen]; exact (hA2.touch ht (by simp)).conv
            clear hR7 hRY hbs hl7 hly hk1 hk2 hkk hb7 hc7 hb8 hc8 hA1 hA2 hlen
            generalize strOfNums k2.bs = A at *
            generalize k2.bs.length = L at *
            go_wp2_with fail
            refine wp_region_held_drew (S := fun w' => w'.cell? ⟨b7, j, none⟩ = some (.slice (some ⟨k1.b, 0, none⟩) L k1.cap) ∧ w'.cell? ⟨Q, 2, none⟩ = some (.slice (some ⟨b8, 0, none⟩) n7 y.cap) ∧ w'.cell? ⟨b8, j, none⟩ = some (.slice (some ⟨k2.b, 0, none⟩) L k2.cap) ∧ (convert 60 9 (.slice (some ⟨k1.b, 0, none⟩) L k1.cap)).run Try.prog w' = .ok (.string A) w' ∧ (convert 60 9 (.slice (some ⟨k2.b, 0, none⟩) L k2.cap)).run Try.prog w' = .ok (.string A) w') (by kernel_rfl) ?_ (fun hHeld => ?_)
            · exact HSS.out _ HT.out.drew
            refine wpAnyH_take (i := 0) (v := ?_) rfl (by kernel_rfl) (by kernel_rfl) (by kernel_rfl) (fun _ _ _ h => h) (Or.inl ⟨by rfl, ?_⟩) (by assumption) ?_
            rotate_left
            · (intro w hSw; (try dsimp only at hSw); go_simp; try with_reducible rfl)
            simp only [Act.put, List.getElem_toArray, List.getElem_cons_zero, List.setIfInBounds_toArray, List.set_cons_zero, List.set_cons_succ]
            refine wpAnyH_take (i := 1) (v := ?_) rfl (by kernel_rfl) (by kernel_rfl) (by kernel_rfl) (fun _ _ _ h => h) (Or.inl ⟨by rfl, ?_⟩) (by assumption) ?_
            rotate_left
            · (intro w hSw; (try dsimp only at hSw); go_simp; try with_reducible rfl)
            simp only [Act.put, List.getElem_toArray, List.getElem_cons_zero, List.getElem_cons_succ, List.setIfInBounds_toArray, List.set_cons_zero, List.set_cons_succ]
            refine wpAnyH_take (i := 2) (v := ?_) rfl (by kernel_rfl) (by kernel_rfl) (by kernel_rfl) (fun _ _ _ h => h) (Or.inl ⟨by rfl, ?_⟩) (by assumption) ?_
            rotate_left
            · (intro w hSw; (try dsimp only at hSw); go_simp; try with_reducible rfl)
            simp only [Act.put, List.getElem_toArray, List.getElem_cons_zero, List.getElem_cons_succ, List.setIfInBounds_toArray, List.set_cons_zero, List.set_cons_succ]
            refine wpAnyH_take (i := 3) (v := ?_) rfl (by kernel_rfl) (by kernel_rfl) (by kernel_rfl) (fun _ _ _ h => h) (Or.inl ⟨by rfl, ?_⟩) (by assumption) ?_
            rotate_left
            · (intro w hSw; (try dsimp only at hSw); go_simp; try with_reducible rfl)
            simp only [Act.put, List.getElem_toArray, List.getElem_cons_zero, List.getElem_cons_succ, List.setIfInBounds_toArray, List.set_cons_zero, List.set_cons_succ]
            refine wpAnyH_take (i := 4) (v := ?_) rfl (by kernel_rfl) (by kernel_rfl) (by kernel_rfl) (fun _ _ _ h => h) (Or.inl ⟨by rfl, ?_⟩) (by assumption) ?_
            rotate_left
            · (intro w hSw; (try dsimp only at hSw); go_simp; try with_reducible rfl)
            simp only [Act.put, List.getElem_toArray, List.getElem_cons_zero, List.getElem_cons_succ, List.setIfInBounds_toArray, List.set_cons_zero, List.set_cons_succ]
            refine wpAnyH_take (i := 5) (v := ?_) rfl (by kernel_rfl) (by kernel_rfl) (by kernel_rfl) (fun _ _ _ h => h) (Or.inl ⟨by rfl, ?_⟩) (by assumption) ?_
            rotate_left
            · (intro w hSw; (try dsimp only at hSw); go_simp; try with_reducible rfl)
            simp only [Act.put, List.getElem_toArray, List.getElem_cons_zero, List.getElem_cons_succ, List.setIfInBounds_toArray, List.set_cons_zero, List.set_cons_succ]
            refine wpAnyH_take (i := 6) (v := ?_) rfl (by kernel_rfl) (by kernel_rfl) (by kernel_rfl) (fun _ _ _ h => h) (Or.inl ⟨by rfl, ?_⟩) (by assumption) ?_
            rotate_left
            · (intro w hSw; (try dsimp only at hSw); go_simp; try with_reducible rfl)
            simp only [Act.put, List.getElem_toArray, List.getElem_cons_zero, List.getElem_cons_succ, List.setIfInBounds_toArray, List.set_cons_zero, List.set_cons_succ]
            refine wpAnyH_take (i := 7) (v := ?_) rfl (by kernel_rfl) (by kernel_rfl) (by kernel_rfl) (fun _ _ _ h => h) (Or.inl ⟨by rfl, ?_⟩) (by assumption) ?_
            rotate_left
            · (intro w hSw; (try dsimp only at hSw); go_simp; try with_reducible rfl)
            simp only [Act.put, List.getElem_toArray, List.getElem_cons_zero, List.getElem_cons_succ, List.setIfInBounds_toArray, List.set_cons_zero, List.set_cons_succ]
            refine wpAnyH_take (i := 8) (v := ?_) rfl (by kernel_rfl) (by kernel_rfl) (by kernel_rfl) (fun _ _ _ h => h) (Or.inl ⟨by rfl, ?_⟩) (by assumption) ?_
            rotate_left
            · (intro w hSw; (try dsimp only at hSw); go_simp; try with_reducible rfl)
            simp only [Act.put, List.getElem_toArray, List.getElem_cons_zero, List.getElem_cons_succ, List.setIfInBounds_toArray, List.set_cons_zero, List.set_cons_succ]
            refine wpAnyH_take (i := 9) (v := ?_) rfl (by kernel_rfl) (by kernel_rfl) (by kernel_rfl) (fun _ _ _ h => h) (Or.inl ⟨by rfl, ?_⟩) (by assumption) ?_
            rotate_left
            · (intro w hSw; (try dsimp only at hSw); go_simp; try with_reducible rfl)
            simp only [Act.put, List.getElem_toArray, List.getElem_cons_zero, List.getElem_cons_succ, List.setIfInBounds_toArray, List.set_cons_zero, List.set_cons_succ]
            refine wpAnyH_take (i := 10) (v := ?_) rfl (by kernel_rfl) (by kernel_rfl) (by kernel_rfl) (fun _ _ _ h => h) (Or.inl ⟨by rfl, ?_⟩) (by assumption) ?_
            rotate_left
            · (intro w hSw; (try dsimp only at hSw); go_simp; try with_reducible rfl)
            simp only [Act.put, List.getElem_toArray, List.getElem_cons_zero, List.getElem_cons_succ, List.setIfInBounds_toArray, List.set_cons_zero, List.set_cons_succ]
            refine wpAnyH_take (i := 11) (v := ?_) rfl (by kernel_rfl) (by kernel_rfl) (by kernel_rfl) (fun _ _ _ h => h) (Or.inl ⟨by rfl, ?_⟩) (by assumption) ?_
            rotate_left
            · (intro w hSw; (try dsimp only at hSw); go_simp; try with_reducible rfl)
            simp only [Act.put, List.getElem_toArray, List.getElem_cons_zero, List.getElem_cons_succ, List.setIfInBounds_toArray, List.set_cons_zero, List.set_cons_succ]
            refine wpAnyH_take (i := 12) (v := ?_) rfl (by kernel_rfl) (by kernel_rfl) (by kernel_rfl) (fun _ _ _ h => h) (Or.inl ⟨by rfl, ?_⟩) (by assumption) ?_
            rotate_left
            · (intro w hSw; (try dsimp only at hSw); go_simp; try with_reducible rfl)
            simp only [Act.put, List.getElem_toArray, List.getElem_cons_zero, List.getElem_cons_succ, List.setIfInBounds_toArray, List.set_cons_zero, List.set_cons_succ]
            refine wpAnyH_ready (rs := [13]) (by kernel_rfl) (by simp) ?_
            refine AllReadyH.cons rfl (fun K hK => ?_) AllReadyH.nil
            simp only [List.getElem_toArray, List.getElem_cons_zero, List.getElem_cons_succ]
            go_simp
            refine hK.out _ _ ?_ (fun hHeld => ?_)
            · exact hHeld
            clear hK K
            try simp only [Act.put, List.getElem_toArray, List.getElem_cons_zero, List.getElem_cons_succ, List.setIfInBounds_toArray, List.set_cons_zero, List.set_cons_succ]
            refine wpAnyH_done (by kernel_rfl) ?_ _
            clear hHeld HSS
            have HN2 := toHid HT.out.drew
            go_wp2
            go_roundw
            case rel => exact ⟨j + 1, by omega, by go_num, HN2⟩
            case measure => simp [intOf]; omega
          · obtain rfl : j = n7 := by omega
            have HFF := toHid (HF.out.trans HT.out (by simp))
            go_wp2
            go_ret
            exact ⟨rfl, HFF.out⟩
end Go.Proofs.Ytkfmhabplcikiaa.Ring
