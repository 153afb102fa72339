/-
  The document's ring: Open, Reserve.
-/
import Derived.Test.YtkfmhabplcikiaaGRef
namespace Go.Proofs.Ytkfmhabplcikiaa.Ring
open Go.RowKit
attribute [local go_sem ↓] Go.wp_at_zero Go.wp_at_succ

set_option maxHeartbeats 1000000 in
set_option maxRecDepth 100000 in
theorem rgopen_any {w : World} {y : RRG} (h : RRingAt w y) : Calls Try.prog 21 #[.pointer (some ⟨y.q, 0, none⟩)] w fun e w' => e = .returned (.int .i64 (openN y.recs)) ∧ w' = w := by
  have HH := toHid h
  have c1 : w.cell? ⟨y.q, 1, none⟩ = some (.slice (some ⟨y.ig, 0, none⟩) 8 y.icap) := h.self.cell rfl
  clear h
  go_enter Try.func21, Try.ntmps21
  go_wp2_with fail
  clear c1
  go_loopw [3, 11] (fun o t w' => ∃ k n : Nat, k ≤ 8 ∧ n ≤ k ∧ o = .int .i64 n ∧ t = .int .i64 k ∧ w' = w ∧ Hid (openN (y.recs.take k) = n)) (fun _ t _ => 8 - (intOf t).toNat)
  case atStart => exact ⟨0, 0, by omega, by omega, rfl, rfl, by trivial, rfl⟩
  case round =>
    obtain ⟨k, n, hk, hn, rfl, rfl, rfl, HJ⟩ := hrel
    by_cases hlt : k < 8
    · have hk8 : (k : Int) < 8 := by omega
      have hc := HH.out.id_at hlt
      have ho := openN_take y.recs (k := k) (by have := HH.out.eight; omega)
      cases hs : y.recs.getD k none with
      | none =>
        rw [hs] at hc ho
        have hc' : wr.cell? ⟨y.ig, k, none⟩ = some (.int .i64 (-1)) := hc
        have HN : Hid (openN (y.recs.take (k + 1)) = n) := by rw [ho, HJ.out]; rfl
        clear hs ho HJ hc
        go_wp2
        go_roundw
        case rel => exact ⟨k + 1, n, by omega, by omega, rfl, by go_num, by trivial, HN⟩
        case measure => simp [intOf]; omega
      | some i =>
        rw [hs] at hc ho
        have hc' : wr.cell? ⟨y.ig, k, none⟩ = some (.int .i64 (i : Int)) := hc
        have hi0 : (0 : Int) ≤ i := by omega
        have HN : Hid (openN (y.recs.take (k + 1)) = n + 1) := by rw [ho, HJ.out]; rfl
        clear hs ho HJ hc
        go_wp2
        go_roundw
        case rel => exact ⟨k + 1, n + 1, by omega, by omega, by go_num, by go_num, by trivial, HN⟩
        case measure => simp [intOf]; omega
    · obtain rfl : k = 8 := by omega
      have HF : Hid (openN y.recs = n) := by have := HJ.out; rw [List.take_of_length_le (by have := HH.out.eight; omega)] at this; exact this
      clear HJ
      go_wp2
      go_ret
      exact ⟨by rw [HF.out] <;> rfl, rfl⟩
def RResPost (w : World) (y : RRG) (u : Mem.RS) (size : Int) (e : Ending) (w' : World) : Prop :=
  e = .returned (.tuple #[.int .u64 (resP y.recs size fun b => Mem.raddE u.all b size 3).1, .int .i64 (resP y.recs size fun b => Mem.raddE u.all b size 3).2]) ∧
  (((resP y.recs size fun b => Mem.raddE u.all b size 3).2 ≠ 0 ∧ ∃ u' : Mem.RS, u'.all = u.all ∧ RGStep w w' y y u u') ∨ ∃ (n : Nat) (r : Mem.RReg) (u' : Mem.RS), n < 8 ∧ freeI y.recs = n ∧ y.recs[n]? = some none ∧ (resP y.recs size fun b => Mem.raddE u.all b size 3) = (placeI n, 0) ∧ Mem.raddE u.all (placeI n) size 3 = 0 ∧
    u'.all = u.all ++ [r] ∧ r.live = true ∧ r.base = placeI n ∧ r.perm = 3 ∧ r.bytes = List.replicate size.toNat 0 ∧ r.set = List.replicate size.toNat true ∧ RGStep w w' y { y with recs := y.recs.set n (some u.all.length) } u u')
set_option maxHeartbeats 4000000 in
set_option maxRecDepth 100000 in
theorem rgreserve_any {w : World} {y : RRG} {u : Mem.RS} (h : RGBoth w y u) (hlen : u.all.length < 1000) (size : Int) (z0 : 0 ≤ size) (z1 : size ≤ 18446744073709551615) :
    Calls Try.prog 13 #[.pointer (some ⟨y.q, 0, none⟩), .int .u64 size] w (RResPost w y u size) := by
  by_cases hbad : size < 1 ∨ 64 < size
  · have HF : Hid (RResPost w y u size (.returned (.tuple #[.int .u64 0, .int .i64 2])) w) := by
      have hp : (resP y.recs size fun b => Mem.raddE u.all b size 3) = (0, 2) := by unfold resP; rw [if_pos hbad]
      unfold RResPost
      rw [hp]
      exact ⟨rfl, Or.inl ⟨by decide, u, rfl, RGStep.same h (Touch.refl _ _)⟩⟩
    clear h hlen
    rcases hbad with hb | hb
    · go_enter Try.func13, Try.ntmps13
      go_wp2
      go_ret2
      exact HF.out
    · have hb1 : ¬ size < 1 := by omega
      go_enter Try.func13, Try.ntmps13
      go_wp2
      go_ret2
      exact HF.out
  · have hg1 : ¬ size < 1 := by omega
    have hg2 : ¬ 64 < size := by omega
    have hwr : IntKind.i64.wrap size = size := by
      simp only [IntKind.wrap, IntKind.bits, IntKind.signed]
      simp
      omega
    have HH := toHid h
    have HB := toHid hbad
    have c1 : w.cell? ⟨y.q, 1, none⟩ = some (.slice (some ⟨y.ig, 0, none⟩) 8 y.icap) := h.ring.self.cell rfl
    have c0 : w.cell? ⟨y.q, 0, none⟩ = some (.pointer (some ⟨u.m, 0, none⟩)) := by rw [← h.at_]; exact h.ring.self.cell rfl
    clear h hbad
    go_enter Try.func13, Try.ntmps13
    go_wp2_with fail
    go_loopw [20] (fun t w' => ∃ k : Nat, k ≤ 8 ∧ t = .int .i64 k ∧ w' = w ∧ Hid (∀ j, j < k → (y.recs.getD j none).isSome = true)) (fun t _ => 8 - (intOf t).toNat)
    case atStart => exact ⟨0, by omega, rfl, by trivial, fun j hj => absurd hj (by omega)⟩
    case round =>
      obtain ⟨k, hk, rfl, rfl, HJ⟩ := hrel
      by_cases hlt : k < 8
      · have hk8 : (k : Int) < 8 := by omega
        have hc := HH.out.ring.id_at hlt
        have h8 := HH.out.ring.eight
        have hq : y.recs[k]? = some (y.recs.getD k none) := by
          rw [List.getD_eq_getElem?_getD, List.getElem?_eq_getElem (by omega)]
          rfl
        cases hs : y.recs.getD k none with
        | some i =>
          rw [hs] at hc
          have hc' : wr.cell? ⟨y.ig, k, none⟩ = some (.int .i64 (i : Int)) := hc
          have hi0 : ¬ (i : Int) < 0 := by omega
          have HN : Hid (∀ j, j < k + 1 → (y.recs.getD j none).isSome = true) := fun j hj => by
            by_cases hjk : j = k
            · rw [hjk, hs]; rfl
            · exact HJ.out j (by omega)
          clear hs hq HJ hc h8
          go_wp2
          go_roundw
          case rel => exact ⟨k + 1, by omega, by go_num, by trivial, HN⟩
          case measure => simp [intOf]; omega
        | none =>
          rw [hs] at hc hq
          have hc' : wr.cell? ⟨y.ig, k, none⟩ = some (.int .i64 (-1)) := hc
          have hf := freeI_some hq HJ.out
          have hp0 : 0 ≤ placeI k ∧ placeI k ≤ 18446744073709551615 := by unfold placeI; omega
          have H3 := toHid (Mem.radd_any HH.out.mem (placeI k) size 3 hp0.1 hp0.2 hlen)
          unfold Mem.RAddPost' at H3
          have hpl : placeI k = 68719476736 + (k : Int) * 4096 := rfl
          have HFN := toHid (And.intro hf (And.intro hq (And.intro hlt HB.out)))
          by_cases he : Mem.raddE u.all (placeI k) size 3 = 0
          · simp only [he, if_true] at H3
            have HX : Hid (∀ w1 u' r, Mem.RefAt w1 u' → Touch u.blocks wr w1 → u'.m = u.m → (∀ b ∈ u'.blocks, b ∈ u.blocks ∨ wr.heap.size ≤ b) → u'.all = u.all ++ [r] → r.live = true → r.base = placeI k → r.perm = 3 → r.bytes = List.replicate size.toNat 0 → r.set = List.replicate size.toNat true → RResPost wr y u size (.returned (.tuple #[.int .u64 (placeI k), .int .i64 0])) (w1.setCell ⟨y.ig, k, none⟩ (.int .i64 u.all.length))) := fun w1 u' r hM ht hm hown hall h1 h2 h3 h4 h5 => by
              obtain ⟨hf, hq, hlt, hbad⟩ := HFN.out
              have hp : (resP y.recs size fun b => Mem.raddE u.all b size 3) = (placeI k, 0) := by
                unfold resP
                rw [if_neg hbad, if_neg (by rw [hf]; omega), hf, if_pos he]
              unfold RResPost
              exact ⟨by rw [hp], Or.inr ⟨k, r, u', hlt, hf, hq, hp, he, hall, h1, h2, h3, h4, h5, HH.out.turn hM ht hm hown hlt (some u.all.length)⟩⟩
            have HT : Hid (∀ w1, Touch u.blocks wr w1 → w1.cell? ⟨y.q, 1, none⟩ = some (.slice (some ⟨y.ig, 0, none⟩) 8 y.icap) ∧ w1.cell? ⟨y.ig, k, none⟩ = some (.int .i64 (-1)) ∧ w1.frozen? ⟨y.ig, k, none⟩ = false) := fun w1 ht => by
              obtain ⟨rest, hr⟩ := HH.out.ring.ids
              have h9 := ht.blk hr (HH.out.apart _ y.mem_ig)
              exact ⟨ht.cell c1 (HH.out.apart _ y.mem_q), ht.cell hc' (HH.out.apart _ y.mem_ig), h9.frozen _⟩
            clear hs hq HJ hc h8 hf he
            rw [hpl] at H3
            go_wp2_with fail
            refine Calls.mono H3.out ?_
            rintro e w2 ⟨rfl, ht2, u', hM, hm, hown, _, hgood⟩
            obtain ⟨r, hall, h1, h2, h3, h4, h5⟩ := hgood trivial
            have HY := toHid (HX.out w2 u' r hM ht2 hm hown hall h1 (by rw [hpl]; exact h2) h3 h4 (by rw [h5]; rfl))
            obtain ⟨d1, d2, d3⟩ := HT.out w2 ht2
            rw [hpl] at HY
            clear hM ht2 hm hown hall h1 h2 h3 h4 h5 hgood HX HT H3 c0 c1 hc' hpl
            go_wp2
            go_ret2
            exact HY.out
          · simp only [he, if_false] at H3
            have HX : Hid (∀ w1 u', Mem.RefAt w1 u' → Touch u.blocks wr w1 → u'.m = u.m → (∀ b ∈ u'.blocks, b ∈ u.blocks ∨ wr.heap.size ≤ b) → u'.all = u.all → RResPost wr y u size (.returned (.tuple #[.int .u64 0, .int .i64 12])) w1) := fun w1 u' hM ht hm hown hall => by
              obtain ⟨hf, hq, hlt, hbad⟩ := HFN.out
              have hp : (resP y.recs size fun b => Mem.raddE u.all b size 3) = (0, 12) := by
                unfold resP
                rw [if_neg hbad, if_neg (by rw [hf]; omega), hf, if_neg he]
              unfold RResPost
              rw [hp]
              have hR := HH.out.ring.touch ht HH.out.apart
              exact ⟨rfl, Or.inl ⟨by decide, u', hall, ⟨hR, hM, HH.out.at_.trans hm.symm, fun b hb hx => by
                rcases hown b hx with h1 | h1
                · exact HH.out.apart b hb h1
                · have := HH.out.ring.lt b hb; omega⟩, rfl, hm, ht.mono (fun b hb => Or.inl (List.mem_append_right _ hb)), fun _ hb => Or.inl hb, hown⟩⟩
            generalize hE : Mem.raddE u.all (placeI k) size 3 = E at *
            have heb : (E != 0) = true := by simpa using he
            clear hs hq HJ hc h8 hf hE
            rw [hpl] at H3
            go_wp2_with fail
            refine Calls.mono H3.out ?_
            rintro e w2 ⟨rfl, ht2, u', hM, hm, hown, hsame, _⟩
            have HY := toHid (HX.out w2 u' hM ht2 hm hown (hsame (by simp [he])))
            clear hM ht2 hm hown hsame HX H3 c0 c1 hc' hpl
            go_wp2
            go_ret2
            exact HY.out
      · obtain rfl : k = 8 := by omega
        have HF : Hid (RResPost wr y u size (.returned (.tuple #[.int .u64 0, .int .i64 71])) wr) := by
          have hf := freeI_none (l := y.recs) (fun j hj => HJ.out j (by have := HH.out.ring.eight; omega))
          have hp : (resP y.recs size fun b => Mem.raddE u.all b size 3) = (0, 71) := by unfold resP; rw [if_neg HB.out, if_pos (by rw [hf]; decide)]
          unfold RResPost
          rw [hp]
          exact ⟨rfl, Or.inl ⟨by decide, u, rfl, RGStep.same HH.out (Touch.refl _ _)⟩⟩
        clear HJ
        go_wp2
        go_ret2
        exact HF.out
end Go.Proofs.Ytkfmhabplcikiaa.Ring
