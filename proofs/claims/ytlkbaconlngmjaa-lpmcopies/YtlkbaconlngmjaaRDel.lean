/-
  The document's own Find and Del, of all kinds but prefixes, as steps.
-/
import Derived.Test.YtlkbaconlngmjaaRPut
namespace Go.Proofs.Ytlkbaconlngmjaa
open Go.RowKit

def FindPost (w : World) (x : RX) (a : Option Nat × PX) (e : Ending) (w' : World) : Prop := e = .returned (.int .i64 (idxI a.1)) ∧ ∃ x', Step w w' x x' a.2
set_option maxHeartbeats 1000000 in
set_option maxRecDepth 100000 in
theorem rfindP_any {w : World} {x : RX} (h : RAt w x) (u : RUp x) (hk3 : x.kind ≠ 3) {sa : Option Addr} {sl : Nat} {bs : List Int} (hk : KeyAt w sa sl bs) (sc : Nat) :
    Calls Try.prog 21 #[.pointer (some ⟨x.r, 0, none⟩), .slice sa sl sc] w (FindPost w x (x.p.find bs)) := by
  have H1 := toHid (fits_any h hk3 sa sl sc (by rw [hk.1]; exact hk.2.2.1))
  have hl := hk.1
  by_cases he : (sl : Int) = x.size
  · rw [decide_eq_true he] at H1
    rw [show x.p.find bs = (sameP x.p.slots bs, x.p.touch (sameP x.p.slots bs)) from if_pos (by show (bs.length : Int) = x.size; omega)]
    have HH := toHid (And.intro h (And.intro u (And.intro hk3 hk)))
    clear h u hk he hl hk3
    go_enter Try.func21, Try.ntmps21
    go_wp2_with fail
    refine Calls.mono H1.out ?_
    rintro e w2 ⟨rfl, ht2⟩
    have h2 := HH.out.1.touch ht2 (by simp)
    have c0 := h2.c0
    have hkd : (x.kind != 3) = true := by simpa using HH.out.2.2.1
    have H2 := toHid (same_any h2 HH.out.2.2.1 (by have := HH.out.2.1.many; omega) (HH.out.2.2.2.touch ht2) sc)
    have H3 := toHid (touch_any h2 (sameI x.slots bs) (same_lt x HH.out.2.1 bs) HH.out.2.1.clock0 (by have := HH.out.2.1.clock1; omega))
    have hsp : sameP (x.slots.map (Option.map KS.bs)) bs = sameP x.p.slots bs := rfl
    rw [sameI_eq, hsp] at H2 H3
    have HT := toHid ht2
    generalize sameP x.p.slots bs = ao at *
    generalize hao : idxI ao = a at *
    have HA := toHid hao
    clear ht2 h2 H1 hsp hao
    go_wp2_with fail
    refine Calls.mono H2.out ?_
    rintro e w3 ⟨rfl, rfl⟩
    go_wp2_with fail
    refine Calls.mono H3.out ?_
    rintro e w4 ⟨rfl, hr4, ht4⟩
    rw [← HA.out] at hr4
    have HF : Hid (∃ x', Step w w4 x x' (x.p.touch ao)) := ⟨_, Step.touched HT.out ao hr4 ht4⟩
    clear hr4 ht4 H2 H3 HT HH
    go_wp2
    go_ret
    exact ⟨by rw [HA.out]; rfl, HF.out⟩
  · rw [decide_eq_false he] at H1
    rw [show x.p.find bs = (none, x.p) from if_neg (by show ¬ (bs.length : Int) = x.size; omega)]
    have HH := toHid h
    clear h u hk he hl hk3
    go_enter Try.func21, Try.ntmps21
    go_wp2_with fail
    refine Calls.mono H1.out ?_
    rintro e w2 ⟨rfl, ht2⟩
    have HF : Hid (∃ x', Step w w2 x x' x.p) := ⟨x, Step.refl HH.out ht2⟩
    clear ht2 H1
    go_wp2
    go_ret
    exact ⟨rfl, HF.out⟩

def DelPost (w : World) (x : RX) (a : (Int × Int) × PX) (e : Ending) (w' : World) : Prop := e = .returned (.tuple #[.int .i64 a.1.1, .int .i64 a.1.2]) ∧ ∃ x', Step w w' x x' a.2
set_option maxHeartbeats 2000000 in
set_option maxRecDepth 100000 in
theorem rdel_any {w : World} {x : RX} (h : RAt w x) (u : RUp x) (hk3 : x.kind ≠ 3) {sa : Option Addr} {sl : Nat} {bs : List Int} (hk : KeyAt w sa sl bs) (sc : Nat) :
    Calls Try.prog 23 #[.pointer (some ⟨x.r, 0, none⟩), .slice sa sl sc] w (DelPost w x (x.p.del bs)) := by
  have c0 := h.c0
  by_cases hk0 : x.kind = 0
  · rw [show x.p.del bs = ((0, 2), x.p) from if_pos hk0]
    have HF : Hid (∃ x', Step w w x x' x.p) := ⟨x, Step.refl h (Touch.refl _ _)⟩
    rw [hk0] at c0
    clear h u hk hk0 hk3
    go_enter Try.func23, Try.ntmps23
    go_wp2
    go_ret2
    exact ⟨rfl, HF.out⟩
  · have HV : Hid (x.p.del bs = (if (bs.length : Int) = x.size then match sameP x.p.slots bs with
        | some i => (((i : Int), 0), { x.p with slots := x.p.slots.set i none })
        | none => ((0, 14), x.p)
      else ((0, 2), x.p) : (Int × Int) × PX)) := if_neg hk0
    have hk0' : (x.kind == 0) = false := by simpa using hk0
    have H1 := toHid (fits_any h hk3 sa sl sc (by rw [hk.1]; exact hk.2.2.1))
    have hl := hk.1
    generalize x.p.del bs = pr at *
    by_cases he : (sl : Int) = x.size
    · rw [decide_eq_true he] at H1
      have HV2 := toHid (HV.out.trans (if_pos (by omega)))
      clear HV
      have HH := toHid (And.intro h (And.intro u (And.intro hk3 hk)))
      clear h u hk he hl hk3 hk0
      go_enter Try.func23, Try.ntmps23
      go_wp2_with fail
      refine Calls.mono H1.out ?_
      rintro e w2 ⟨rfl, ht2⟩
      have h2 := HH.out.1.touch ht2 (by simp)
      have H2 := toHid (same_any h2 HH.out.2.2.1 (by have := HH.out.2.1.many; omega) (HH.out.2.2.2.touch ht2) sc)
      rw [sameI_eq] at H2
      have HT := toHid ht2
      have HR2 := toHid h2
      have c3 := h2.c3
      clear ht2 h2 H1 c0
      cases hsm : sameP x.p.slots bs with
      | none =>
        have hsm' : sameP (x.slots.map (Option.map KS.bs)) bs = none := hsm
        rw [hsm'] at H2
        obtain rfl : pr = ((0, 14), x.p) := by rw [HV2.out, hsm]
        have HF : Hid (∃ x', Step w w2 x x' x.p) := ⟨x, Step.refl HH.out.1 HT.out⟩
        unfold idxI at H2
        simp only at H2
        clear hsm hsm'
        go_wp2_with fail
        refine Calls.mono H2.out ?_
        rintro e w3 ⟨rfl, rfl⟩
        go_wp2
        go_ret2
        exact ⟨rfl, HF.out⟩
      | some i =>
        have hsm' : sameP (x.slots.map (Option.map KS.bs)) bs = some i := hsm
        rw [hsm'] at H2
        obtain rfl : pr = (((i : Int), 0), { x.p with slots := x.p.slots.set i none }) := by rw [HV2.out, hsm]
        have hil : i < x.slots.length := by have := sameP_lt hsm'; simpa using this
        have hget : x.slots[i]? = some (x.slots.getD i none) := by
          rw [List.getD_eq_getElem?_getD, List.getElem?_eq_getElem hil]
          rfl
        obtain ⟨gb, hgb, hc⟩ := HR2.out.slot hget
        have hfz : w2.frozen? ⟨gb, i, none⟩ = false := by
          have hq := HR2.out.row.2.2.2
          rw [hgb] at hq
          obtain ⟨_, hB, _⟩ := hq
          exact hB.frozen _
        have hpl := HR2.out.placed hgb hil none (fun k hk => by cases hk)
        have HF : Hid (∃ x', Step w (w2.setCell ⟨gb, i, none⟩ (.slice none 0 0)) x x' { x.p with slots := x.p.slots.set i none }) := by
          refine ⟨_, ⟨hpl, ?_, rfl, (Touch.nil HT.out).setCell _ _ (Or.inl (RX.mem_g hgb)), fun b hb => Or.inl ?_, rfl, by simp⟩⟩
          · unfold RX.p
            rw [List.map_set]
            rfl
          · rcases List.mem_append.1 hb with hb | hb
            · exact List.mem_append_left _ hb
            · obtain ⟨a, ha, hab⟩ := List.mem_filterMap.1 hb
              rcases List.mem_or_eq_of_mem_set ha with ha | ha
              · exact List.mem_append_right _ (List.mem_filterMap.2 ⟨a, ha, hab⟩)
              · subst ha
                cases hab
        rw [hgb, slV_some] at c3
        have hil' : (i : Int) < x.slots.length := by omega
        have hnn := HH.out.2.1.many
        unfold idxI at H2
        simp only at H2
        generalize slotV (x.slots.getD i none) = oldv at hc
        clear hsm hsm' hget hpl hgb
        go_wp2_with fail
        refine Calls.mono H2.out ?_
        rintro e w3 ⟨rfl, rfl⟩
        go_wp2
        go_ret2
        exact ⟨rfl, HF.out⟩
    · rw [decide_eq_false he] at H1
      obtain rfl : pr = ((0, 2), x.p) := by rw [HV.out, if_neg (by omega)]
      have HH := toHid h
      clear h u hk he hl hk3 hk0
      go_enter Try.func23, Try.ntmps23
      go_wp2_with fail
      refine Calls.mono H1.out ?_
      rintro e w2 ⟨rfl, ht2⟩
      have HF : Hid (∃ x', Step w w2 x x' x.p) := ⟨x, Step.refl HH.out ht2⟩
      clear ht2 H1
      go_wp2
      go_ret2
      exact ⟨rfl, HF.out⟩
end Go.Proofs.Ytlkbaconlngmjaa
