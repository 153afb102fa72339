/-
  The document's own index: Find, Put and Del of an array.
-/
import Derived.Test.YtlkbaconlngmjaaRef
namespace Go.Proofs.Ytlkbaconlngmjaa
open Go.RowKit

/-- The same keys in the same slots; the clock went on by one at most. -/
structure Turned (x x' : RX) : Prop where
  r : x'.r = x.r
  kind : x'.kind = x.kind
  size : x'.size = x.size
  g : x'.g = x.g
  h : x'.h = x.h
  slots : x'.slots = x.slots
  lens : x'.whens.length = x.whens.length
  clock0 : x.clock ≤ x'.clock
  clock1 : x'.clock ≤ x.clock + 1
theorem Turned.refl (x : RX) : Turned x x := ⟨rfl, rfl, rfl, rfl, rfl, rfl, rfl, by omega, by omega⟩
theorem Turned.touched (x : RX) (a : Int) : Turned x (x.touched a) := ⟨rfl, rfl, rfl, rfl, rfl, rfl, touched_len x a, by show x.clock ≤ x.clock + 1; omega, by show x.clock + 1 ≤ x.clock + 1; omega⟩
theorem Turned.top {x x' : RX} (h : Turned x x') : x'.top = x.top := by unfold RX.top; rw [h.r, h.g, h.h]
theorem Turned.blocks {x x' : RX} (h : Turned x x') : x'.blocks = x.blocks := by unfold RX.blocks; rw [h.top, h.slots]

/-- An index that stands: as many times as slots. -/
structure RUp (x : RX) : Prop where
  lens : x.whens.length = x.slots.length
  many : x.slots.length ≤ 64
  clock0 : 0 ≤ x.clock
  clock1 : x.clock ≤ 1000000000
theorem same_lt (x : RX) (u : RUp x) (bs : List Int) : sameI x.slots bs < x.whens.length := by
  have := u.lens
  rcases same_bd x.slots bs with h | h <;> omega

def rfindI (x : RX) (bs : List Int) : Int := if (bs.length : Int) = x.size then sameI x.slots bs else -1
def StepPost (w : World) (x : RX) (v : Value) (e : Ending) (w' : World) : Prop := e = .returned v ∧ ∃ x', RAt w' x' ∧ Turned x x' ∧ Touch x.top w w'

set_option maxHeartbeats 1000000 in
set_option maxRecDepth 100000 in
theorem rfind_any {w : World} {x : RX} (h : RAt w x) (u : RUp x) (hk3 : x.kind ≠ 3) {sa : Option Addr} {sl : Nat} {bs : List Int} (hk : KeyAt w sa sl bs) (sc : Nat) :
    Calls Try.prog 21 #[.pointer (some ⟨x.r, 0, none⟩), .slice sa sl sc] w (StepPost w x (.int .i64 (rfindI x bs))) := by
  have H1 := toHid (fits_any h hk3 sa sl sc (by rw [hk.1]; exact hk.2.2.1))
  have hl := hk.1
  by_cases he : (sl : Int) = x.size
  · rw [decide_eq_true he] at H1
    rw [show rfindI x bs = sameI x.slots bs by unfold rfindI; rw [if_pos (by omega)]]
    have HH := toHid (And.intro h (And.intro u (And.intro hk3 hk)))
    clear h u hk he hl hk3
    go_enter Try.func21, Try.ntmps21
    go_wp2_with fail
    refine Calls.mono H1.out ?_
    rintro e w2 ⟨rfl, ht2⟩
    have h2 := HH.out.1.touch ht2 (by simp)
    have c0 := h2.c0
    have hkd : (x.kind != 3) = true := by simpa using HH.out.2.2.1
    have H2 := toHid (same_any h2 HH.out.2.2.1 (by have := HH.out.2.1.many; omega) (HH.out.2.2.2.touch ht2) sc)
    have H3 := toHid (touch_any h2 (sameI x.slots bs) (same_lt x HH.out.2.1 bs) HH.out.2.1.clock0 (by have := HH.out.2.1.clock1; omega))
    have HT := toHid ht2
    generalize sameI x.slots bs = a at *
    clear ht2 h2 H1
    go_wp2_with fail
    refine Calls.mono H2.out ?_
    rintro e w3 ⟨rfl, rfl⟩
    go_wp2_with fail
    refine Calls.mono H3.out ?_
    rintro e w4 ⟨rfl, hr4, ht4⟩
    have HF : Hid (∃ x', RAt w4 x' ∧ Turned x x' ∧ Touch x.top w w4) := ⟨_, hr4, Turned.touched x a, Touch.trans (Touch.nil HT.out) ht4 (fun y hy => Or.inl hy)⟩
    clear hr4 ht4 H2 H3 HT HH
    go_wp2
    go_ret
    exact ⟨rfl, HF.out⟩
  · rw [decide_eq_false he] at H1
    rw [show rfindI x bs = -1 by unfold rfindI; rw [if_neg (by omega)]]
    have HH := toHid h
    clear h u hk he hl hk3
    go_enter Try.func21, Try.ntmps21
    go_wp2_with fail
    refine Calls.mono H1.out ?_
    rintro e w2 ⟨rfl, ht2⟩
    have HF : Hid (∃ x', RAt w2 x' ∧ Turned x x' ∧ Touch x.top w w2) := ⟨x, HH.out.touch ht2 (by simp), Turned.refl x, Touch.nil ht2⟩
    clear ht2 H1
    go_wp2
    go_ret
    exact ⟨rfl, HF.out⟩

def rputI (x : RX) (bs : List Int) (fl : Int) : Int × Int :=
  if (bs.length : Int) = x.size then (if 2 < fl then (0, 72) else if sameI x.slots bs < 0 then (0, 71) else if fl = 1 then (0, 70) else (sameI x.slots bs, 0)) else (0, 2)

set_option maxHeartbeats 2000000 in
set_option maxRecDepth 100000 in
theorem rput0_any {w : World} {x : RX} (h : RAt w x) (u : RUp x) (hk0 : x.kind = 0) {sa : Option Addr} {sl : Nat} {bs : List Int} (hk : KeyAt w sa sl bs) (sc : Nat) (fl : Int) (f0 : 0 ≤ fl) :
    Calls Try.prog 22 #[.pointer (some ⟨x.r, 0, none⟩), .slice sa sl sc, .int .u64 fl] w (StepPost w x (.tuple #[.int .i64 (rputI x bs fl).1, .bool false, .int .i64 (rputI x bs fl).2])) := by
  have hk3 : x.kind ≠ 3 := by omega
  have H1 := toHid (fits_any h hk3 sa sl sc (by rw [hk.1]; exact hk.2.2.1))
  have hl := hk.1
  by_cases he : (sl : Int) = x.size
  · rw [decide_eq_true he] at H1
    have HV : Hid (rputI x bs fl = if 2 < fl then (0, 72) else if sameI x.slots bs < 0 then (0, 71) else if fl = 1 then (0, 70) else (sameI x.slots bs, 0)) := if_pos (by omega)
    have HH := toHid (And.intro h (And.intro u (And.intro hk3 hk)))
    clear h u hk he hl hk3
    by_cases hf : 2 < fl
    · rw [HV.out, if_pos hf]
      go_enter Try.func22, Try.ntmps22
      go_wp2_with fail
      refine Calls.mono H1.out ?_
      rintro e w2 ⟨rfl, ht2⟩
      have HF : Hid (∃ x', RAt w2 x' ∧ Turned x x' ∧ Touch x.top w w2) := ⟨x, HH.out.1.touch ht2 (by simp), Turned.refl x, Touch.nil ht2⟩
      clear ht2 H1
      go_wp2
      go_ret3
      exact ⟨rfl, HF.out⟩
    · have HW : Hid (rputI x bs fl = if sameI x.slots bs < 0 then (0, 71) else if fl = 1 then (0, 70) else (sameI x.slots bs, 0)) := by
        have := HV.out
        rw [if_neg hf] at this
        exact this
      clear HV
      generalize rputI x bs fl = pr at *
      go_enter Try.func22, Try.ntmps22
      go_wp2_with fail
      refine Calls.mono H1.out ?_
      rintro e w2 ⟨rfl, ht2⟩
      have h2 := HH.out.1.touch ht2 (by simp)
      have c0 := h2.c0
      rw [hk0] at c0
      have H2 := toHid (same_any h2 HH.out.2.2.1 (by have := HH.out.2.1.many; omega) (HH.out.2.2.2.touch ht2) sc)
      have H3 := toHid (touch_any h2 (sameI x.slots bs) (same_lt x HH.out.2.1 bs) HH.out.2.1.clock0 (by have := HH.out.2.1.clock1; omega))
      have HT := toHid ht2
      have HN : Hid (∃ x', RAt w2 x' ∧ Turned x x' ∧ Touch x.top w w2) := ⟨x, h2, Turned.refl x, Touch.nil ht2⟩
      generalize sameI x.slots bs = a at *
      clear ht2 h2 H1
      go_wp2_with fail
      refine Calls.mono H2.out ?_
      rintro e w3 ⟨rfl, rfl⟩
      clear H2
      by_cases ha : a < 0
      · obtain rfl : pr = (0, 71) := by rw [HW.out, if_pos ha]
        go_wp2
        go_ret3
        exact ⟨rfl, HN.out⟩
      · by_cases h1 : fl = 1
        · subst h1
          obtain rfl : pr = (0, 70) := by rw [HW.out, if_neg ha, if_pos rfl]
          go_wp2
          go_ret3
          exact ⟨rfl, HN.out⟩
        · obtain rfl : pr = (a, 0) := by rw [HW.out, if_neg ha, if_neg h1]
          go_wp2_with fail
          refine Calls.mono H3.out ?_
          rintro e w4 ⟨rfl, hr4, ht4⟩
          have HF : Hid (∃ x', RAt w4 x' ∧ Turned x x' ∧ Touch x.top w w4) := ⟨_, hr4, Turned.touched x a, Touch.trans (Touch.nil HT.out) ht4 (fun y hy => Or.inl hy)⟩
          clear hr4 ht4 H3 HT HH HN
          go_wp2
          go_ret3
          exact ⟨rfl, HF.out⟩
  · rw [decide_eq_false he] at H1
    rw [show rputI x bs fl = (0, 2) from if_neg (by omega)]
    have HH := toHid h
    clear h u hk he hl hk3
    go_enter Try.func22, Try.ntmps22
    go_wp2_with fail
    refine Calls.mono H1.out ?_
    rintro e w2 ⟨rfl, ht2⟩
    have HF : Hid (∃ x', RAt w2 x' ∧ Turned x x' ∧ Touch x.top w w2) := ⟨x, HH.out.touch ht2 (by simp), Turned.refl x, Touch.nil ht2⟩
    clear ht2 H1
    go_wp2
    go_ret3
    exact ⟨rfl, HF.out⟩

set_option maxHeartbeats 1000000 in
set_option maxRecDepth 100000 in
theorem rdel0_any {w : World} {x : RX} (h : RAt w x) (hk0 : x.kind = 0) (sa : Option Addr) (sl sc : Nat) :
    Calls Try.prog 23 #[.pointer (some ⟨x.r, 0, none⟩), .slice sa sl sc] w fun e w' => e = .returned (.tuple #[.int .i64 0, .int .i64 2]) ∧ w' = w := by
  have c0 := h.c0
  rw [hk0] at c0
  clear h hk0
  go_enter Try.func23, Try.ntmps23
  go_wp2
  go_ret2
  exact ⟨rfl, rfl⟩
end Go.Proofs.Ytlkbaconlngmjaa
