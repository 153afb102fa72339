/-
  Check, Parts, Target.
-/
import Derived.Test.YtpoliblfgioocaaCross
namespace Go.Proofs.Ytpoliblfgioocaa
open Go.RowKit

def checkC (f : Nat → In) (n : Nat) : Nat × Int :=
  if n = 0 ∨ 256 < n then (0, 40) else match wrongL f n with
  | some r => r
  | none => match firstL (strayB f n) (begL f n) with
    | some k => (k, 43)
    | none => match firstL (crossC f n) (begL f n) with
      | some k => (k, 43)
      | none => match endC f (partsL f n) 0 (begL f n) with
        | some k => (k, 44)
        | none => (0, 0)
theorem cross_eq {f : Nat → In} {n k : Nat} (_hk : k ∈ begL f n) (hs : strayB f n k = false) : crossC f n k = crossB f n k := by
  unfold crossC crossB
  cases hj : jumpB (f k)
  · rfl
  · have ht := to_jumpB (k := k) hj
    simp only [strayB, ht, Bool.not_eq_eq_eq_not, Bool.not_false, decide_eq_true_eq] at hs
    obtain ⟨y, hy, e⟩ := hs
    rw [← e] at ht
    have hyn := begL_lt hy
    rw [tgt_of ht hyn]
    simp only [ht, Bool.true_and, decide_eq_decide]
    have := pidx_iff (parts_pair f n) (parts_zero (f := f) (show 0 < n by omega)) (x := (y : Int)) (y := (k : Int)) (by omega) (by omega)
    exact not_congr this
theorem end_eq {f : Nat → In} {ps : List Nat} (hs : ps.Pairwise (· < ·)) (h0 : ps[0]? = some 0) : ∀ (l : List Nat) (last : Nat), endC f ps last l = endFrom f ps last l
  | [], last => rfl
  | a :: l, last => by
    have := pidx_iff hs h0 (x := (a : Int)) (y := (last : Int)) (by omega) (by omega)
    unfold endC endFrom
    rw [end_eq hs h0 l a]
    simp only [ne_eq, this]
theorem check_eq (f : Nat → In) (n : Nat) : checkC f n = checkP f n := by
  unfold checkC checkP
  by_cases h : n = 0 ∨ 256 < n
  · rw [if_pos h, if_pos h]
  · rw [if_neg h, if_neg h]
    cases wrongL f n with
    | some r => rfl
    | none =>
      cases hst : firstL (strayB f n) (begL f n) with
      | some k => rfl
      | none =>
        have hst2 := List.find?_eq_none.1 hst
        have hc : firstL (crossC f n) (begL f n) = firstL (crossB f n) (begL f n) := by
          unfold firstL
          have : ∀ l : List Nat, (∀ k ∈ l, crossC f n k = crossB f n k) → l.find? (crossC f n) = l.find? (crossB f n) := by
            intro l
            induction l with
            | nil => intro _; rfl
            | cons a l ih =>
              intro hh
              rw [List.find?_cons, List.find?_cons, hh a (by simp), ih (fun k hk => hh k (by simp [hk]))]
          exact this _ (fun k hk => cross_eq hk (by simpa using hst2 k hk))
        rw [hc, end_eq (parts_pair f n) (parts_zero (by omega))]
        rfl
def checkV (p : Nat × Int) : Value := .tuple #[.int .i64 (p.1 : Int), .int .i64 p.2]

set_option maxHeartbeats 3200000 in
set_option maxRecDepth 100000 in
theorem check_any (sa : Option Addr) (n c : Nat) (f : Nat → In) (w : World) (h : ListAt w sa n f) (hn : n ≤ 17592186044415) :
    Calls Try.prog 8 #[.slice sa n c] w fun e w' => e = .returned (checkV (checkP f n)) ∧ Touch [] w w' := by
  rw [← check_eq]
  have HS := toHid h
  clear h
  by_cases h0 : n = 0
  · subst h0
    have HR : Hid (checkC f 0 = (0, 40)) := toHid (by rw [checkC, if_pos (Or.inl rfl)])
    go_enter Try.func8, Try.ntmps8
    go_wp2
    go_ret2
    exact ⟨by rw [HR.out]; rfl, Touch.refl _ _⟩
  · have b0 : ((n : Int) == 0) = false := by simp; omega
    by_cases h1 : 256 < n
    · have HR : Hid (checkC f n = (0, 40)) := toHid (by rw [checkC, if_pos (Or.inr h1)])
      have z1 : (256 : Int) < (n : Int) := by omega
      go_enter Try.func8, Try.ntmps8
      go_wp2
      go_ret2
      exact ⟨by rw [HR.out]; rfl, Touch.refl _ _⟩
    · have z1 : ¬ (256 : Int) < (n : Int) := by omega
      have HW := toHid (wrongInst_any sa n c f w HS.out hn)
      have HC : Hid (checkC f n = match wrongL f n with
        | some r => r
        | none => match firstL (strayB f n) (begL f n) with
          | some k => (k, 43)
          | none => match firstL (crossC f n) (begL f n) with
            | some k => (k, 43)
            | none => match endC f (partsL f n) 0 (begL f n) with
              | some k => (k, 44)
              | none => (0, 0)) := toHid (by rw [checkC, if_neg (by omega)])
      cases hw : wrongL f n with
      | some r =>
        rw [hw] at HW HC
        have hr := wrong_pos n 0 (by omega) r hw
        have hr2 : (r.2 != 0) = true := by simpa using hr
        clear hr hw
        go_enter Try.func8, Try.ntmps8
        go_wp2_with fail
        refine Calls.mono HW.out ?_
        rintro e w2 ⟨rfl, ht2⟩
        have HT2 := toHid ht2
        simp only [wrongV]
        clear ht2
        go_wp2
        go_ret2
        exact ⟨by rw [HC.out]; rfl, HT2.out⟩
      | none =>
        rw [hw] at HW HC
        clear hw
        go_enter Try.func8, Try.ntmps8
        go_wp2_with fail
        refine Calls.mono HW.out ?_
        rintro e w2 ⟨rfl, ht2⟩
        have HT2 := toHid ht2
        simp only [wrongV]
        have HL2 := toHid (HS.out.touch ht2 (by simp))
        clear ht2
        go_wp2_with fail
        refine Calls.mono (starts_any sa n c f w2 HL2.out hn) ?_
        rintro e w3 ⟨rfl, hB, ht3⟩
        have HT3 := toHid (HT2.out.trans ht3 (by simp))
        have HL3 := toHid (HL2.out.touch ht3 (by simp))
        have HB3 := toHid hB
        clear ht3 hB
        generalize w2.heap.size = B at *
        go_wp2_with fail
        refine Calls.mono (strayJump_any sa n c B n f w3 HL3.out hn HB3.out) ?_
        rintro e w4 ⟨rfl, ht4⟩
        have HT4 := toHid (HT3.out.trans ht4 (by simp))
        have HL4 := toHid (HL3.out.touch ht4 (by simp))
        have HB4 := toHid (ht4.blk HB3.out (by simp))
        clear ht4
        cases hst : firstL (strayB f n) (begL f n) with
        | some k =>
          rw [hst] at HC
          simp only [tgtV]
          go_wp2
          go_ret2
          exact ⟨by rw [HC.out]; rfl, HT4.out⟩
        | none =>
          rw [hst] at HC
          simp only [tgtV]
          clear hst
          go_wp2_with fail
          refine Calls.mono (parts_any sa n c B n f w4 HL4.out hn HB4.out) ?_
          rintro e w5 ⟨⟨v, rfl, g, cap, rfl, hN, _⟩, ht5⟩
          have HT5 := toHid (HT4.out.trans ht5 (by simp))
          have HL5 := toHid (HL4.out.touch ht5 (by simp))
          have HB5 := toHid (ht5.blk HB4.out (by simp))
          have HN5 := toHid hN
          clear ht5 hN
          go_wp2_with fail
          refine Calls.mono (finder_any g _ cap w5) ?_
          rintro e w6 ⟨rfl, rfl⟩
          have hta : Touch [] w5 (w5.alloc (.cells #[slV g (partsL f n).length cap] 35)) := (Touch.refl _ _).alloc _
          have HT6 := toHid (HT5.out.trans hta (by simp))
          have HL6 := toHid (HL5.out.touch hta (by simp))
          have HB6 := toHid (hta.blk HB5.out (by simp))
          have HF6 : Hid (FindAt (w5.alloc (.cells #[slV g (partsL f n).length cap] 35)) w5.heap.size (partsL f n)) := toHid ⟨g, cap, (Blk.newA w5 #[slV g (partsL f n).length cap] _ 35 rfl).cell rfl, HN5.out.touch hta (by simp)⟩
          clear hta HT5 HL5 HB5 HN5
          generalize w5.alloc (.cells #[slV g (partsL f n).length cap] 35) = w6 at *
          generalize w5.heap.size = N at *
          go_wp2_with fail
          refine Calls.mono (crossJump_any sa n c B n N f w6 HL6.out hn HB6.out HF6.out) ?_
          rintro e w7 ⟨rfl, ht7⟩
          have HT7 := toHid (HT6.out.trans ht7 (by simp))
          have HL7 := toHid (HL6.out.touch ht7 (by simp))
          have HB7 := toHid (ht7.blk HB6.out (by simp))
          have HF7 := toHid (HF6.out.touch ht7)
          clear ht7
          cases hst : firstL (crossC f n) (begL f n) with
          | some k =>
            rw [hst] at HC
            simp only [tgtV]
            go_wp2
            go_ret2
            exact ⟨by rw [HC.out]; rfl, HT7.out⟩
          | none =>
            rw [hst] at HC
            simp only [tgtV]
            clear hst
            go_wp2_with fail
            refine Calls.mono (openEnd_any sa n c B n N f w7 HL7.out (by omega) hn HB7.out HF7.out) ?_
            rintro e w8 ⟨rfl, ht8⟩
            have HT8 := toHid (HT7.out.trans ht8 (by simp))
            clear ht8
            cases hst : endC f (partsL f n) 0 (begL f n) with
            | some k =>
              rw [hst] at HC
              simp only [tgtV]
              go_wp2
              go_ret2
              exact ⟨by rw [HC.out]; rfl, HT8.out⟩
            | none =>
              rw [hst] at HC
              simp only [tgtV]
              go_wp2
              go_ret2
              exact ⟨by rw [HC.out]; rfl, HT8.out⟩

set_option maxHeartbeats 1600000 in
set_option maxRecDepth 100000 in
theorem partsX_any (sa : Option Addr) (n c : Nat) (f : Nat → In) (w : World) (h : ListAt w sa n f) (hn : n ≤ 17592186044415) :
    Calls Try.prog 11 #[.slice sa n c] w fun e w' => (∃ v, e = .returned v ∧ OwnN w w' v (partsL f n)) ∧ Touch [] w w' := by
  have HS := toHid h
  clear h
  go_enter Try.func11, Try.ntmps11
  go_wp2_with fail
  refine Calls.mono (starts_any sa n c f w HS.out hn) ?_
  rintro e w3 ⟨rfl, hB, ht3⟩
  have HT3 := toHid ht3
  have HL3 := toHid (HS.out.touch ht3 (by simp))
  have HB3 := toHid hB
  clear ht3 hB
  go_wp2_with fail
  refine Calls.mono (parts_any sa n c _ n f w3 HL3.out hn HB3.out) ?_
  rintro e w5 ⟨⟨v, rfl, hv⟩, ht5⟩
  have HO := toHid (hv.down HT3.out.size)
  have HT5 := toHid (HT3.out.trans ht5 (by simp))
  clear ht5 hv
  go_wp2
  go_ret
  exact ⟨⟨_, rfl, HO.out⟩, HT5.out⟩

/-- Target, as the chapter has it. -/
def targetP (f : Nat → In) (n : Nat) (x : Int) : Option Nat := if 0 ≤ x ∧ x < (n : Int) ∧ startsB f n x.toNat = true then tgtP f n x.toNat else none
set_option maxHeartbeats 1600000 in
set_option maxRecDepth 100000 in
theorem targetX_any (sa : Option Addr) (n c : Nat) (x : Int) (f : Nat → In) (w : World) (h : ListAt w sa n f) (hn : n ≤ 17592186044415) :
    Calls Try.prog 15 #[.slice sa n c, .int .i64 x] w fun e w' => e = .returned (tgtV (targetP f n x)) ∧ Touch [] w w' := by
  have HS := toHid h
  clear h
  by_cases h0 : x < 0
  · have HR : Hid (targetP f n x = none) := toHid (by rw [targetP, if_neg (by omega)])
    go_enter Try.func15, Try.ntmps15
    go_wp2
    go_ret2
    exact ⟨by rw [HR.out]; rfl, Touch.refl _ _⟩
  · by_cases h1 : (n : Int) ≤ x
    · have HR : Hid (targetP f n x = none) := toHid (by rw [targetP, if_neg (by omega)])
      go_enter Try.func15, Try.ntmps15
      go_wp2
      go_ret2
      exact ⟨by rw [HR.out]; rfl, Touch.refl _ _⟩
    · obtain ⟨k, rfl⟩ := Int.eq_ofNat_of_zero_le (show 0 ≤ x by omega)
      have hk : k < n := by omega
      have z1 : (k : Int) < (n : Int) := by omega
      have z2 : ¬ (n : Int) ≤ (k : Int) := by omega
      clear h0 h1
      cases hs : startsB f n k
      · have HR : Hid (targetP f n k = none) := toHid (by rw [targetP, if_neg (by rw [Int.toNat_natCast, hs]; simp)])
        go_enter Try.func15, Try.ntmps15
        go_wp2_with fail
        refine Calls.mono (starts_any sa n c f w HS.out hn) ?_
        rintro e w3 ⟨rfl, hB, ht3⟩
        have hc := hB.cell (marks_get hk)
        rw [hs] at hc
        have HT3 := toHid ht3
        clear ht3 hB hs
        go_wp2
        go_ret2
        exact ⟨by rw [HR.out]; rfl, HT3.out⟩
      · have HR : Hid (targetP f n k = tgtP f n k) := toHid (by rw [targetP, if_pos (by rw [Int.toNat_natCast]; exact ⟨by omega, z1, hs⟩), Int.toNat_natCast])
        go_enter Try.func15, Try.ntmps15
        go_wp2_with fail
        refine Calls.mono (starts_any sa n c f w HS.out hn) ?_
        rintro e w3 ⟨rfl, hB, ht3⟩
        have hc := hB.cell (marks_get hk)
        rw [hs] at hc
        have HT3 := toHid ht3
        have HL3 := toHid (HS.out.touch ht3 (by simp))
        clear ht3 hB hs
        go_wp2_with fail
        refine Calls.mono (target_any sa n c k f w3 HL3.out hk hn) ?_
        rintro e w4 ⟨rfl, ht4⟩
        have HT4 := toHid (HT3.out.trans ht4 (by simp))
        clear ht4
        cases ht : tgtP f n k with
        | none =>
          rw [ht] at HR
          simp only [tgtV]
          go_wp2
          go_ret2
          exact ⟨by rw [HR.out]; rfl, HT4.out⟩
        | some t =>
          rw [ht] at HR
          simp only [tgtV]
          go_wp2
          go_ret2
          exact ⟨by rw [HR.out]; rfl, HT4.out⟩
end Go.Proofs.Ytpoliblfgioocaa
