/-
  What FormWalks asks of each instruction of a program whose verdict is good. Of no walk.
-/
import Derived.Test.YtpoliblfgioocaaGood
namespace Go.Proofs.Ytpoliblfgioocaa
open Go.RowKit

/-- What the law asks of an instruction that begins at k, in part m. -/
structure Fit (f : Nat → In) (n : Nat) (ps : List Nat) (st : Nat → Bool) (k m : Nat) : Prop where
  tgt : ∀ t, tgtP f n k = some t → t < n ∧ st t = true
  jump : ∀ t, tgtP f n k = some t → (f k).op ≠ 133 → (∀ y, ps[m]? = some y → (y : Int) ≤ t) ∧ (∀ y, ps[m + 1]? = some y → (t : Int) < y)
  next : closeB (f k) = false → k + (if (f k).op = 24 then 2 else 1) < n ∧ st (k + (if (f k).op = 24 then 2 else 1)) = true ∧ ∀ y, ps[m + 1]? = some y → ((k + (if (f k).op = 24 then 2 else 1) : Nat) : Int) < y
  none_op : tgtP f n k = none → (f k).op ≠ 5
  some_op : ∀ t, tgtP f n k = some t → (f k).op ≠ 24 ∧ (f k).op ≠ 149
theorem fit_of {f : Nat → In} {n k m : Nat} (h : (checkP f n).2 = 0) (hk : k ∈ begL f n) (hm : pidx (partsL f n) k = (m : Int)) : Fit f n (partsL f n) (startsB f n) k m := by
  obtain ⟨h0, h1, hw, hs, hx, he⟩ := good_of h
  have hsk := hs k hk
  have hxk := hx k hk
  have hpp := parts_pair f n
  have hp0 := parts_zero (f := f) h0
  have hto : ∀ t, tgtP f n k = some t → t ∈ begL f n := fun t ht => by
    have h2 := (tgt_lt ht).2
    simp only [strayB, h2, Bool.not_eq_eq_eq_not, Bool.not_false, decide_eq_true_eq] at hsk
    obtain ⟨y, hy, e⟩ := hsk
    have : y = t := by omega
    exact this ▸ hy
  refine ⟨fun t ht => ⟨(tgt_lt ht).1, by simpa [startsB, inB] using hto t ht⟩, fun t ht ho => ?_, fun hc => ?_, fun ht ho => ?_, fun t ht => ?_⟩
  · have h2 := (tgt_lt ht).2
    have hj := (to_isJump h2).1 ho
    simp only [crossB, hj, h2, Bool.true_and, decide_eq_false_iff_not, Decidable.not_not] at hxk
    have hp := (pidx_iff hpp hp0 (x := (t : Int)) (y := (k : Int)) (by omega) (by omega)).2 hxk
    rw [hm] at hp
    exact ⟨fun y hy => (pidx_at hpp hp (y := y)).1 hy, fun y hy => (pidx_at hpp hp (y := y)).2 hy⟩
  · rcases next_from (partsL f n) n 0 (by omega) hw he k hk with h | ⟨h, ho⟩
    · rw [hc] at h
      cases h
    · rw [← len_wide (begL_ok hk)]
      have hp := (pidx_iff hpp hp0 (x := ((k + lenP f n k : Nat) : Int)) (y := (k : Int)) (by omega) (by omega)).2 ho
      rw [hm] at hp
      refine ⟨begL_lt h, ?_, fun y hy => (pidx_at hpp hp (y := y)).2 hy⟩
      exact decide_eq_true h
  · have hj : jumpB (f k) = true := by simp [jumpB, ho]
    have h2 := to_jumpB (k := k) hj
    simp only [strayB, h2, Bool.not_eq_eq_eq_not, Bool.not_false, decide_eq_true_eq] at hsk
    obtain ⟨y, hy, e⟩ := hsk
    rw [← e] at h2
    rw [tgt_of h2 (begL_lt hy)] at ht
    cases ht
  · have h2 := (tgt_lt ht).2
    unfold toP at h2
    split at h2
    · omega
    · split at h2
      · cases h2
      · omega

end Go.Proofs.Ytpoliblfgioocaa
