/-
  What is true of a program whose verdict is good, as facts on its slots. Of no walk.
-/
import Derived.Test.YtpoliblfgioocaaRCheck
namespace Go.Proofs.Ytpoliblfgioocaa
open Go.RowKit

theorem good_of {f : Nat → In} {n : Nat} (h : (checkP f n).2 = 0) : 0 < n ∧ n ≤ 256 ∧ wrongL f n = none ∧ (∀ k ∈ begL f n, strayB f n k = false) ∧ (∀ k ∈ begL f n, crossB f n k = false) ∧ refEnd f (partsL f n) (begL f n) = none := by
  by_cases h0 : n = 0 ∨ 256 < n
  · rw [checkP, if_pos h0] at h
    cases h
  · have hc : ∀ r, wrongL f n = some r → checkP f n = r := fun r hr => by rw [checkP, if_neg h0, hr]
    have hw : wrongL f n = none := by
      cases hw : wrongL f n with
      | none => rfl
      | some r =>
        rw [hc r hw] at h
        exact absurd h (wrong_pos n 0 (by omega) r hw)
    rw [check_tail h0 hw] at h
    unfold tailP at h
    cases hs : firstL (strayB f n) (begL f n) with
    | some k => rw [hs] at h; cases h
    | none =>
      cases hx : firstL (crossB f n) (begL f n) with
      | some k => rw [hs, hx] at h; cases h
      | none =>
        cases he : refEnd f (partsL f n) (begL f n) with
        | some k => rw [hs, hx, he] at h; cases h
        | none =>
          refine ⟨by omega, by omega, hw, ?_, ?_, rfl⟩
          · intro k hk
            simpa using List.find?_eq_none.1 hs k hk
          · intro k hk
            simpa using List.find?_eq_none.1 hx k hk
theorem good_back {f : Nat → In} {n : Nat} (h0 : 0 < n) (h1 : n ≤ 256) (hw : wrongL f n = none) (hs : ∀ k ∈ begL f n, strayB f n k = false) (hx : ∀ k ∈ begL f n, crossB f n k = false) (he : refEnd f (partsL f n) (begL f n) = none) : (checkP f n).2 = 0 := by
  rw [check_tail (by omega) hw]
  unfold tailP
  rw [show firstL (strayB f n) (begL f n) = none from find_none hs, show firstL (crossB f n) (begL f n) = none from find_none hx, he]

theorem wrong_none {f : Nat → In} {n k : Nat} (hk : k < n) (h : wrongFrom f n k = none) : errP f n k = 0 ∧ forbidB (f k) = false ∧ wrongFrom f n (k + lenP f n k) = none := by
  by_cases he : errP f n k = 0
  · cases hf : forbidB (f k)
    · rw [wrong_step hk he hf] at h
      exact ⟨he, rfl, h⟩
    · rw [wrong_forbid hk he hf] at h
      cases h
  · rw [wrong_err hk he] at h
    cases h
theorem next_from {f : Nat → In} {n : Nat} (ps : List Nat) : ∀ d k, n - k ≤ d → wrongFrom f n k = none → refEnd f ps (begFrom f n k) = none →
    ∀ x ∈ begFrom f n k, closeB (f x) = true ∨ (x + lenP f n x ∈ begFrom f n k ∧ ofP ps ((x + lenP f n x : Nat) : Int) = ofP ps x) := by
  intro d
  induction d with
  | zero =>
    intro k hd _ _ x hx
    rw [beg_stop (by omega)] at hx
    cases hx
  | succ d ih =>
    intro k hd hw hr x hx
    by_cases hk : k < n
    · obtain ⟨he, _, hw2⟩ := wrong_none hk hw
      have hl := plain_len hk he
      rw [beg_step hk he] at hr hx ⊢
      by_cases hk2 : k + lenP f n k < n
      · obtain ⟨he2, _, _⟩ := wrong_none hk2 hw2
        have hb2 := beg_step hk2 he2
        rw [hb2] at hr
        have hr2 : refEnd f ps (begFrom f n (k + lenP f n k)) = none ∧ (closeB (f k) = true ∨ ofP ps ((k + lenP f n k : Nat) : Int) = ofP ps k) := by
          rw [hb2]
          rw [refEnd] at hr
          by_cases ho : ofP ps ((k + lenP f n k : Nat) : Int) = ofP ps k
          · rw [if_pos ho] at hr
            exact ⟨hr, Or.inr ho⟩
          · rw [if_neg ho] at hr
            cases hc : closeB (f k)
            · rw [hc] at hr
              cases hr
            · rw [hc, if_pos rfl] at hr
              exact ⟨hr, Or.inl rfl⟩
        rcases List.mem_cons.1 hx with rfl | hx
        · rcases hr2.2 with h | h
          · exact Or.inl h
          · exact Or.inr ⟨by rw [hb2]; simp, h⟩
        · rcases ih _ (by omega) hw2 hr2.1 x hx with h | h
          · exact Or.inl h
          · exact Or.inr ⟨List.mem_cons.2 (Or.inr h.1), h.2⟩
      · rw [beg_stop (k := k + lenP f n k) (fun h => hk2 h.1)] at hr hx ⊢
        rcases List.mem_cons.1 hx with rfl | hx
        · rw [refEnd] at hr
          cases hc : closeB (f x)
          · rw [hc] at hr
            cases hr
          · exact Or.inl rfl
        · cases hx
    · rw [beg_stop (fun h => hk h.1)] at hx
      cases hx

/-- Where an instruction's next slot lies. -/
theorem len_wide {f : Nat → In} {n k : Nat} (he : errP f n k = 0) : lenP f n k = if (f k).op = 24 then 2 else 1 := by
  have hwd : wideB (f k).op = decide ((f k).op = 24) := rfl
  unfold lenP
  unfold errP at he
  revert he
  unfold plainOf
  rw [hwd]
  repeat' split
  all_goals simp_all

theorem cut_upTo {l : List Nat} (hs : l.Pairwise (· < ·)) (x : Int) : CutAt l (x + 1) (upTo l x).length := by
  unfold upTo
  induction l with
  | nil => exact ⟨by simp, fun p y h => by simp at h, fun p y h => by simp at h⟩
  | cons a l ih =>
    have hs2 := List.pairwise_cons.1 hs
    obtain ⟨h1, h2, h3⟩ := ih hs2.2
    by_cases ha : (a : Int) ≤ x
    · rw [List.filter_cons, if_pos (by simpa using ha)]
      refine ⟨by simp; exact h1, ?_, ?_⟩
      · intro p y hp hlt
        cases p with
        | zero =>
          simp at hp
          omega
        | succ p =>
          simp only [List.getElem?_cons_succ] at hp
          simp only [List.length_cons] at hlt
          exact h2 p y hp (by omega)
      · intro p y hp hle
        cases p with
        | zero => simp at hle
        | succ p =>
          simp only [List.getElem?_cons_succ] at hp
          simp only [List.length_cons] at hle
          exact h3 p y hp (by omega)
    · have hn : l.filter (fun y : Nat => decide ((y : Int) ≤ x)) = [] := by
        rw [List.filter_eq_nil_iff]
        intro z hz
        have := hs2.1 z hz
        simp
        omega
      rw [List.filter_cons, if_neg (by simpa using ha), hn]
      refine ⟨by simp, fun p y _ hp => by simp at hp, fun p y hp _ => ?_⟩
      cases p with
      | zero => simp at hp; omega
      | succ p =>
        simp only [List.getElem?_cons_succ] at hp
        have := hs2.1 y (List.mem_of_getElem? hp)
        omega
/-- The slots of a part lie from its beginning up to the next one's. -/
theorem pidx_at {l : List Nat} (hs : l.Pairwise (· < ·)) {x : Int} {m y : Nat} (hm : pidx l x = (m : Int)) : (l[m]? = some y → (y : Int) ≤ x) ∧ (l[m + 1]? = some y → x < (y : Int)) := by
  obtain ⟨_, h2, h3⟩ := cut_upTo hs x
  unfold pidx at hm
  constructor
  · intro hy
    have := h2 m y hy (by omega)
    omega
  · intro hy
    have := h3 (m + 1) y hy (by omega)
    omega
/-- From one slot to the next. -/
theorem pidx_step {l : List Nat} (hs : l.Pairwise (· < ·)) (k : Nat) : pidx l k = if l[(upTo l ((k : Int) - 1)).length]? = some k then pidx l ((k : Int) - 1) + 1 else pidx l ((k : Int) - 1) := by
  have hc := cut_upTo hs ((k : Int) - 1)
  rw [show (k : Int) - 1 + 1 = (k : Int) by omega] at hc
  have := upTo_cut hs hc
  unfold pidx
  rw [this, Int.toNat_natCast]
  by_cases h : l[(upTo l ((k : Int) - 1)).length]? = some k
  · rw [if_pos ⟨h, by omega⟩, if_pos h]
    omega
  · rw [if_neg (fun e => h e.1), if_neg h]
theorem pidx_low {l : List Nat} : pidx l (-1) = -1 := by
  unfold pidx upTo
  rw [List.filter_eq_nil_iff.2 (by intro a _; simp; omega)]
  rfl
theorem pidx_high {l : List Nat} {n : Nat} (h : ∀ x ∈ l, x < n) : pidx l ((n : Int) - 1) = (l.length : Int) - 1 := by
  unfold pidx upTo
  rw [List.filter_eq_self.2 (by intro a ha; have := h a ha; simp; omega)]
theorem pidx_lt {l : List Nat} (x : Int) : pidx l x < (l.length : Int) := by
  have := List.length_filter_le (fun y : Nat => decide ((y : Int) ≤ x)) l
  unfold pidx upTo
  omega
theorem pidx_nonneg {l : List Nat} (h0 : l[0]? = some 0) {x : Int} (hx : 0 ≤ x) : 0 ≤ pidx l x := by
  have : (0 : Nat) ∈ upTo l x := by
    unfold upTo
    exact List.mem_filter.2 ⟨List.mem_of_getElem? h0, by simpa using hx⟩
  have := List.length_pos_of_mem this
  unfold pidx
  omega
theorem parts_lt {f : Nat → In} {n x : Nat} (h : x ∈ partsL f n) : x < n := by
  unfold partsL at h
  simpa using (List.mem_filter.1 h).1
end Go.Proofs.Ytpoliblfgioocaa
