/-
  Two programs, one behind the other, as facts on their slots. Of no walk.
-/
import Derived.Test.YtpoliblfgioocaaGood
import Derived.Test.YtpoliblfgioocaaWas
namespace Go.Proofs.Ytpoliblfgioocaa
open Go.RowKit

def joinF (f g : Nat → In) (n : Nat) (j : Nat) : In := if j < n then f j else g (j - n)
theorem join_lt {f g : Nat → In} {n j : Nat} (h : j < n) : joinF f g n j = f j := if_pos h
theorem join_ge (f g : Nat → In) (n j : Nat) : joinF f g n (n + j) = g j := by
  rw [joinF, if_neg (by omega)]
  congr 1
  omega
theorem plain_left {f g : Nat → In} {n m k : Nat} (hk : k < n) (he : errP f n k = 0) : plainOf (joinF f g n) (n + m) k = plainOf f n k := by
  have hl := plain_len hk he
  unfold errP at he
  unfold lenP at hl
  unfold plainOf at he hl ⊢
  rw [join_lt hk]
  by_cases h1 : knownB (f k).op = false
  · rw [if_pos h1, if_pos h1]
  · rw [if_neg h1] at he hl ⊢
    rw [if_neg h1]
    by_cases h2 : badB (f k) = true
    · rw [if_pos h2, if_pos h2]
    · rw [if_neg h2] at he hl ⊢
      rw [if_neg h2]
      by_cases h3 : wideB (f k).op = false
      · rw [if_pos h3, if_pos h3]
      · rw [if_neg h3] at he hl ⊢
        rw [if_neg h3]
        by_cases h4 : k + 1 = n
        · rw [if_pos h4] at he
          cases he
        · rw [if_neg h4] at he ⊢
          rw [if_neg (show ¬ k + 1 = n + m by omega), join_lt (show k + 1 < n by omega)]
theorem plain_right (f g : Nat → In) (n m k : Nat) : plainOf (joinF f g n) (n + m) (n + k) = plainOf g m k := by
  unfold plainOf
  rw [join_ge, Nat.add_assoc, join_ge]
  have : (n + (k + 1) = n + m) = (k + 1 = m) := by
    apply propext
    omega
  simp only [this]
theorem left_all {f g : Nat → In} {n m : Nat} : ∀ d k, n - k ≤ d → k ≤ n → wrongFrom f n k = none →
    begFrom (joinF f g n) (n + m) k = begFrom f n k ++ begFrom (joinF f g n) (n + m) n ∧ wrongFrom (joinF f g n) (n + m) k = wrongFrom (joinF f g n) (n + m) n := by
  intro d
  induction d with
  | zero =>
    intro k hd hk _
    obtain rfl : k = n := by omega
    rw [beg_stop (f := f) (by omega)]
    exact ⟨rfl, rfl⟩
  | succ d ih =>
    intro k hd hk hw
    by_cases hkn : k = n
    · subst hkn
      rw [beg_stop (f := f) (by omega)]
      exact ⟨rfl, rfl⟩
    · have hlt : k < n := by omega
      obtain ⟨he, hf, hw2⟩ := wrong_none hlt hw
      have hl := plain_len hlt he
      have hp := plain_left (g := g) (m := m) hlt he
      have he2 : errP (joinF f g n) (n + m) k = 0 := by unfold errP; rw [hp]; exact he
      have hl2 : lenP (joinF f g n) (n + m) k = lenP f n k := by unfold lenP; rw [hp]
      obtain ⟨i1, i2⟩ := ih (k + lenP f n k) (by omega) (by omega) hw2
      rw [beg_step (by omega) he2, beg_step hlt he, hl2, i1, wrong_step (by omega) he2 (by rw [join_lt hlt]; exact hf), hl2, i2]
      exact ⟨rfl, rfl⟩
theorem right_all {f g : Nat → In} {n m : Nat} : ∀ d k, m - k ≤ d → begFrom (joinF f g n) (n + m) (n + k) = (begFrom g m k).map (n + ·) ∧ (wrongFrom g m k = none → wrongFrom (joinF f g n) (n + m) (n + k) = none) := by
  intro d
  induction d with
  | zero =>
    intro k hd
    rw [beg_stop (by omega), beg_stop (by omega)]
    exact ⟨rfl, fun _ => wrong_end (by omega)⟩
  | succ d ih =>
    intro k hd
    have hp := plain_right f g n m k
    have he2 : errP (joinF f g n) (n + m) (n + k) = errP g m k := by unfold errP; rw [hp]
    have hl2 : lenP (joinF f g n) (n + m) (n + k) = lenP g m k := by unfold lenP; rw [hp]
    by_cases hk : k < m
    · by_cases he : errP g m k = 0
      · have hl := plain_len hk he
        obtain ⟨i1, i2⟩ := ih (k + lenP g m k) (by omega)
        rw [beg_step (by omega) (by rw [he2]; exact he), beg_step hk he, hl2, Nat.add_assoc, i1]
        refine ⟨rfl, fun hw => ?_⟩
        obtain ⟨_, hf, hw2⟩ := wrong_none hk hw
        rw [wrong_step (by omega) (by rw [he2]; exact he) (by rw [join_ge]; exact hf), hl2, Nat.add_assoc]
        exact i2 hw2
      · rw [beg_stop (fun h => he (by rw [← he2]; exact h.2)), beg_stop (fun h => he h.2)]
        exact ⟨rfl, fun hw => absurd (wrong_none hk hw).1 he⟩
    · rw [beg_stop (by omega), beg_stop (by omega)]
      exact ⟨rfl, fun _ => wrong_end (by omega)⟩
theorem beg_join {f g : Nat → In} {n m : Nat} (hw : wrongL f n = none) : begL (joinF f g n) (n + m) = begL f n ++ (begL g m).map (n + ·) := by
  have h1 := (left_all (g := g) (m := m) n 0 (by omega) (by omega) hw).1
  have h2 := (right_all (f := f) (n := n) (g := g) (m := m) m 0 (by omega)).1
  unfold begL
  rw [h1]
  rw [Nat.add_zero] at h2
  rw [h2]
theorem wrong_join {f g : Nat → In} {n m : Nat} (hw : wrongL f n = none) (hw2 : wrongL g m = none) : wrongL (joinF f g n) (n + m) = none := by
  have h1 := (left_all (g := g) (m := m) n 0 (by omega) (by omega) hw).2
  have h2 := (right_all (f := f) (n := n) (g := g) (m := m) m 0 (by omega)).2 hw2
  unfold wrongL
  rw [h1]
  rw [Nat.add_zero] at h2
  exact h2
theorem to_shift (i : In) (k d : Int) : toP i (d + k) = (toP i k).map (d + ·) := by
  unfold toP
  split
  · simp; omega
  · split
    · rfl
    · simp; omega
theorem ofP_zero (x : Int) : ofP [0] x = 0 := by
  unfold ofP
  simp
theorem refEnd_const (f : Nat → In) : ∀ l : List Nat, refEnd f [0] l = match l.getLast? with
    | none => none
    | some a => if closeB (f a) = true then none else some a
  | [] => rfl
  | [a] => rfl
  | a :: b :: t => by
    rw [refEnd, if_pos (by rw [ofP_zero, ofP_zero]), refEnd_const f (b :: t), List.getLast?_cons_cons]

theorem parts_one {f : Nat → In} {n : Nat} (h0 : 0 < n) (h : (partsL f n).length ≤ 1) : partsL f n = [0] := by
  have hz := parts_zero (f := f) h0
  match hp : partsL f n with
  | [] => rw [hp] at hz; cases hz
  | [a] => rw [hp] at hz; simp at hz; rw [hz]
  | a :: b :: t => rw [hp] at h; simp at h
theorem parts_join {f g : Nat → In} {n m : Nat} (h0 : 0 < n) (hw : wrongL f n = none) (hs : ∀ k ∈ begL f n, strayB f n k = false) (hp : partsL f n = [0]) (hb : ∀ j, j < m → partB (g j) = false) : partsL (joinF f g n) (n + m) = [0] := by
  apply parts_one (by omega)
  have hall : ∀ x ∈ partsL (joinF f g n) (n + m), x = 0 := by
    intro x hx
    unfold partsL at hx
    obtain ⟨_, hx⟩ := List.mem_filter.1 hx
    unfold isPartB at hx
    simp only [decide_eq_true_eq] at hx
    rcases hx with rfl | ⟨k, hk, h1, h2⟩
    · rfl
    · rw [beg_join hw] at hk
      rcases List.mem_append.1 hk with hk | hk
      · have hkn := begL_lt hk
        have ht := (tgt_lt h2).2
        rw [join_lt hkn] at h1 ht
        have hsk := hs k hk
        simp only [strayB, ht, Bool.not_eq_eq_eq_not, Bool.not_false, decide_eq_true_eq] at hsk
        obtain ⟨y, hy, e⟩ := hsk
        have : y = x := by omega
        subst this
        have hyn := begL_lt hy
        have hm : y ∈ partsL f n := by
          unfold partsL
          refine List.mem_filter.2 ⟨by simpa using hyn, ?_⟩
          unfold isPartB
          exact decide_eq_true (Or.inr ⟨k, hk, h1, tgt_of ht hyn⟩)
        rw [hp] at hm
        simpa using hm
      · obtain ⟨j, hj, rfl⟩ := List.mem_map.1 hk
        rw [join_ge, hb j (begL_lt hj)] at h1
        cases h1
  have hpw := parts_pair (joinF f g n) (n + m)
  match hq : partsL (joinF f g n) (n + m) with
  | [] => simp
  | [a] => simp
  | a :: b :: t =>
    rw [hq] at hall hpw
    have h1 := hall a (by simp)
    have h2 := hall b (by simp)
    have := (List.pairwise_cons.1 hpw).1 b (by simp)
    omega
theorem good_join {f g : Nat → In} {n m : Nat} (hf : (checkP f n).2 = 0) (hg : (checkP g m).2 = 0) (hN : n + m ≤ 256) (hpf : (partsL f n).length ≤ 1) (hpg : (partsL g m).length ≤ 1) (hb : ∀ j, j < m → partB (g j) = false) :
    (checkP (joinF f g n) (n + m)).2 = 0 := by
  obtain ⟨f0, _, fw, fs, _, _⟩ := good_of hf
  obtain ⟨g0, _, gw, gs, _, ge⟩ := good_of hg
  have hp := parts_join (g := g) (m := m) f0 fw fs (parts_one f0 hpf) hb
  have hbj := beg_join (g := g) (m := m) fw
  refine good_back (by omega) hN (wrong_join fw gw) ?_ ?_ ?_
  · intro k hk
    have hk0 := hk
    rw [hbj] at hk
    rcases List.mem_append.1 hk with hk | hk
    · have hkn := begL_lt hk
      have hsk := fs k hk
      unfold strayB at hsk ⊢
      rw [join_lt hkn]
      cases ht : toP (f k) k with
      | none => rfl
      | some t =>
        rw [ht] at hsk
        simp only [Bool.not_eq_eq_eq_not, Bool.not_false, decide_eq_true_eq] at hsk ⊢
        obtain ⟨y, hy, e⟩ := hsk
        exact ⟨y, by rw [hbj]; exact List.mem_append.2 (Or.inl hy), e⟩
    · obtain ⟨j, hj, rfl⟩ := List.mem_map.1 hk
      have hsk := gs j hj
      unfold strayB at hsk ⊢
      rw [join_ge, Int.natCast_add, to_shift]
      cases ht : toP (g j) j with
      | none => rfl
      | some t =>
        rw [ht] at hsk
        simp only [Option.map_some, Bool.not_eq_eq_eq_not, Bool.not_false, decide_eq_true_eq] at hsk ⊢
        obtain ⟨y, hy, e⟩ := hsk
        exact ⟨n + y, by rw [hbj]; exact List.mem_append.2 (Or.inr (List.mem_map.2 ⟨y, hy, rfl⟩)), by omega⟩
  · intro k _
    unfold crossB
    rw [hp]
    cases toP (joinF f g n k) k with
    | none => simp
    | some t => simp [ofP_zero]
  · rw [hp, refEnd_const, hbj]
    rw [parts_one g0 hpg, refEnd_const] at ge
    rw [List.getLast?_append, List.getLast?_map]
    cases hl : (begL g m).getLast? with
    | none =>
      obtain ⟨t, ht⟩ := wrong_head g0 gw
      rw [ht] at hl
      simp at hl
    | some a =>
      rw [hl] at ge
      simp only [Option.map_some, Option.some_or]
      rw [join_ge]
      replace ge : (if closeB (g a) = true then none else some a) = none := ge
      cases hc : closeB (g a)
      · rw [hc] at ge
        cases ge
      · rfl
theorem starts_join {f g : Nat → In} {n m i : Nat} (hw : wrongL f n = none) (hi : i < n) : startsB (joinF f g n) (n + m) i = startsB f n i := by
  unfold startsB inB
  rw [beg_join hw, decide_eq_decide]
  constructor
  · intro h
    rcases List.mem_append.1 h with h | h
    · exact h
    · obtain ⟨j, _, e⟩ := List.mem_map.1 h
      omega
  · intro h
    exact List.mem_append.2 (Or.inl h)
theorem row_join (f g : Nat → In) (n m : Nat) : rowCells f n ++ rowCells g m = rowCells (joinF f g n) (n + m) := by
  unfold rowCells
  rw [← List.flatMap_append]
  congr 1
  apply List.ext_getElem?
  intro j
  by_cases h1 : j < n
  · rw [List.getElem?_append_left (by simpa using h1)]
    simp [List.getElem?_range h1, List.getElem?_range (show j < n + m by omega), join_lt h1]
  · by_cases h2 : j < n + m
    · rw [List.getElem?_append_right (by simp; omega)]
      simp only [List.length_map, List.length_range, List.getElem?_map]
      rw [List.getElem?_range (show j - n < m by omega), List.getElem?_range h2]
      simp only [Option.map_some]
      rw [joinF, if_neg h1]
    · rw [List.getElem?_eq_none (by simp; omega), List.getElem?_eq_none (by simp; omega)]
end Go.Proofs.Ytpoliblfgioocaa
