/-
  finder and its closure: the place of a slot's part.
-/
import Derived.Test.YtpoliblfgioocaaSearch
namespace Go.Proofs.Ytpoliblfgioocaa
open Go.RowKit

/-- How many of the numbers are not above x. -/
def upTo (l : List Nat) (x : Int) : List Nat := l.filter fun y : Nat => decide ((y : Int) ≤ x)
def pidx (l : List Nat) (x : Int) : Int := ((upTo l x).length : Int) - 1
theorem upTo_cut {l : List Nat} {x : Int} {i : Nat} (hs : l.Pairwise (· < ·)) (h : CutAt l x i) : ((upTo l x).length : Int) = if l[i]? = some x.toNat ∧ 0 ≤ x then (i : Int) + 1 else i := by
  obtain ⟨h1, h2, h3⟩ := h
  have hA : ∀ y ∈ l.take i, (y : Int) < x := by
    intro y hy
    obtain ⟨p, hp⟩ := List.mem_iff_getElem?.1 hy
    have hpi : p < i := by
      have := (List.getElem?_eq_some_iff.1 hp).1
      simp at this
      omega
    rw [List.getElem?_take_of_lt hpi] at hp
    exact h2 p y hp hpi
  have e : upTo l x = l.take i ++ (l.drop i).filter fun y : Nat => decide ((y : Int) ≤ x) := by
    unfold upTo
    conv => lhs; rw [← List.take_append_drop i l]
    rw [List.filter_append, List.filter_eq_self.2]
    intro y hy
    have := hA y hy
    simp
    omega
  have hd : l.drop i = [] ∨ ∃ y t, l.drop i = y :: t := by
    cases l.drop i with
    | nil => exact Or.inl rfl
    | cons y t => exact Or.inr ⟨y, t, rfl⟩
  rw [e, List.length_append, List.length_take, Nat.min_eq_left h1]
  rcases hd with hd | ⟨y, t, hd⟩
  · rw [hd]
    have : l[i]? = none := by
      rw [List.getElem?_eq_none_iff]
      have := List.drop_eq_nil_iff.1 hd
      exact this
    rw [if_neg (by rw [this]; simp)]
    simp
  · have hi : l[i]? = some y := by
      have : (l.drop i)[0]? = some y := by rw [hd]; rfl
      rwa [List.getElem?_drop, Nat.add_zero] at this
    have hy := h3 i y hi (by omega)
    have hpw : (y :: t).Pairwise (· < ·) := by
      rw [← hd]
      exact hs.sublist (List.drop_sublist i l)
    have ht := (List.pairwise_cons.1 hpw).1
    have hft : t.filter (fun y : Nat => decide ((y : Int) ≤ x)) = [] := by
      rw [List.filter_eq_nil_iff]
      intro z hz
      have := ht z hz
      simp
      omega
    rw [hd, List.filter_cons, hft]
    by_cases hyx : (y : Int) ≤ x
    · rw [if_pos (by simpa using hyx), if_pos ⟨by rw [hi]; congr 1; omega, by omega⟩]
      simp
    · rw [if_neg (by simpa using hyx), if_neg (by rw [hi]; rintro ⟨h, h'⟩; injection h with h; omega)]
      simp

set_option maxHeartbeats 800000 in
theorem finder_any (g : Option Nat) (n cap : Nat) (w : World) : Calls Try.prog 19 #[slV g n cap] w fun e w' => e = .returned (.func (.func 30) #[] #[.pointer (some ⟨w.heap.size, 0, none⟩)]) ∧ w' = w.alloc (.cells #[slV g n cap] 35) := by
  unfold slV
  go_enter Try.func19, Try.ntmps19
  go_wp2
  go_ret
  exact ⟨rfl, rfl⟩

def partOfV (N : Nat) : Value := .func (.func 30) #[] #[.pointer (some ⟨N, 0, none⟩)]
/-- A place in memory that holds a list of rising numbers. -/
def FindAt (w : World) (N : Nat) (l : List Nat) : Prop := ∃ g cap, w.cell? ⟨N, 0, none⟩ = some (slV g l.length cap) ∧ NumsAt w g cap l
theorem FindAt.touch {w w' : World} {N : Nat} {l : List Nat} (h : FindAt w N l) (ht : Touch [] w w') : FindAt w' N l := by
  obtain ⟨g, cap, h1, h2⟩ := h
  exact ⟨g, cap, ht.cell h1 (by simp), h2.touch ht (by simp)⟩
set_option maxHeartbeats 1600000 in
set_option maxRecDepth 100000 in
theorem partOf_any (N : Nat) (l : List Nat) (x : Int) (w : World) (hl : l.length ≤ 17592186044416) (h : FindAt w N l) (hs : l.Pairwise (· < ·)) :
    Calls Try.prog 30 #[.int .i64 x, .pointer (some ⟨N, 0, none⟩)] w fun e w' => e = .returned (.int .i64 (pidx l x)) ∧ w' = w := by
  obtain ⟨g, cap, h1, h2⟩ := h
  have HS := toHid (search_any g cap l x w (by omega) h2 hs)
  have HC := toHid (fun i h => upTo_cut (l := l) (x := x) (i := i) hs h)
  clear h2 hs
  unfold slV at h1 HS
  go_enter Try.func30, Try.ntmps30
  go_wp2_with fail
  refine Calls.mono HS.out ?_
  rintro e w ⟨⟨i, hi, rfl⟩, rfl⟩
  have hil := hi.1
  have hc := HC.out i hi
  clear hi HS HC
  by_cases hf : l[i]? = some x.toNat ∧ 0 ≤ x
  · have hd : decide (l[i]? = some x.toNat ∧ 0 ≤ x) = true := by simpa using hf
    rw [if_pos hf] at hc
    have HC := toHid hc
    rw [hd]
    clear hc hf hd
    go_wp2
    go_ret
    refine ⟨ret_int ?_, rfl⟩
    unfold pidx
    rw [HC.out]
    omega
  · have hd : decide (l[i]? = some x.toNat ∧ 0 ≤ x) = false := decide_eq_false hf
    rw [if_neg hf] at hc
    have HC := toHid hc
    rw [hd]
    clear hc hf hd
    go_wp2
    go_ret
    refine ⟨ret_int ?_, rfl⟩
    unfold pidx
    rw [HC.out]

/-- The last of the numbers that is not above x is the beginning of its part. -/
theorem ofP_last (l : List Nat) (x : Int) : ofP l x = (upTo l x).getLast?.getD 0 := by
  unfold ofP upTo
  suffices H : ∀ (l : List Nat) (b : Nat), l.foldl (fun best p : Nat => if (p : Int) ≤ x then p else best) b = (l.filter fun y : Nat => decide ((y : Int) ≤ x)).getLast?.getD b from H l 0
  intro l
  induction l with
  | nil => intro b; rfl
  | cons a l ih =>
    intro b
    rw [List.foldl_cons, ih, List.filter_cons]
    by_cases ha : (a : Int) ≤ x
    · rw [if_pos ha, if_pos (by simpa using ha), List.getLast?_cons]
      cases (l.filter fun y : Nat => decide ((y : Int) ≤ x)).getLast? <;> rfl
    · rw [if_neg ha, if_neg (by simpa using ha)]
theorem upTo_le {l : List Nat} {x y : Int} (hs : l.Pairwise (· < ·)) (hxy : x ≤ y) : ∃ t, upTo l y = upTo l x ++ t ∧ ∀ z ∈ t, x < (z : Int) := by
  unfold upTo
  induction l with
  | nil => exact ⟨[], rfl, by simp⟩
  | cons a l ih =>
    have hs2 := List.pairwise_cons.1 hs
    obtain ⟨t, h1, h2⟩ := ih hs2.2
    by_cases hax : (a : Int) ≤ x
    · refine ⟨t, ?_, h2⟩
      rw [List.filter_cons, List.filter_cons, if_pos (by simp; omega), if_pos (by simpa using hax), h1]
      rfl
    · have hn : l.filter (fun y : Nat => decide ((y : Int) ≤ x)) = [] := by
        rw [List.filter_eq_nil_iff]
        intro z hz
        have := hs2.1 z hz
        simp
        omega
      refine ⟨(a :: l).filter fun z : Nat => decide ((z : Int) ≤ y), ?_, ?_⟩
      · conv => rhs; rw [List.filter_cons, if_neg (by simpa using hax), hn]
        rfl
      · intro z hz
        have hz2 := (List.mem_filter.1 hz).1
        rcases List.mem_cons.1 hz2 with rfl | hz3
        · omega
        · have := hs2.1 z hz3
          omega
theorem pidx_le {l : List Nat} (hs : l.Pairwise (· < ·)) (h0 : l[0]? = some 0) {x y : Int} (hx : 0 ≤ x) (hxy : x ≤ y) : pidx l x = pidx l y ↔ ofP l x = ofP l y := by
  obtain ⟨t, h1, h2⟩ := upTo_le hs hxy
  rw [ofP_last, ofP_last]
  unfold pidx
  rw [h1]
  have hne : upTo l x ≠ [] := by
    intro h
    have : (0 : Nat) ∈ upTo l x := by
      unfold upTo
      refine List.mem_filter.2 ⟨List.mem_of_getElem? h0, ?_⟩
      simpa using hx
    rw [h] at this
    cases this
  cases t with
  | nil => simp
  | cons a t =>
    constructor
    · intro h
      simp at h
      omega
    · intro h
      exfalso
      obtain ⟨u, hu⟩ : ∃ u, (upTo l x).getLast? = some u := ⟨_, List.getLast?_eq_some_getLast hne⟩
      have hux : (u : Int) ≤ x := by
        have := List.mem_of_getLast? hu
        unfold upTo at this
        simpa using (List.mem_filter.1 this).2
      obtain ⟨z, hz⟩ : ∃ z, (a :: t).getLast? = some z := ⟨_, List.getLast?_eq_some_getLast (by simp)⟩
      have hzx := h2 z (List.mem_of_getLast? hz)
      rw [List.getLast?_append, hz, hu] at h
      simp at h
      omega
theorem pidx_iff {l : List Nat} (hs : l.Pairwise (· < ·)) (h0 : l[0]? = some 0) {x y : Int} (hx : 0 ≤ x) (hy : 0 ≤ y) : pidx l x = pidx l y ↔ ofP l x = ofP l y := by
  by_cases hxy : x ≤ y
  · exact pidx_le hs h0 hx hxy
  · have := pidx_le hs h0 hy (show y ≤ x by omega)
    constructor
    · intro h; exact (this.1 h.symm).symm
    · intro h; exact (this.2 h.symm).symm
theorem parts_pair (f : Nat → In) (n : Nat) : (partsL f n).Pairwise (· < ·) := List.Pairwise.filter _ List.pairwise_lt_range
theorem parts_zero {f : Nat → In} {n : Nat} (h : 0 < n) : (partsL f n)[0]? = some 0 := by
  obtain ⟨m, rfl⟩ : ∃ m, n = m + 1 := ⟨n - 1, by omega⟩
  unfold partsL
  rw [List.range_succ_eq_map, List.filter_cons, if_pos (by simp [isPartB])]
  rfl
theorem parts_len (f : Nat → In) (n : Nat) : (partsL f n).length ≤ n := by
  have := List.length_filter_le (isPartB f n) (List.range n)
  simpa [partsL] using this
end Go.Proofs.Ytpoliblfgioocaa
