/-
  Slots filled from the first on; which of the keys begins another, bit by bit. (Of no world.)
-/
import Derived.Test.YtlkbaconlngmjaaTFirst
import Derived.Laws.BitsAllLaws
namespace Go.Proofs.Ytlkbaconlngmjaa
open Go.RowKit Go.Deep

/-- Slots filled from the first on. -/
def compL (ks : List (List Int)) : List (Option (List Int)) := ks.map some ++ List.replicate (16 - ks.length) none
theorem compL_len {ks : List (List Int)} (h : ks.length ≤ 16) : (compL ks).length = 16 := by
  unfold compL
  simp
  omega
theorem compL_get {ks : List (List Int)} {i : Nat} (h : i < ks.length) : (compL ks)[i]? = some (some ks[i]) := by
  unfold compL
  rw [List.getElem?_append_left (by simpa using h), List.getElem?_map, List.getElem?_eq_getElem h]
  rfl
theorem compL_none {ks : List (List Int)} {i : Nat} (h : ks.length ≤ i) : (compL ks).getD i none = none := by
  unfold compL
  rw [List.getD_eq_getElem?_getD, List.getElem?_append_right (by simpa using h), List.getElem?_replicate]
  split <;> rfl
theorem keysP_comp (ks : List (List Int)) : keysP (compL ks) = ks := by
  unfold keysP compL
  rw [List.filterMap_append, List.filterMap_map]
  have h1 : ks.filterMap (id ∘ some) = ks := by
    have : (id ∘ some : List Int → Option (List Int)) = some := rfl
    rw [this, List.filterMap_some]
  have h2 : (List.replicate (16 - ks.length) (none : Option (List Int))).filterMap id = [] := by
    rw [List.filterMap_eq_nil_iff]
    intro a ha
    rw [List.mem_replicate] at ha
    rw [ha.2]
    rfl
  rw [h1, h2, List.append_nil]
theorem compL_free {ks : List (List Int)} {f : Nat} (h : freeP (compL ks) = some f) (hl : ks.length ≤ 16) : f = ks.length ∧ ks.length < 16 := by
  unfold freeP at h
  rw [List.findIdx?_eq_some_iff_getElem] at h
  obtain ⟨h1, h2, h3⟩ := h
  rw [compL_len hl] at h1
  have hn : ks.length ≤ f := by
    by_cases e : f < ks.length
    · have h9 := compL_get e
      rw [List.getElem?_eq_getElem (by rw [compL_len hl]; exact h1)] at h9
      injection h9 with h9
      rw [h9] at h2
      cases h2
    · omega
  have hf : ¬ ks.length < f := fun e => by
    have h4 := h3 ks.length e
    have h5 := compL_none (ks := ks) (Nat.le_refl _)
    rw [List.getD_eq_getElem?_getD, List.getElem?_eq_getElem (by rw [compL_len hl]; omega)] at h5
    simp only [Option.getD_some] at h5
    rw [h5] at h4
    exact h4 rfl
  exact ⟨by omega, by omega⟩
theorem compL_set {ks : List (List Int)} (bs : List Int) (h : ks.length < 16) : (compL ks).set ks.length (some bs) = compL (ks ++ [bs]) := by
  unfold compL
  rw [List.set_append_right _ _ (by simp), List.length_map, Nat.sub_self]
  obtain ⟨q, hq⟩ : ∃ q, 16 - ks.length = q + 1 := ⟨16 - ks.length - 1, by omega⟩
  rw [hq, List.replicate_succ, List.set_cons_zero, List.map_append, List.length_append, List.append_assoc]
  simp only [List.length_cons, List.length_nil]
  rw [show 16 - (ks.length + (0 + 1)) = q by omega]
  rfl
theorem put_comp (n : Nat) {ks : List (List Int)} (h : ks.length ≤ 16) (bs : List Int) : ∃ ks', (putL n (compL ks) bs 0).2 = compL ks' ∧ ks'.length ≤ 16 := by
  unfold putL
  cases fitsK bs n with
  | false => exact ⟨ks, rfl, h⟩
  | true =>
    rw [if_pos rfl, if_neg (by omega)]
    cases sameP (compL ks) (keyP (pathP bs) n) with
    | some i => exact ⟨ks, by dsimp only; rw [if_neg (by omega)], h⟩
    | none =>
      dsimp only
      rw [if_neg (by omega)]
      cases hf : freeP (compL ks) with
      | none => exact ⟨ks, rfl, h⟩
      | some f =>
        obtain ⟨rfl, h16⟩ := compL_free hf h
        exact ⟨ks ++ [keyP (pathP bs) n], compL_set _ h16, by simp; omega⟩
theorem longTo_more {ks : List (List Int)} (bs : List Int) : ∀ d, longTo (compL ks) bs (ks.length + d) = longTo (compL ks) bs ks.length
  | 0 => rfl
  | d + 1 => by
    show longStep (compL ks) bs (longTo (compL ks) bs (ks.length + d)) (ks.length + d) = _
    unfold longStep
    rw [compL_none (Nat.le_add_right _ _)]
    rw [show skipP (compL ks) bs (longTo (compL ks) bs (ks.length + d)) none = true from rfl, if_pos rfl]
    exact longTo_more bs d

/-- Are the first j bits the same? -/
def begB (y bs : List Int) (j : Nat) : Bool := (List.range j).all fun b => decide (bitP y b = bitP bs b)
theorem begB_succ (y bs : List Int) (j : Nat) : begB y bs (j + 1) = (begB y bs j && decide (bitP y j = bitP bs j)) := by
  unfold begB
  rw [List.range_succ, List.all_append]
  simp
theorem beg_iff {p : List Bool} {bs : List Int} {n : Nat} (hl : bs.length = n + 4) (hb : ∀ x ∈ bs, 0 ≤ x ∧ x ≤ 255) (hp8 : p.length ≤ 8 * n) (hp : p.length ≤ (keyNum bs).toNat) (hn : n ≤ 100) (hk : keyNum bs ≤ 8 * (n : Int)) :
    cutP ((keyP p n).take 4 ++ bs.drop 4) = keyP p n ↔ begB (keyP p n) bs p.length = true := by
  rw [begins_iff hl hb hp hn hk]
  have hpl := pathP_len bs
  unfold begB
  rw [List.all_eq_true]
  constructor
  · intro h i hi
    have hi := List.mem_range.1 hi
    have h1 : p.getD i false = (pathP bs).getD i false := by
      have := congrArg (fun l => l.getD i false) h
      rw [this]
      show ((pathP bs).take p.length).getD i false = _
      rw [List.getD_eq_getElem?_getD, List.getD_eq_getElem?_getD, List.getElem?_take, if_pos hi]
    rw [pathP_get, decide_eq_true (show i < (keyNum bs).toNat by omega), Bool.true_and] at h1
    rw [decide_eq_true_iff, bitP_key p n (by omega), h1, bI_of (bitP_bd bs i)]
  · intro h
    refine List.ext_getElem? fun i => ?_
    rw [List.getElem?_take]
    by_cases hi : i < p.length
    · rw [if_pos hi]
      have h1 := h i (List.mem_range.2 hi)
      rw [decide_eq_true_iff, bitP_key p n (by omega)] at h1
      have h2 : p.getD i false = (pathP bs).getD i false := by
        rw [pathP_get, decide_eq_true (show i < (keyNum bs).toNat by omega), Bool.true_and, ← h1, bI_one]
      rw [List.getD_eq_getElem?_getD, List.getD_eq_getElem?_getD, List.getElem?_eq_getElem hi, List.getElem?_eq_getElem (show i < (pathP bs).length by omega)] at h2
      rw [List.getElem?_eq_getElem hi, List.getElem?_eq_getElem (show i < (pathP bs).length by omega)]
      exact congrArg some h2
    · rw [if_neg hi, List.getElem?_eq_none (by omega)]
/-- The longest so far, and where it is. -/
def bestI (l : List (Option (List Int))) : Option Nat → Int
  | none => -1
  | some i => keyNum ((l.getD i none).getD [])
theorem longStep_no {l : List (Option (List Int))} {bs y : List Int} {a : Option Nat} {i : Nat} (hy : l.getD i none = some y) (h : keyNum bs < keyNum y) : longStep l bs a i = a := by
  unfold longStep
  rw [hy, if_pos (by simp [skipP, h])]
theorem longStep_yes {l : List (Option (List Int))} {bs : List Int} {p : List Bool} {n i : Nat} {a : Option Nat} (hy : l.getD i none = some (keyP p n)) (hl : bs.length = n + 4) (hb : ∀ x ∈ bs, 0 ≤ x ∧ x ≤ 255) (hp8 : p.length ≤ 8 * n) (hp : p.length ≤ (keyNum bs).toNat) (hn : n ≤ 100) (hk : keyNum bs ≤ 8 * (n : Int)) :
    longStep l bs a i = if (begB (keyP p n) bs p.length && decide (bestI l a < (p.length : Int))) = true then some i else a := by
  have hky : keyNum (keyP p n) = p.length := keyNum_key p n (by omega)
  have hkb := keyNum_bd hb
  have hbi := beg_iff hl hb hp8 hp hn hk
  have hsk : skipP l bs a (some (keyP p n)) = !decide (bestI l a < (p.length : Int)) := by
    show (decide (keyNum bs < keyNum (keyP p n)) || match a with
      | none => false
      | some i => decide (keyNum (keyP p n) ≤ keyNum ((l.getD i none).getD []))) = _
    rw [hky, decide_eq_false (show ¬ keyNum bs < (p.length : Int) by omega), Bool.false_or]
    cases a with
    | none =>
      show false = !decide ((-1 : Int) < p.length)
      rw [decide_eq_true (by omega)]
      rfl
    | some j =>
      show decide ((p.length : Int) ≤ bestI l (some j)) = _
      by_cases e : bestI l (some j) < (p.length : Int)
      · rw [decide_eq_true e, decide_eq_false (by omega)]
        rfl
      · rw [decide_eq_false e, decide_eq_true (by omega)]
        rfl
  unfold longStep
  rw [hy, hsk]
  cases hd : decide (bestI l a < (p.length : Int)) with
  | false =>
    rw [Bool.and_false]
    rfl
  | true =>
    rw [Bool.and_true]
    show (if cutP ((keyP p n).take 4 ++ bs.drop 4) = keyP p n then some i else a) = _
    by_cases e : begB (keyP p n) bs p.length = true
    · rw [if_pos (hbi.2 e), if_pos e]
    · rw [if_neg (fun h => e (hbi.1 h)), if_neg e]
/-- The state of the law's search, k keys on. -/
def stA (n : Nat) (ks : List (List Int)) (bs : List Int) (k : Nat) : Option Nat := if fitsK bs n = true then longTo (compL ks) bs k else none
theorem stA_no {n : Nat} {ks : List (List Int)} {bs : List Int} (h : fitsK bs n = false) (k : Nat) : stA n ks bs k = none := by
  unfold stA
  rw [h]
  rfl
theorem stA_succ {n : Nat} {ks : List (List Int)} {bs : List Int} (h : fitsK bs n = true) (k : Nat) : stA n ks bs (k + 1) = longStep (compL ks) bs (stA n ks bs k) k := by
  unfold stA
  rw [if_pos h, if_pos h]
  rfl
theorem stA_end {n : Nat} {ks : List (List Int)} {bs : List Int} (hl : ks.length ≤ 16) : findL n (compL ks) bs = stA n ks bs ks.length := by
  unfold findL stA
  rw [compL_len hl]
  have := longTo_more (ks := ks) bs (16 - ks.length)
  rw [show ks.length + (16 - ks.length) = 16 by omega] at this
  rw [this]
/-- The law's own length of a key. -/
def lengthI (bs : List Int) : Int := if bs.getD 1 0 = 0 ∧ bs.getD 2 0 = 0 ∧ bs.getD 3 0 = 0 then bs.getD 0 0 else 1048576
theorem lengthI_num {bs : List Int} (hb : ∀ x ∈ bs, 0 ≤ x ∧ x ≤ 255) (n : Nat) (hn : n ≤ 12) : (keyNum bs ≤ 8 * (n : Int) → lengthI bs = keyNum bs) ∧ (¬ keyNum bs ≤ 8 * (n : Int) → 8 * (n : Int) < lengthI bs) := by
  have b0 := getD_bd hb 0
  have b1 := getD_bd hb 1
  have b2 := getD_bd hb 2
  have b3 := getD_bd hb 3
  have e : keyNum bs = bs.getD 0 0 + bs.getD 1 0 * 256 + bs.getD 2 0 * 65536 + bs.getD 3 0 * 16777216 := by
    unfold keyNum
    simp [num]
  unfold lengthI
  rw [e]
  constructor
  · intro h
    rw [if_pos (by omega)]
    omega
  · intro h
    split <;> omega
theorem lengthI_bd {bs : List Int} (hb : ∀ x ∈ bs, 0 ≤ x ∧ x ≤ 255) : 0 ≤ lengthI bs ∧ lengthI bs ≤ 1048576 := by
  have b0 := getD_bd hb 0
  unfold lengthI
  split <;> omega
theorem xor_bit (x y : Int) (s : Nat) (x0 : 0 ≤ x) (x1 : x ≤ 255) (y0 : 0 ≤ y) (y1 : y ≤ 255) : (bits .xor .u8 x y / 2 ^ s % 2 == 0) = decide (x / 2 ^ s % 2 = y / 2 ^ s % 2) := by
  obtain ⟨A, rfl⟩ := Int.eq_ofNat_of_zero_le x0
  obtain ⟨B, rfl⟩ := Int.eq_ofNat_of_zero_le y0
  rw [u8_xor_nat A B (by omega) (by omega)]
  have e : ∀ N : Nat, ((N : Nat) : Int) / 2 ^ s % 2 = ((N / 2 ^ s % 2 : Nat) : Int) := fun N => by
    rw [Int.natCast_emod, Int.natCast_ediv, Int.natCast_pow]
    rfl
  have hx := Nat.testBit_xor A B s
  rw [Nat.testBit_eq_decide_div_mod_eq, Nat.testBit_eq_decide_div_mod_eq, Nat.testBit_eq_decide_div_mod_eq] at hx
  rw [e, e, e]
  have ha : A / 2 ^ s % 2 = 0 ∨ A / 2 ^ s % 2 = 1 := by omega
  have hb : B / 2 ^ s % 2 = 0 ∨ B / 2 ^ s % 2 = 1 := by omega
  have hc : (A ^^^ B) / 2 ^ s % 2 = 0 ∨ (A ^^^ B) / 2 ^ s % 2 = 1 := by omega
  rcases ha with ha | ha <;> rcases hb with hb | hb <;> rcases hc with hc | hc <;> rw [ha, hb, hc] at hx <;> rw [ha, hb, hc] <;> first | rfl | (exfalso; revert hx; decide)
end Go.Proofs.Ytlkbaconlngmjaa
