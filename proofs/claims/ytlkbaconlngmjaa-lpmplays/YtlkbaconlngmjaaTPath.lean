/-
  A key of prefixes as the row of its bits, and back.
-/
import Derived.Test.YtlkbaconlngmjaaRCut
namespace Go.Proofs.Ytlkbaconlngmjaa
open Go.RowKit

/-- A bit's number. -/
def bI (b : Bool) : Int := if b = true then 1 else 0
theorem bI_bd (b : Bool) : 0 ≤ bI b ∧ bI b ≤ 1 := by cases b <;> simp [bI]
theorem bI_of {x : Int} (h : 0 ≤ x ∧ x ≤ 1) : bI (decide (x = 1)) = x := by
  by_cases e : x = 1
  · rw [e]; rfl
  · obtain rfl : x = 0 := by omega
    rfl
/-- Bits put together, the highest first. -/
def accB (f : Nat → Bool) : Nat → Int
  | 0 => 0
  | k + 1 => accB f k * 2 + bI (f k)
theorem accB_congr {f g : Nat → Bool} : ∀ n, (∀ j, j < n → f j = g j) → accB f n = accB g n
  | 0, _ => rfl
  | n + 1, h => by unfold accB; rw [accB_congr n (fun j hj => h j (by omega)), h n (by omega)]
theorem accB_bd (f : Nat → Bool) : ∀ n, 0 ≤ accB f n ∧ accB f n < 2 ^ n
  | 0 => by simp [accB]
  | n + 1 => by
    have h1 := accB_bd f n
    have h2 := bI_bd (f n)
    unfold accB
    rw [Int.pow_succ]
    omega
theorem accB_tail {f : Nat → Bool} (m : Nat) : ∀ d, (∀ j, m ≤ j → j < m + d → f j = false) → accB f (m + d) = accB f m * 2 ^ d
  | 0, _ => by simp
  | d + 1, h => by
    rw [← Nat.add_assoc]
    show accB f (m + d) * 2 + bI (f (m + d)) = _
    rw [accB_tail m d (fun j h1 h2 => h j h1 (by omega)), h (m + d) (by omega) (by omega), Int.pow_succ, Int.mul_assoc]
    simp [bI]
theorem accB_div (f : Nat → Bool) (m : Nat) : ∀ d, accB f (m + d) / 2 ^ d = accB f m
  | 0 => by simp
  | d + 1 => by
    rw [← Nat.add_assoc, Int.pow_succ, Int.mul_comm, ← Int.ediv_ediv_of_nonneg (by omega)]
    have : accB f (m + d + 1) / 2 = accB f (m + d) := by
      show (accB f (m + d) * 2 + bI (f (m + d))) / 2 = _
      have := bI_bd (f (m + d))
      omega
    rw [this]
    exact accB_div f m d
theorem accB_bit (f : Nat → Bool) {m n : Nat} (h : m < n) : accB f n / 2 ^ (n - 1 - m) % 2 = bI (f m) := by
  have h1 := accB_div f (m + 1) (n - 1 - m)
  rw [show m + 1 + (n - 1 - m) = n by omega] at h1
  rw [h1]
  show (accB f m * 2 + bI (f m)) % 2 = _
  have := bI_bd (f m)
  omega
/-- One bit more, where none stands yet. -/
theorem accB_set {f g : Nat → Bool} {m n : Nat} (h : m < n) (h1 : ∀ j, j < m → f j = g j) (h2 : ∀ j, m < j → j < n → f j = false ∧ g j = false) (h3 : f m = false) : accB g n = accB f n + bI (g m) * 2 ^ (n - 1 - m) := by
  have e1 := accB_tail (f := f) (m + 1) (n - 1 - m) (fun j ha hb => (h2 j (by omega) (by omega)).1)
  have e2 := accB_tail (f := g) (m + 1) (n - 1 - m) (fun j ha hb => (h2 j (by omega) (by omega)).2)
  rw [show m + 1 + (n - 1 - m) = n by omega] at e1 e2
  have q1 : accB f (m + 1) = accB f m * 2 := by
    show accB f m * 2 + bI (f m) = _
    rw [h3]
    simp [bI]
  have q2 : accB g (m + 1) = accB f m * 2 + bI (g m) := by
    show accB g m * 2 + bI (g m) = _
    rw [accB_congr m (fun j hj => (h1 j hj).symm)]
  rw [e1, e2, q1, q2, Int.add_mul]
theorem accB_low {f : Nat → Bool} {m n : Nat} (h : m < n) (h2 : ∀ j, m ≤ j → j < n → f j = false) : accB f n % 2 ^ (n - m) = 0 := by
  have e1 := accB_tail (f := f) m (n - m) (fun j ha hb => h2 j (by omega) (by omega))
  rw [show m + (n - m) = n by omega] at e1
  rw [e1]
  exact Int.mul_emod_left _ _

/-- Byte i of a row of bits. -/
def byteB (p : List Bool) (i : Nat) : Int := accB (fun k => p.getD (8 * i + k) false) 8
theorem byteB_bd (p : List Bool) (i : Nat) : 0 ≤ byteB p i ∧ byteB p i ≤ 255 := by
  have := accB_bd (fun k => p.getD (8 * i + k) false) 8
  unfold byteB
  omega
def bytesP (p : List Bool) (n : Nat) : List Int := (List.range n).map (byteB p)
theorem bytesP_len (p : List Bool) (n : Nat) : (bytesP p n).length = n := by simp [bytesP]
theorem bytesP_get (p : List Bool) {n i : Nat} (h : i < n) : (bytesP p n).getD i 0 = byteB p i := by
  rw [List.getD_eq_getElem?_getD, bytesP, List.getElem?_map, List.getElem?_range h]
  rfl
/-- The key in form of a row of bits. -/
def keyP (p : List Bool) (n : Nat) : List Int := le4 (p.length : Int) ++ bytesP p n
theorem keyP_len (p : List Bool) (n : Nat) : (keyP p n).length = n + 4 := by
  unfold keyP
  rw [List.length_append, le4_len, bytesP_len]
  omega
theorem keyP_bd (p : List Bool) (n : Nat) : ∀ x ∈ keyP p n, 0 ≤ x ∧ x ≤ 255 := by
  intro x hx
  rcases List.mem_append.1 hx with hx | hx
  · exact le4_bd _ x hx
  · obtain ⟨i, _, rfl⟩ := List.mem_map.1 hx
    exact byteB_bd p i
theorem keyP_get (p : List Bool) {n i : Nat} (h : i < n) : (keyP p n).getD (4 + i) 0 = byteB p i := by
  rw [List.getD_eq_getElem?_getD, keyP, List.getElem?_append_right (by rw [le4_len]; omega), le4_len, show 4 + i - 4 = i by omega, ← List.getD_eq_getElem?_getD]
  exact bytesP_get p h
/-- The bits that count. -/
def pathP (bs : List Int) : List Bool := (List.range (keyNum bs).toNat).map fun i => decide (bitP bs i = 1)
theorem pathP_len (bs : List Int) : (pathP bs).length = (keyNum bs).toNat := by simp [pathP]
theorem pathP_get (bs : List Int) (i : Nat) : (pathP bs).getD i false = (decide (i < (keyNum bs).toNat) && decide (bitP bs i = 1)) := by
  rw [List.getD_eq_getElem?_getD, pathP, List.getElem?_map]
  by_cases h : i < (keyNum bs).toNat
  · rw [List.getElem?_range h]
    simp [h]
  · rw [List.getElem?_eq_none (by simpa using h)]
    simp [h]
theorem cutAcc_acc (bs : List Int) (i : Nat) : ∀ k, cutAcc bs i k = accB (fun k => (pathP bs).getD (8 * i + k) false) k
  | 0 => rfl
  | k + 1 => by
    unfold cutAcc accB
    rw [cutAcc_acc bs i k, pathP_get]
    by_cases h : ((8 * i + k : Nat) : Int) < keyNum bs
    · rw [if_pos h, decide_eq_true (show 8 * i + k < (keyNum bs).toNat by omega), Bool.true_and, bI_of (bitP_bd bs (8 * i + k))]
    · rw [if_neg h, decide_eq_false (show ¬ 8 * i + k < (keyNum bs).toNat by omega), Bool.false_and]
      rfl
theorem four_eq (x0 x1 x2 x3 : Int) (h0 : 0 ≤ x0 ∧ x0 ≤ 255) (h1 : 0 ≤ x1 ∧ x1 ≤ 255) (h2 : 0 ≤ x2 ∧ x2 ≤ 255) (h3 : 0 ≤ x3 ∧ x3 ≤ 255) (bs : List Int) :
    keyNum (x0 :: x1 :: x2 :: x3 :: bs) = x0 + x1 * 256 + x2 * 65536 + x3 * 16777216 ∧ le4 (x0 + x1 * 256 + x2 * 65536 + x3 * 16777216) = [x0, x1, x2, x3] := by
  refine ⟨?_, ?_⟩
  · simp [keyNum, num]
  · rw [le4_eq]
    unfold byteOf
    simp only [List.cons.injEq, and_true]
    refine ⟨?_, ?_, ?_, ?_⟩ <;> omega
theorem le4_take {bs : List Int} (h4 : 4 ≤ bs.length) (h : ∀ x ∈ bs, 0 ≤ x ∧ x ≤ 255) : le4 (keyNum bs) = bs.take 4 := by
  match bs, h4 with
  | x0 :: x1 :: x2 :: x3 :: r, _ =>
    obtain ⟨e1, e2⟩ := four_eq x0 x1 x2 x3 (h _ (by simp)) (h _ (by simp)) (h _ (by simp)) (h _ (by simp)) r
    rw [e1, e2]
    rfl
theorem keyNum_le4 (v : Int) (h0 : 0 ≤ v) (h1 : v ≤ 4294967295) (l : List Int) : keyNum (le4 v ++ l) = v := by
  rw [le4_eq]
  have h := (four_eq (byteOf v 0) (byteOf v 1) (byteOf v 2) (byteOf v 3) (byteOf_bd v 0) (byteOf_bd v 1) (byteOf_bd v 2) (byteOf_bd v 3) l).1
  show keyNum (byteOf v 0 :: byteOf v 1 :: byteOf v 2 :: byteOf v 3 :: l) = v
  rw [h]
  unfold byteOf
  omega
theorem keyNum_bd {bs : List Int} (h : ∀ x ∈ bs, 0 ≤ x ∧ x ≤ 255) : 0 ≤ keyNum bs ∧ keyNum bs ≤ 4294967295 := by
  have := num_bd (fun j => bs.getD j 0) 4 (fun j _ => getD_bd h j)
  unfold keyNum
  omega
theorem keyNum_key (p : List Bool) (n : Nat) (h : p.length ≤ 1000) : keyNum (keyP p n) = p.length := keyNum_le4 _ (by omega) (by omega) _
/-- A key without the bits that don't count is the key of those that do. -/
theorem cutP_key {bs : List Int} (h4 : 4 ≤ bs.length) (h : ∀ x ∈ bs, 0 ≤ x ∧ x ≤ 255) : cutP bs = keyP (pathP bs) (bs.length - 4) := by
  unfold cutP cutTo keyP bytesP
  rw [pathP_len, Int.toNat_of_nonneg (keyNum_bd h).1, le4_take h4 h]
  congr 1
  refine List.map_congr_left fun i _ => ?_
  exact cutAcc_acc bs i 8
theorem bitP_key (p : List Bool) (n : Nat) {i : Nat} (h : i / 8 < n) : bitP (keyP p n) i = bI (p.getD i false) := by
  unfold bitP
  rw [keyP_get p h, byteB]
  have := accB_bit (fun k => p.getD (8 * (i / 8) + k) false) (m := i % 8) (n := 8) (by omega)
  rw [show 8 - 1 - i % 8 = 7 - i % 8 by omega] at this
  rw [this, show 8 * (i / 8) + i % 8 = i by omega]
theorem bI_one (b : Bool) : decide (bI b = 1) = b := by cases b <;> simp [bI]
theorem pathP_key (p : List Bool) {n : Nat} (h : p.length ≤ 8 * n) (hn : n ≤ 100) : pathP (keyP p n) = p := by
  refine List.ext_getElem? fun i => ?_
  unfold pathP
  rw [keyNum_key p n (by omega), Int.toNat_natCast, List.getElem?_map]
  by_cases hi : i < p.length
  · rw [List.getElem?_range hi, Option.map_some, bitP_key p n (by omega), bI_one, List.getD_eq_getElem?_getD, List.getElem?_eq_getElem hi]
    rfl
  · rw [List.getElem?_eq_none (by simpa using hi), List.getElem?_eq_none (by omega)]
    rfl
theorem keyP_inj {p q : List Bool} {n : Nat} (hp : p.length ≤ 8 * n) (hq : q.length ≤ 8 * n) (hn : n ≤ 100) (h : keyP p n = keyP q n) : p = q := by
  rw [← pathP_key p hp hn, h, pathP_key q hq hn]
/-- All the bits behind the number. -/
def bitsP (bs : List Int) (n : Nat) : List Bool := (List.range n).map fun i => decide (bitP bs i = 1)
theorem pathP_take (bs : List Int) {n : Nat} (h : (keyNum bs).toNat ≤ n) : pathP bs = (bitsP bs n).take (keyNum bs).toNat := by
  unfold pathP bitsP
  rw [← List.map_take, List.take_range, Nat.min_eq_left h]
theorem bitP_drop (bs cs : List Int) (h : cs.drop 4 = bs.drop 4) (i : Nat) : bitP cs i = bitP bs i := by
  unfold bitP
  have e : ∀ l : List Int, l.getD (4 + i / 8) 0 = (l.drop 4).getD (i / 8) 0 := fun l => by
    rw [List.getD_eq_getElem?_getD, List.getD_eq_getElem?_getD, List.getElem?_drop]
  rw [e, e, h]
/-- Of a key y in form: does it begin the key bs? -/
theorem begins_iff {p : List Bool} {bs : List Int} {n : Nat} (hl : bs.length = n + 4) (h : ∀ x ∈ bs, 0 ≤ x ∧ x ≤ 255) (hp : p.length ≤ (keyNum bs).toNat) (hn : n ≤ 100) (hk : keyNum bs ≤ 8 * (n : Int)) :
    cutP ((keyP p n).take 4 ++ bs.drop 4) = keyP p n ↔ p = (pathP bs).take p.length := by
  have ht : (keyP p n).take 4 = le4 (p.length : Int) := by
    unfold keyP
    rw [List.take_append_of_le_length (by rw [le4_len]; omega), List.take_of_length_le (by rw [le4_len]; omega)]
  rw [ht]
  generalize hc : le4 (p.length : Int) ++ bs.drop 4 = cs
  have hcl : cs.length = n + 4 := by
    rw [← hc, List.length_append, le4_len, List.length_drop]
    omega
  have hcb : ∀ x ∈ cs, 0 ≤ x ∧ x ≤ 255 := by
    intro x hx
    rw [← hc] at hx
    rcases List.mem_append.1 hx with hx | hx
    · exact le4_bd _ x hx
    · exact h x (List.mem_of_mem_drop hx)
  have hcd : cs.drop 4 = bs.drop 4 := by
    rw [← hc, List.drop_append_of_le_length (by rw [le4_len]; omega), List.drop_of_length_le (by rw [le4_len]; omega)]
    rfl
  have hkb := keyNum_bd h
  have hkc : keyNum cs = p.length := by
    rw [← hc]
    exact keyNum_le4 _ (by omega) (by omega) _
  rw [cutP_key (by omega) hcb, hcl, Nat.add_sub_cancel]
  have e1 : pathP cs = (pathP bs).take p.length := by
    rw [pathP_take bs (Nat.le_refl _), List.take_take, Nat.min_eq_left (by omega), pathP_take cs (n := (keyNum bs).toNat) (by omega), hkc, Int.toNat_natCast]
    congr 1
    unfold bitsP
    refine List.map_congr_left fun i _ => ?_
    rw [bitP_drop bs cs hcd i]
  constructor
  · intro e
    rw [← e1]
    have : (pathP cs).length ≤ 8 * n := by
      rw [pathP_len, hkc]
      omega
    exact (keyP_inj this (by omega) hn e).symm
  · intro e
    rw [e1, ← e]
end Go.Proofs.Ytlkbaconlngmjaa
