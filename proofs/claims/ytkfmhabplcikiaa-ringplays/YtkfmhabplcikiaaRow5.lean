/-
  Rows of structs: each element its own cells, one behind the other. Of no program.
-/
import Derived.Test.YtkfmhabplcikiaaKit
namespace Go.Proofs.Ytkfmhabplcikiaa
open Go.RowKit

theorem flat_length {α : Type} (c : α → List Value) (sz : Nat) (hc : ∀ a, (c a).length = sz) : ∀ l : List α, (l.flatMap c).length = l.length * sz
  | [] => by simp
  | a :: l => by rw [List.flatMap_cons, List.length_append, hc, flat_length c sz hc l, List.length_cons, Nat.add_mul]; omega
theorem flat_get {α : Type} (c : α → List Value) (sz : Nat) (hc : ∀ a, (c a).length = sz) : ∀ (l : List α) (i r : Nat) (a : α), r < sz → l[i]? = some a → (l.flatMap c)[i * sz + r]? = (c a)[r]?
  | [], i, r, a, _, h => by simp at h
  | x :: l, 0, r, a, hr, h => by
    simp at h
    subst h
    rw [List.flatMap_cons, Nat.zero_mul, Nat.zero_add, List.getElem?_append_left (by rw [hc]; exact hr)]
  | x :: l, i + 1, r, a, hr, h => by
    rw [List.flatMap_cons, List.getElem?_append_right (by rw [hc, Nat.add_mul]; omega), hc, show (i + 1) * sz + r - sz = i * sz + r by rw [Nat.add_mul]; omega]
    exact flat_get c sz hc l i r a hr (by simpa using h)
theorem flat_take {α : Type} (c : α → List Value) (sz : Nat) (hc : ∀ a, (c a).length = sz) : ∀ (l : List α) (i : Nat), (l.flatMap c).take (i * sz) = (l.take i).flatMap c
  | [], i => by simp
  | x :: l, 0 => by simp
  | x :: l, i + 1 => by
    rw [List.take_succ_cons, List.flatMap_cons, List.flatMap_cons, ← flat_take c sz hc l i, Nat.add_mul, Nat.one_mul, Nat.add_comm, ← hc x, List.take_length_add_append]
theorem flat_drop {α : Type} (c : α → List Value) (sz : Nat) (hc : ∀ a, (c a).length = sz) : ∀ (l : List α) (i : Nat), (l.flatMap c).drop (i * sz) = (l.drop i).flatMap c
  | [], i => by simp
  | x :: l, 0 => by simp
  | x :: l, i + 1 => by
    rw [List.drop_succ_cons, List.flatMap_cons, ← flat_drop c sz hc l i, Nat.add_mul, Nat.one_mul, Nat.add_comm, ← hc x, List.drop_length_add_append]
/-- One element laid anew. -/
theorem flat_set {α : Type} (c : α → List Value) (sz : Nat) (hc : ∀ a, (c a).length = sz) (l : List α) (i : Nat) (x : α) (hi : i < l.length) :
    (l.flatMap c).take (i * sz) ++ c x ++ (l.flatMap c).drop (i * sz + sz) = (l.set i x).flatMap c := by
  rw [flat_take c sz hc, show i * sz + sz = (i + 1) * sz by rw [Nat.add_mul]; omega, flat_drop c sz hc, List.set_eq_take_append_cons_drop, if_pos hi]
  simp [List.flatMap_append, List.flatMap_cons]

theorem set_at (pre post : List Value) (a v : Value) (o : Nat) (h : o = pre.length) : (pre ++ a :: post).set o v = pre ++ v :: post := by
  subst h
  simp
theorem set5 (cs : List Value) (o : Nat) (h : o + 5 ≤ cs.length) (v0 v1 v2 v3 v4 : Value) :
    ((((cs.set o v0).set (o + 1) v1).set (o + 2) v2).set (o + 3) v3).set (o + 4) v4 = cs.take o ++ [v0, v1, v2, v3, v4] ++ cs.drop (o + 5) := by
  have hl : (cs.take o).length = o := by simp; omega
  obtain ⟨a0, a1, a2, a3, a4, rest, hd⟩ : ∃ a0 a1 a2 a3 a4 rest, cs.drop o = a0 :: a1 :: a2 :: a3 :: a4 :: rest := by
    have : 5 ≤ (cs.drop o).length := by rw [List.length_drop]; omega
    match cs.drop o, this with
    | a0 :: a1 :: a2 :: a3 :: a4 :: rest, _ => exact ⟨a0, a1, a2, a3, a4, rest, rfl⟩
  have hr : cs.drop (o + 5) = rest := by rw [← List.drop_drop, hd]; rfl
  have hcs : cs = cs.take o ++ a0 :: a1 :: a2 :: a3 :: a4 :: rest := by rw [← hd, List.take_append_drop]
  rw [hr]
  generalize cs.take o = pre at *
  subst hcs
  rw [set_at pre _ a0 v0 o hl.symm]
  rw [show pre ++ v0 :: a1 :: a2 :: a3 :: a4 :: rest = (pre ++ [v0]) ++ a1 :: a2 :: a3 :: a4 :: rest by simp, set_at (pre ++ [v0]) _ a1 v1 _ (by simp; omega)]
  rw [show (pre ++ [v0]) ++ v1 :: a2 :: a3 :: a4 :: rest = (pre ++ [v0, v1]) ++ a2 :: a3 :: a4 :: rest by simp, set_at (pre ++ [v0, v1]) _ a2 v2 _ (by simp; omega)]
  rw [show (pre ++ [v0, v1]) ++ v2 :: a3 :: a4 :: rest = (pre ++ [v0, v1, v2]) ++ a3 :: a4 :: rest by simp, set_at (pre ++ [v0, v1, v2]) _ a3 v3 _ (by simp; omega)]
  rw [show (pre ++ [v0, v1, v2]) ++ v3 :: a4 :: rest = (pre ++ [v0, v1, v2, v3]) ++ a4 :: rest by simp, set_at (pre ++ [v0, v1, v2, v3]) _ a4 v4 _ (by simp; omega)]
  simp

/-- A row whose element i is laid anew, cell by cell. -/
theorem Blk.set5 {w : World} {b : Nat} {cs : List Value} {t : TypeId} (h : Blk w b cs t) (o : Nat) (ho : o + 5 ≤ cs.length) (v0 v1 v2 v3 v4 : Value) :
    Blk (((((w.setCell ⟨b, o, none⟩ v0).setCell ⟨b, o + 1, none⟩ v1).setCell ⟨b, o + 2, none⟩ v2).setCell ⟨b, o + 3, none⟩ v3).setCell ⟨b, o + 4, none⟩ v4) b (cs.take o ++ [v0, v1, v2, v3, v4] ++ cs.drop (o + 5)) t := by
  rw [← Ytkfmhabplcikiaa.set5 cs o ho]
  exact ((((h.setCell o v0).setCell (o + 1) v1).setCell (o + 2) v2).setCell (o + 3) v3).setCell (o + 4) v4
theorem Touch.set5 {S : List Nat} {a w : World} (h : Touch S a w) (b o : Nat) (v0 v1 v2 v3 v4 : Value) (hp : b ∈ S ∨ a.heap.size ≤ b) :
    Touch S a (((((w.setCell ⟨b, o, none⟩ v0).setCell ⟨b, o + 1, none⟩ v1).setCell ⟨b, o + 2, none⟩ v2).setCell ⟨b, o + 3, none⟩ v3).setCell ⟨b, o + 4, none⟩ v4) :=
  ((((h.setCell _ _ hp).setCell _ _ hp).setCell _ _ hp).setCell _ _ hp).setCell _ _ hp

theorem made_flat {α : Type} (c : α → List Value) (sz : Nat) (hc : ∀ a, (c a).length = sz) (hs : 0 < sz) (x : α) (z : Array Value) (hz : c x = z.toList) (n : Nat) :
    madeCells z (n * sz) = ((List.replicate n x).flatMap c).toArray := by
  have hzs : z.size = sz := by rw [← hc x, hz]; simp
  apply Array.ext_getElem?
  intro j
  rw [show ((List.replicate n x).flatMap c).toArray[j]? = ((List.replicate n x).flatMap c)[j]? by simp]
  by_cases hj : j < n * sz
  · have hd := Nat.div_add_mod j sz
    have hlt : j / sz < n := Nat.div_lt_of_lt_mul (by rw [Nat.mul_comm]; exact hj)
    have hm := Nat.mod_lt j hs
    have h1 : ((List.replicate n x).flatMap c)[j]? = (c x)[j % sz]? := by
      have := flat_get c sz hc (List.replicate n x) (j / sz) (j % sz) x hm (by rw [List.getElem?_replicate, if_pos hlt])
      rw [← this, Nat.mul_comm, hd]
    rw [h1, hz]
    unfold madeCells
    rw [Array.getElem?_map, Array.getElem?_range, if_pos hj]
    simp [hzs, hm]
  · rw [Array.getElem?_eq_none (by rw [size_madeCells]; omega), List.getElem?_eq_none (by rw [flat_length c sz hc, List.length_replicate]; omega)]

/-- make([]T, n), T of several cells. -/
theorem run_make_flat {P : Program} {t e : TypeId} {z : Value} {sz by_ : Nat} {α : Type} (c : α → List Value) (hc : ∀ a, (c a).length = sz) (hs : 0 < sz) (x : α) (hx : c x = z.cells.toList) (ht : P.underlying t = some (.slice e))
    (hi : (P.info? e).map (fun i => (i.zero, i.size, i.bytes)) = some (some z, sz, by_)) (n : Nat) (hb : by_ * n ≤ 281474976710656) (h63 : n ≤ 9223372036854775807) (k : IntKind) (w : World) :
    (Instr.makeSlice t (.int k (n : Int)) (.int k (n : Int))).run P w = .ok (.slice (some ⟨w.heap.size, 0, none⟩) n n) (w.alloc (.cells ((List.replicate n x).flatMap c).toArray e)) := by
  obtain ⟨i, hi0, hz0, hs0, hb0⟩ := info_of hi
  have hr := run_make (P := P) w t e i z ht hi0 hz0 k k n n (by omega) (Int.le_refl _) (by rw [hb0, ← Int.natCast_mul]; omega) (by omega)
  rw [hr, hs0]
  simp only [Int.toNat_natCast]
  rw [made_flat c sz hc hs x z.cells hx n]
end Go.Proofs.Ytkfmhabplcikiaa
