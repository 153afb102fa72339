/-
  The program's index that forgets and its hash, side by side: with room for all keys they answer alike.
-/
import Derived.Test.YtlkppkgfnmlblaaLFirst
import Derived.Test.YtlkppkgfnmlblaaHKeys
namespace Go.Proofs.Ytlkppkgfnmlblaa
open Go.RowKit Go.Maps

/-- Both lie in the world, apart, in blocks that came behind w0. -/
structure Both (w0 w : World) (x : LX) (y : HX) : Prop where
  left : LOwn w0 w x
  right : HAt w y
  apart : ∀ b ∈ x.own, b ≠ y.X ∧ b ≠ y.b
  ownX : w0.heap.size ≤ y.X
  ownB : w0.heap.size ≤ y.b
theorem Both.still {w0 w w' : World} {x : LX} {y : HX} (h : Both w0 w x y) (ht : Touch [] w w') : Both w0 w' x y := ⟨h.left.still ht, h.right.touch ht (by simp) (by simp), h.apart, h.ownX, h.ownB⟩
theorem Both.lstep {w0 w w' : World} {x : LX} {y : HX} {l : List (Option (List Int))} {ord : List Nat} (h : Both w0 w x y) (hs : LStep w x l ord w') (ho : OrdOk l ord) : ∃ g cap, Both w0 w' { x with l := l, g := g, cap := cap, ord := ord } y := by
  obtain ⟨g, cap, hL⟩ := h.left.step hs ho
  obtain ⟨g', cap', hA, ht, hg⟩ := hs
  refine ⟨g', cap', ⟨hA, ho, fun b hb => ?_, h.left.touch.trans ht (fun y hy => Or.inr (h.left.own y hy))⟩, h.right.touch ht (fun hx => (h.apart _ hx).1 rfl) (fun hx => (h.apart _ hx).2 rfl), fun b hb => ?_, h.ownX, h.ownB⟩
  · have := h.left.touch.size
    simp only [LX.own, List.mem_cons, Option.mem_toList] at hb
    rcases hb with rfl | rfl | hb
    · exact h.left.own _ x.mem_X
    · exact h.left.own _ x.mem_b
    · rcases hg b hb with h1 | h1
      · exact h.left.own b h1
      · omega
  · simp only [LX.own, List.mem_cons, Option.mem_toList] at hb
    rcases hb with rfl | rfl | hb
    · exact h.apart _ x.mem_X
    · exact h.apart _ x.mem_b
    · rcases hg b hb with h1 | h1
      · exact h.apart b h1
      · have := h.right.lt
        omega
theorem Both.hstep {w0 w w' : World} {x : LX} {y : HX} {l : List (Option (List Int))} (h : Both w0 w x y) (hA : HAt w' (y.with l)) (ht : Touch [y.b] w w') : Both w0 w' x (y.with l) :=
  ⟨⟨h.left.idx.touch ht (fun b hb hx => (h.apart b hb).2 (by simpa using hx)), h.left.ok, h.left.own, h.left.touch.trans ht (fun b hb => Or.inr (by simp at hb; rw [hb]; exact h.ownB))⟩, hA, h.apart, h.ownX, h.ownB⟩

/-- Keys of one byte below 60. -/
def Small (l : List (Option (List Int))) : Prop := ∀ bs, some bs ∈ l → ∃ k : Int, bs = [k] ∧ 0 ≤ k ∧ k < 60
structure Tw (x : LX) (y : HX) : Prop where
  same : y.l = x.l
  sx : x.size = 1
  sy : y.size = 1
  len : x.l.length = 64
  small : Small x.l
theorem Small.set {l : List (Option (List Int))} (h : Small l) {k : Int} (h0 : 0 ≤ k) (h1 : k < 60) (i : Nat) : Small (l.set i (some [k])) := fun bs hbs => by
  rcases List.mem_or_eq_of_mem_set hbs with hx | hx
  · exact h bs hx
  · injection hx with hx
    exact ⟨k, hx, h0, h1⟩
theorem Small.drop {l : List (Option (List Int))} (h : Small l) (i : Nat) : Small (l.set i none) := fun bs hbs => by
  rcases List.mem_or_eq_of_mem_set hbs with hx | hx
  · exact h bs hx
  · cases hx
theorem keysP_nodup {w : World} {b size : Nat} {l : List (Option (List Int))} (h : HM w b size l) : (keysP l).Nodup := by
  obtain ⟨⟨D, n, _, hS⟩, _⟩ := h
  unfold keysP List.Nodup
  rw [List.pairwise_filterMap, List.pairwise_iff_getElem]
  intro i j hi hj hij a ha b hb e
  subst e
  have h1 : l[i]? = some (some a) := by rw [List.getElem?_eq_getElem hi]; exact congrArg some ha
  have h2 : l[j]? = some (some a) := by rw [List.getElem?_eq_getElem hj]; exact congrArg some hb
  have := hS.once h1 h2
  omega
theorem keysP_mem {l : List (Option (List Int))} {bs : List Int} : bs ∈ keysP l ↔ some bs ∈ l := by
  unfold keysP
  simp
theorem keysP_full : ∀ {l : List (Option (List Int))}, freeP l = none → (keysP l).length = l.length := by
  intro l h
  unfold freeP at h
  rw [List.findIdx?_eq_none_iff] at h
  unfold keysP
  induction l with
  | nil => rfl
  | cons a l ih =>
    have h1 := h a (by simp)
    have h2 := ih (fun s hs => h s (by simp [hs]))
    cases a with
    | none => simp at h1
    | some a => simpa using h2
/-- There is always room. -/
theorem Both.room {w0 w : World} {x : LX} {y : HX} (h : Both w0 w x y) (t : Tw x y) : ∃ f, freeP x.l = some f := by
  cases hf : freeP x.l with
  | some f => exact ⟨f, rfl⟩
  | none =>
    exfalso
    have h1 := keysP_full hf
    have h2 := keysP_nodup h.left.idx.map
    have h3 : ((keysP x.l).map fun bs => (bs.getD 0 0).toNat).Nodup := by
      unfold List.Nodup
      rw [List.pairwise_map]
      refine h2.imp_of_mem fun {a b} ha hb hab e => hab ?_
      obtain ⟨k, rfl, k0, k1⟩ := t.small a (keysP_mem.1 ha)
      obtain ⟨q, rfl, q0, q1⟩ := t.small b (keysP_mem.1 hb)
      simp at e
      congr 1
      omega
    have h4 := nodup_below 60 _ h3 (fun z hz => by
      obtain ⟨bs, hbs, rfl⟩ := List.mem_map.1 hz
      obtain ⟨k, rfl, k0, k1⟩ := t.small bs (keysP_mem.1 hbs)
      simp
      omega)
    rw [List.length_map, h1, t.len] at h4
    omega
theorem Tw.find {x : LX} {y : HX} (t : Tw x y) (bs : List Int) : (x.find bs).1 = y.find bs := by
  unfold LX.find HX.find
  rw [t.sx, t.sy, t.same]
  split
  · cases sameP x.l bs <;> rfl
  · rfl
theorem Tw.put {x : LX} {y : HX} (t : Tw x y) {f : Nat} (hf : freeP x.l = some f) {k : Int} (h0 : 0 ≤ k) (h1 : k < 60) (fl : Int) : (x.put [k] fl).1 = (y.put [k] fl).1 ∧ (y.put [k] fl).2 = (x.put [k] fl).2.1 ∧ (x.put [k] fl).2.1.length = 64 ∧ Small (x.put [k] fl).2.1 := by
  have hr : roomN x.l x.ord = f := by unfold roomN; rw [hf]
  have hst : x.l.length = 64 ∧ Small x.l := ⟨t.len, t.small⟩
  unfold LX.put HX.put
  rw [t.sx, t.sy, t.same, if_pos (show [k].length = 1 from rfl), if_pos (show [k].length = 1 from rfl)]
  by_cases h2 : 2 < fl
  · rw [if_pos h2, if_pos h2]
    exact ⟨rfl, rfl, hst⟩
  · rw [if_neg h2, if_neg h2]
    cases hsm : sameP x.l [k] with
    | some i =>
      by_cases h3 : fl = 1
      · simp only [if_pos h3]
        exact ⟨by trivial, by trivial, hst⟩
      · simp only [if_neg h3]
        exact ⟨by trivial, by trivial, hst⟩
    | none =>
      by_cases h3 : fl = 2
      · simp only [if_pos h3]
        exact ⟨by trivial, by trivial, hst⟩
      · simp only [if_neg h3, hf, hr]
        exact ⟨by trivial, by trivial, by simpa using t.len, t.small.set h0 h1 f⟩
theorem Tw.del {x : LX} {y : HX} (t : Tw x y) (bs : List Int) : (x.del bs).1 = (y.del bs).1 ∧ (y.del bs).2 = (x.del bs).2.1 ∧ (x.del bs).2.1.length = 64 ∧ Small (x.del bs).2.1 := by
  have hst : x.l.length = 64 ∧ Small x.l := ⟨t.len, t.small⟩
  unfold LX.del HX.del
  rw [t.sx, t.sy, t.same]
  split
  · cases hsm : sameP x.l bs with
    | none => exact ⟨rfl, rfl, hst⟩
    | some i => exact ⟨rfl, rfl, by simpa using t.len, t.small.drop i⟩
  · exact ⟨rfl, rfl, hst⟩
theorem kind3 (k0 : Int) : ∃ q : Nat, q < 3 ∧ (IntKind.u64.wrap k0).tmod 3 = q := by
  rw [IntKind.wrap_u64, Int.tmod_eq_emod_of_nonneg (by omega)]
  exact ⟨(k0 % 18446744073709551616 % 3).toNat, by omega, by omega⟩
end Go.Proofs.Ytlkppkgfnmlblaa
