/-
  A map from keys to slots, in memory, as a list of slots: look, store, delete.
-/
import Derived.Test.YtlkppkgfnmlblaaPure
import Derived.Maps.RangeWalk
import Derived.Maps.Ext
namespace Go.Proofs.Ytlkppkgfnmlblaa
open Go.RowKit Go.Maps

theorem law9 : Keyed Try.prog 9 := string_keyed Try.underlying9
theorem zero3 (w : World) : (zeroValue 3).run Try.prog w = .ok (.int .i64 0) w := by kernel_rfl

/-- What a key reads as. -/
def lk (bs : List Int) : Lit := .string (strOfNums bs).data.toList
theorem lk_inj {a b : List Int} (ha : ∀ x ∈ a, 0 ≤ x ∧ x ≤ 255) (hb : ∀ x ∈ b, 0 ≤ x ∧ x ≤ 255) (h : lk a = lk b) : a = b := by
  refine str_inj ha hb ?_
  unfold lk at h
  injection h with h
  exact ByteArray.ext (Array.toList_inj.1 h)
theorem lk_key {bs : List Int} (h : bs.length ≤ 16) : keyOf Try.prog 9 (.string (strOfNums bs)) = some (lk bs) :=
  WideMaps.keyOf_string_mk Try.underlying9 (by rw [strOfNums_size]; unfold maxLen; omega)
theorem lk_isKey (bs : List Int) : WideAt.IsKeyLit (lk bs) := trivial

theorem Touch.of_grown {w w' : World} {b : Nat} (h : w.grownBy w' (some b)) : Touch [b] w w' :=
  ⟨h.os, h.tape, h.output, h.size, fun k hk hn => h.block k hk (fun e => hn (by cases e; simp))⟩
theorem Touch.of_grown0 {w w' : World} (h : w.grownBy w' none) : Touch [] w w' :=
  ⟨h.os, h.tape, h.output, h.size, fun k hk _ => h.block k hk (by simp)⟩

/-- The datum holds just the keys of the slots, each at its slot. -/
structure Says (D : DataW Unit) (l : List (Option (List Int))) : Prop where
  has : ∀ kl, Maps.has D kl = true → ∃ (i : Nat) (bs : List Int), l[i]? = some (some bs) ∧ kl = lk bs
  at_ : ∀ (i : Nat) (bs : List Int), l[i]? = some (some bs) → ∀ z, D.atKey (lk bs) z = .lit (.int .i64 i)
  size : Maps.size D = (l.filterMap id).length
theorem Says.once {D : DataW Unit} {l : List (Option (List Int))} (h : Says D l) {i j : Nat} {bs : List Int} (hi : l[i]? = some (some bs)) (hj : l[j]? = some (some bs)) : i = j := by
  have h1 := h.at_ i bs hi .nil
  rw [h.at_ j bs hj .nil] at h1
  injection h1 with h1
  injection h1 with _ h1
  omega
def KeysOk (size : Nat) (l : List (Option (List Int))) : Prop := ∀ bs, some bs ∈ l → (∀ x ∈ bs, 0 ≤ x ∧ x ≤ 255) ∧ bs.length = size

theorem same_get {l : List (Option (List Int))} {bs : List Int} {i : Nat} (h : sameP l bs = some i) : l[i]? = some (some bs) := by
  unfold sameP at h
  rw [List.findIdx?_eq_some_iff_getElem] at h
  obtain ⟨hi, h1, _⟩ := h
  rw [List.getElem?_eq_getElem hi]
  simpa using h1
theorem same_not {l : List (Option (List Int))} {bs : List Int} (h : sameP l bs = none) (i : Nat) : l[i]? ≠ some (some bs) := by
  unfold sameP at h
  rw [List.findIdx?_eq_none_iff] at h
  intro e
  have := h _ (List.mem_of_getElem? e)
  simp at this

/-- How many keys are held, behind a slot's turning. -/
theorem held_put {l : List (Option (List Int))} {i : Nat} (bs : List Int) (h : l[i]? = some none) : ((l.set i (some bs)).filterMap id).length = (l.filterMap id).length + 1 := by
  induction l generalizing i with
  | nil => simp at h
  | cons a l ih =>
    cases i with
    | zero =>
      simp only [List.getElem?_cons_zero, Option.some.injEq] at h
      subst h
      simp
    | succ i =>
      simp only [List.getElem?_cons_succ] at h
      have := ih h
      cases a with
      | none => simpa using this
      | some a => simpa using this
theorem held_del {l : List (Option (List Int))} {i : Nat} {bs : List Int} (h : l[i]? = some (some bs)) : ((l.set i none).filterMap id).length + 1 = (l.filterMap id).length := by
  induction l generalizing i with
  | nil => simp at h
  | cons a l ih =>
    cases i with
    | zero =>
      simp only [List.getElem?_cons_zero, Option.some.injEq] at h
      subst h
      simp
    | succ i =>
      simp only [List.getElem?_cons_succ] at h
      have := ih h
      cases a with
      | none => simpa using this
      | some a => simpa using this
theorem held_le (l : List (Option (List Int))) : (l.filterMap id).length ≤ l.length := List.length_filterMap_le id l

theorem Says.put {D : DataW Unit} {l : List (Option (List Int))} (h : Says D l) (hm : Canon D) {n : Nat} (hK : KeysOk n l) {i : Nat} {bs : List Int} (hi : l[i]? = some none) (hs : sameP l bs = none) (hb : ∀ x ∈ bs, 0 ≤ x ∧ x ≤ 255) : Says (D.put (lk bs) (.lit (.int .i64 i))) (l.set i (some bs)) := by
  have hil : i < l.length := (List.getElem?_eq_some_iff.1 hi).1
  obtain ⟨es, hes, hq⟩ := hm
  have hIM : IsMap D := ⟨es, hes⟩
  have hno : Maps.has D (lk bs) = false := by
    cases hh : Maps.has D (lk bs) with
    | false => rfl
    | true =>
      obtain ⟨j, bs', hj, e⟩ := h.has _ hh
      have := lk_inj hb (hK bs' (List.mem_of_getElem? hj)).1 e
      subst this
      exact absurd hj (same_not hs j)
  refine ⟨fun kl hkl => ?_, fun j bs' hj z => ?_, ?_⟩
  · by_cases e : kl = lk bs
    · exact ⟨i, bs, by rw [List.getElem?_set_self hil], e⟩
    · rw [has_put_other e] at hkl
      obtain ⟨j, bs', hj, e'⟩ := h.has _ hkl
      refine ⟨j, bs', ?_, e'⟩
      rw [List.getElem?_set_ne (fun e2 => by subst e2; rw [hi] at hj; cases hj)]
      exact hj
  · by_cases e : i = j
    · subst e
      rw [List.getElem?_set_self hil] at hj
      cases hj
      exact atKey_put_same hIM (lk_isKey _) _ _
    · rw [List.getElem?_set_ne e] at hj
      have hne : lk bs' ≠ lk bs := fun e2 => by
        have := lk_inj (hK bs' (List.mem_of_getElem? hj)).1 hb e2
        subst this
        exact same_not hs j hj
      rw [atKey_put_other hne]
      exact h.at_ j bs' hj z
  · rw [held_put bs hi, ← h.size]
    have ht : Tidy D := ⟨es, hes, apart_of_rising hq.1⟩
    rw [size_put ht, hno]
    rfl
theorem Says.del {D : DataW Unit} {l : List (Option (List Int))} (h : Says D l) (hm : Canon D) {n : Nat} (hK : KeysOk n l) {i : Nat} {bs : List Int} (hi : l[i]? = some (some bs)) : Says (D.del (lk bs)) (l.set i none) := by
  have hil : i < l.length := (List.getElem?_eq_some_iff.1 hi).1
  have hb := (hK bs (List.mem_of_getElem? hi)).1
  obtain ⟨es, hes, hq⟩ := hm
  have hyes : Maps.has D (lk bs) = true := has_true_of_atKey (h.at_ i bs hi)
  refine ⟨fun kl hkl => ?_, fun j bs' hj z => ?_, ?_⟩
  · have e : kl ≠ lk bs := fun e => by
      subst e
      rw [has_del_same] at hkl
      cases hkl
    rw [has_del_other e] at hkl
    obtain ⟨j, bs', hj, e'⟩ := h.has _ hkl
    refine ⟨j, bs', ?_, e'⟩
    rw [List.getElem?_set_ne (fun e2 => by subst e2; rw [hi] at hj; cases hj; exact e e')]
    exact hj
  · have e : i ≠ j := fun e => by
      subst e
      rw [List.getElem?_set_self hil] at hj
      cases hj
    rw [List.getElem?_set_ne e] at hj
    have hne : lk bs' ≠ lk bs := fun e2 => by
      have := lk_inj (hK bs' (List.mem_of_getElem? hj)).1 hb e2
      subst this
      exact e (h.once hi hj)
    rw [atKey_del_other hne]
    exact h.at_ j bs' hj z
  · have ht : Tidy D := ⟨es, hes, apart_of_rising hq.1⟩
    have h1 := size_del (k := lk bs) ht
    rw [hyes] at h1
    simp only [if_true] at h1
    have h2 := held_del hi
    have h3 := h.size
    omega

/-- The map, in memory. -/
structure HM (w : World) (b size : Nat) (l : List (Option (List Int))) : Prop where
  map : ∃ D n, w.ownsMap Try.prog 9 (plainElem Try.prog 3) b n D ∧ Says D l
  keys : KeysOk size l
  many : l.length ≤ 64
  s1 : 1 ≤ size
  s16 : size ≤ 16
theorem HM.touch {S : List Nat} {w w' : World} {b size : Nat} {l : List (Option (List Int))} (h : HM w b size l) (ht : Touch S w w') (hb : b ∉ S) : HM w' b size l := by
  obtain ⟨⟨D, n, ho, hs⟩, h2, h3, h4, h5⟩ := h
  refine ⟨⟨D, n, ?_, hs⟩, h2, h3, h4, h5⟩
  have hlt := ho.lt
  obtain ⟨es, clock, h1, r⟩ := ho
  exact ⟨es, clock, by rw [ht.block b hlt hb]; exact h1, r⟩
theorem HM.lt {w : World} {b size : Nat} {l : List (Option (List Int))} (h : HM w b size l) : b < w.heap.size := by
  obtain ⟨⟨D, n, ho, _⟩, _⟩ := h
  exact ho.lt
/-- The bound may be the number of entries. -/
theorem owns_tight {w : World} {b n : Nat} {D : DataW Unit} (h : w.ownsMap Try.prog 9 (plainElem Try.prog 3) b n D) : w.ownsMap Try.prog 9 (plainElem Try.prog 3) b (Maps.size D) D := by
  obtain ⟨es, clock, h1, h2, h3, rfl⟩ := h
  exact ⟨es, clock, h1, h2, by simp [Maps.size, length_sorted], rfl⟩

def idx0 : Option Nat → Int
  | some i => i
  | none => 0
def foundV (o : Option Nat) : Value := .tuple #[.int .i64 (idx0 o), .bool o.isSome]
theorem HM.look {w : World} {b size : Nat} {l : List (Option (List Int))} (h : HM w b size l) {bs : List Int} (hb : ∀ x ∈ bs, 0 ≤ x ∧ x ≤ 255) (hl : bs.length = size) :
    (Instr.lookup 57 (.map (some b)) (.string (strOfNums bs)) true).run Try.prog w = .ok (foundV (sameP l bs)) w := by
  have h16 := h.s16
  obtain ⟨⟨D, n, ho, hs⟩, hK, _⟩ := h
  obtain ⟨v, ps, hrun, hv⟩ := ho.look_ok law9 Try.underlying57 (zero3 w) (plainElem_int Try.underlying3 (by decide)) (lk_key (bs := bs) (by omega))
  obtain ⟨c, rfl, hc, _⟩ := plainElem_int_inv Try.underlying3 hv
  have hc1 : D.atKey (lk bs) (.lit (.int .i64 0)) = .lit (.int .i64 c) := congrArg Prod.fst hc
  rw [hrun]
  cases hsm : sameP l bs with
  | none =>
    have hno : Maps.has D (lk bs) = false := by
      cases hh : Maps.has D (lk bs) with
      | false => rfl
      | true =>
        obtain ⟨j, bs', hj, e⟩ := hs.has _ hh
        have := lk_inj hb (hK bs' (List.mem_of_getElem? hj)).1 e
        subst this
        exact absurd hj (same_not hsm j)
    rw [atKey_of_not_has hno] at hc1
    injection hc1 with hc1
    injection hc1 with _ hc1
    subst hc1
    rw [hno]
    rfl
  | some i =>
    have hg := same_get hsm
    have hyes : Maps.has D (lk bs) = true := has_true_of_atKey (hs.at_ i bs hg)
    rw [hs.at_ i bs hg] at hc1
    injection hc1 with hc1
    injection hc1 with _ hc1
    subst hc1
    rw [hyes]
    rfl
theorem HM.store {w : World} {b size : Nat} {l : List (Option (List Int))} (h : HM w b size l) {bs : List Int} (hb : ∀ x ∈ bs, 0 ≤ x ∧ x ≤ 255) (hl : bs.length = size) {i : Nat} (hi : l[i]? = some none) (hs : sameP l bs = none) :
    ∃ w', (Instr.mapUpdate 57 (.map (some b)) (.string (strOfNums bs)) (.int .i64 i)).run Try.prog w = .ok () w' ∧ HM w' b size (l.set i (some bs)) ∧ Touch [b] w w' := by
  have h16 := h.s16
  have hil : i < l.length := (List.getElem?_eq_some_iff.1 hi).1
  obtain ⟨⟨D, n, ho, hS⟩, hK, hm, h1, _⟩ := h
  have hsz := held_le l
  have hwf : (Lit.int .i64 (i : Int)).wf = true := WalkArith.wf_i64 (by omega)
  obtain ⟨w', hrun, ho', hg⟩ := (owns_tight ho).update law9 Try.underlying57 (by rw [hS.size]; unfold maxLen; omega) (lk_key (bs := bs) (by omega)) (plainElem_int Try.underlying3 hwf)
  refine ⟨w', hrun, ⟨⟨_, _, ho', hS.put (ho.canon law9) hK hi hs hb⟩, fun bs' hbs' => ?_, by simpa using hm, h1, h16⟩, Touch.of_grown hg⟩
  rcases List.mem_or_eq_of_mem_set hbs' with hx | hx
  · exact hK bs' hx
  · cases hx
    exact ⟨hb, hl⟩
theorem HM.drop {w : World} {b size : Nat} {l : List (Option (List Int))} (h : HM w b size l) {bs : List Int} {i : Nat} (hi : l[i]? = some (some bs)) (ty : TypeId) :
    ∃ w', (Builtin.delete_ #[57, 9] ty #[.map (some b), .string (strOfNums bs)]).run Try.prog w = .ok (.tuple #[]) w' ∧ HM w' b size (l.set i none) ∧ Touch [b] w w' := by
  have h16 := h.s16
  have hlen := (h.keys bs (List.mem_of_getElem? hi)).2
  obtain ⟨⟨D, n, ho, hS⟩, hK, hm, h1, _⟩ := h
  obtain ⟨w', hrun, ho', hg⟩ := ho.drop law9 Try.underlying57 (lk_key (bs := bs) (by omega)) ty
  refine ⟨w', hrun, ⟨⟨_, _, ho', hS.del (ho.canon law9) hK hi⟩, fun bs' hbs' => ?_, by simpa using hm, h1, h16⟩, Touch.of_grown hg.grown⟩
  rcases List.mem_or_eq_of_mem_set hbs' with hx | hx
  · exact hK bs' hx
  · cases hx
/-- A map just made. -/
theorem HM.made (w : World) {size m : Nat} (h1 : 1 ≤ size) (h2 : size ≤ 16) (hm : m ≤ 64) : HM (w.alloc (.map #[] 0)) w.heap.size size (List.replicate m none) := by
  refine ⟨⟨.map [], 0, World.ownsMap_made _ _ _ _, ⟨fun kl hkl => (by cases hkl), fun i bs hi => ?_, ?_⟩⟩, fun bs hbs => ?_, by simpa using hm, h1, h2⟩
  · have := List.mem_of_getElem? hi
    simp at this
  · simp [Maps.size]
  · simp at hbs
end Go.Proofs.Ytlkppkgfnmlblaa
