/-
  Package lru: the order of slots, as lists: just the slots that keys have, each once.
-/
import Derived.Test.YtlkppkgfnmlblaaLRoom
namespace Go.Proofs.Ytlkppkgfnmlblaa
open Go.RowKit Go.Maps

theorem nodup_below : ∀ (n : Nat) (l : List Nat), l.Nodup → (∀ x ∈ l, x < n) → l.length ≤ n
  | 0, l, _, h => by
    cases l with
    | nil => simp
    | cons a r => have := h a (by simp); omega
  | n + 1, l, hn, h => by
    have h1 := nodup_below n (l.erase n) (hn.erase n) (fun x hx => by
      have h2 := (hn.mem_erase_iff).1 hx
      have := h x h2.2
      have := h2.1
      omega)
    rw [List.length_erase] at h1
    split at h1 <;> omega

/-- A slot that a key has. -/
def heldAt (l : List (Option (List Int))) (i : Nat) : Prop := ∃ bs, l[i]? = some (some bs)
structure OrdOk (l : List (Option (List Int))) (ord : List Nat) : Prop where
  nodup : ord.Nodup
  mem : ∀ i, i ∈ ord ↔ heldAt l i
theorem heldAt.lt {l : List (Option (List Int))} {i : Nat} (h : heldAt l i) : i < l.length := by
  obtain ⟨bs, h⟩ := h
  exact (List.getElem?_eq_some_iff.1 h).1
theorem OrdOk.len {l : List (Option (List Int))} {ord : List Nat} (h : OrdOk l ord) : ord.length ≤ l.length := nodup_below _ _ h.nodup (fun x hx => ((h.mem x).1 hx).lt)
theorem OrdOk.start (m : Nat) : OrdOk (List.replicate m none) [] := ⟨List.nodup_nil, fun i => ⟨fun hx => (by cases hx), fun ⟨bs, h⟩ => by
  have := List.mem_of_getElem? h
  simp at this⟩⟩
theorem mem_touchL {ord : List Nat} {s i : Nat} : i ∈ touchL ord s ↔ i = s ∨ i ∈ ord := by
  unfold touchL
  simp only [List.mem_append, List.mem_filter, List.mem_singleton, bne_iff_ne, ne_eq]
  constructor
  · rintro (⟨h, _⟩ | h)
    · exact Or.inr h
    · exact Or.inl h
  · rintro (h | h)
    · exact Or.inr h
    · by_cases e : i = s
      · exact Or.inr e
      · exact Or.inl ⟨h, e⟩
theorem nodup_touchL {ord : List Nat} (h : ord.Nodup) (s : Nat) : (touchL ord s).Nodup := by
  unfold touchL
  rw [List.nodup_append]
  refine ⟨h.filter _, by simp, fun a ha b hb e => ?_⟩
  simp at hb
  subst hb
  subst e
  simp at ha
theorem OrdOk.touched {l : List (Option (List Int))} {ord : List Nat} (h : OrdOk l ord) {i : Nat} (hi : heldAt l i) : OrdOk l (touchL ord i) :=
  ⟨nodup_touchL h.nodup i, fun j => by
    rw [mem_touchL, h.mem]
    constructor
    · rintro (rfl | h)
      · exact hi
      · exact h
    · exact Or.inr⟩
theorem OrdOk.laid {l : List (Option (List Int))} {ord : List Nat} (h : OrdOk l ord) {i : Nat} (hi : i < l.length) (bs : List Int) : OrdOk (l.set i (some bs)) (touchL ord i) :=
  ⟨nodup_touchL h.nodup i, fun j => by
    rw [mem_touchL, h.mem]
    by_cases e : i = j
    · subst e
      exact ⟨fun _ => ⟨bs, List.getElem?_set_self hi⟩, fun _ => Or.inl rfl⟩
    · unfold heldAt
      rw [List.getElem?_set_ne e]
      exact ⟨fun h1 => h1.resolve_left (fun e2 => e e2.symm), Or.inr⟩⟩
theorem OrdOk.dropped {l : List (Option (List Int))} {ord : List Nat} (h : OrdOk l ord) {i : Nat} (hi : i < l.length) : OrdOk (l.set i none) (ord.filter (fun y => y != i)) :=
  ⟨h.nodup.filter _, fun j => by
    rw [List.mem_filter, h.mem]
    by_cases e : i = j
    · subst e
      refine ⟨fun h1 => ?_, fun ⟨bs, h1⟩ => ?_⟩
      · have := h1.2
        simp at this
      · rw [List.getElem?_set_self hi] at h1
        cases h1
    · unfold heldAt
      rw [List.getElem?_set_ne e]
      refine ⟨fun h1 => h1.1, fun h1 => ⟨h1, ?_⟩⟩
      simp
      exact fun e2 => e e2.symm⟩
theorem free_full {l : List (Option (List Int))} (h : freeP l = none) {i : Nat} (hi : i < l.length) : heldAt l i := by
  unfold freeP at h
  rw [List.findIdx?_eq_none_iff] at h
  have := h l[i] (List.getElem_mem hi)
  cases hq : l[i] with
  | none => rw [hq] at this; simp at this
  | some bs => exact ⟨bs, by rw [List.getElem?_eq_getElem hi, hq]⟩
/-- Where all slots are taken there is one that was touched longest ago. -/
theorem OrdOk.old {l : List (Option (List Int))} {ord : List Nat} (h : OrdOk l ord) (h1 : 1 ≤ l.length) (hf : freeP l = none) : ∃ o bs, ord.head? = some o ∧ l[o]? = some (some bs) := by
  have h0 := (h.mem 0).2 (free_full hf (by omega))
  cases ord with
  | nil => cases h0
  | cons o r =>
    obtain ⟨bs, hb⟩ := (h.mem o).1 (by simp)
    exact ⟨o, bs, rfl, hb⟩
theorem roomN_lt {l : List (Option (List Int))} {ord : List Nat} (h : OrdOk l ord) (h1 : 1 ≤ l.length) : roomN l ord < l.length := by
  unfold roomN
  cases hf : freeP l with
  | some f => exact freeP_lt hf
  | none =>
    obtain ⟨o, bs, ho, hb⟩ := h.old h1 hf
    cases ord with
    | nil => cases ho
    | cons a r =>
      simp only [List.head?_cons, Option.some.injEq] at ho
      subst ho
      exact (List.getElem?_eq_some_iff.1 hb).1
theorem roomL_len (l : List (Option (List Int))) (ord : List Nat) : (roomL l ord).length = l.length := by
  unfold roomL
  cases freeP l <;> simp
theorem roomL_get {l : List (Option (List Int))} {ord : List Nat} (h : OrdOk l ord) (h1 : 1 ≤ l.length) : (roomL l ord)[roomN l ord]? = some none := by
  have hlt := roomN_lt h h1
  unfold roomL roomN at *
  cases hf : freeP l with
  | some f => exact free_get hf
  | none =>
    rw [hf] at hlt
    exact List.getElem?_set_self hlt
theorem roomL_same {l : List (Option (List Int))} {ord : List Nat} {bs : List Int} (hs : sameP l bs = none) : sameP (roomL l ord) bs = none := by
  unfold roomL
  cases hf : freeP l with
  | some f => exact hs
  | none =>
    unfold sameP at *
    rw [List.findIdx?_eq_none_iff] at *
    intro s hx
    rcases List.mem_or_eq_of_mem_set hx with hx | hx
    · exact hs s hx
    · subst hx
      rfl
theorem roomL_set {l : List (Option (List Int))} {ord : List Nat} (bs : List Int) : (roomL l ord).set (roomN l ord) (some bs) = l.set (roomN l ord) (some bs) := by
  unfold roomL roomN
  cases hf : freeP l with
  | some f => rfl
  | none => simp
end Go.Proofs.Ytlkppkgfnmlblaa
