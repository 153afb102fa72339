/-
  The order of slots and the times of the document's index: one and the same.
-/
import Derived.Test.YtlkppkgfnmlblaaLNew
namespace Go.Proofs.Ytlkppkgfnmlblaa
open Go.RowKit Go.Maps

theorem getD_set (ws : List Int) (i j : Nat) (v : Int) : (ws.set i v).getD j 0 = if i = j ∧ i < ws.length then v else ws.getD j 0 := by
  simp only [List.getD_eq_getElem?_getD, List.getElem?_set]
  by_cases e : i = j
  · subst e
    by_cases h : i < ws.length
    · simp [h]
    · simp [h]
  · simp [e]

/-- The slots in order of their times. -/
structure Tied (l : List (Option (List Int))) (ord : List Nat) (q : PX) : Prop where
  kind : q.kind = 2
  slots : q.slots = l
  lens : q.whens.length = l.length
  past : ∀ i, q.whens.getD i 0 ≤ q.clock
  asc : ord.Pairwise (fun a b => q.whens.getD a 0 < q.whens.getD b 0)
  ok : OrdOk l ord
theorem asc_touch {ws : List Int} {c : Int} {ord : List Nat} (h : ord.Pairwise (fun a b => ws.getD a 0 < ws.getD b 0)) (hp : ∀ i, ws.getD i 0 ≤ c) {i : Nat} (hi : i < ws.length) :
    (touchL ord i).Pairwise (fun a b => (ws.set i (c + 1)).getD a 0 < (ws.set i (c + 1)).getD b 0) := by
  unfold touchL
  rw [List.pairwise_append]
  refine ⟨?_, by simp, fun a ha b hb => ?_⟩
  · refine (h.filter _).imp_of_mem fun {a b} ha hb hab => ?_
    have h1 : a ≠ i := by simpa using (List.mem_filter.1 ha).2
    have h2 : b ≠ i := by simpa using (List.mem_filter.1 hb).2
    rw [getD_set, getD_set, if_neg (fun e => h1 e.1.symm), if_neg (fun e => h2 e.1.symm)]
    exact hab
  · simp only [List.mem_singleton] at hb
    subst hb
    have h1 : a ≠ b := by simpa using (List.mem_filter.1 ha).2
    rw [getD_set, getD_set, if_neg (fun e => h1 e.1.symm), if_pos ⟨rfl, hi⟩]
    have := hp a
    omega
theorem past_touch {ws : List Int} {c : Int} (hp : ∀ i, ws.getD i 0 ≤ c) (i : Nat) : ∀ j, (ws.set i (c + 1)).getD j 0 ≤ c + 1 := fun j => by
  rw [getD_set]
  split
  · omega
  · have := hp j
    omega
theorem Tied.touched {l : List (Option (List Int))} {ord : List Nat} {q : PX} (h : Tied l ord q) {i : Nat} (hi : heldAt l i) : Tied l (touchL ord i) (q.touch (some i)) :=
  ⟨h.kind, h.slots, by show (q.whens.set i (q.clock + 1)).length = _; rw [List.length_set]; exact h.lens, past_touch h.past i, asc_touch h.asc h.past (by rw [h.lens]; exact hi.lt), h.ok.touched hi⟩
theorem Tied.missed {l : List (Option (List Int))} {ord : List Nat} {q : PX} (h : Tied l ord q) : Tied l ord (q.touch none) :=
  ⟨h.kind, h.slots, h.lens, fun i => by have := h.past i; show q.whens.getD i 0 ≤ q.clock + 1; omega, h.asc, h.ok⟩
theorem Tied.laid {l : List (Option (List Int))} {ord : List Nat} {q : PX} (h : Tied l ord q) {i : Nat} (hi : i < l.length) (bs : List Int) : Tied (l.set i (some bs)) (touchL ord i) (q.laid i bs) :=
  ⟨h.kind, by show q.slots.set i (some bs) = _; rw [h.slots], by show (q.whens.set i (q.clock + 1)).length = _; rw [List.length_set, List.length_set]; exact h.lens, past_touch h.past i, asc_touch h.asc h.past (by rw [h.lens]; exact hi), h.ok.laid hi bs⟩
theorem Tied.dropped {l : List (Option (List Int))} {ord : List Nat} {q : PX} (h : Tied l ord q) {i : Nat} (hi : i < l.length) : Tied (l.set i none) (ord.filter (fun y => y != i)) { q with slots := q.slots.set i none } :=
  ⟨h.kind, by show q.slots.set i none = _; rw [h.slots], by rw [List.length_set]; exact h.lens, h.past, h.asc.filter _, h.ok.dropped hi⟩

theorem oldFrom_spec (ws : List Int) : ∀ (n a : Nat), n ≤ ws.length → (oldFrom ws n a = a ∨ oldFrom ws n a < ws.length) ∧ ws.getD (oldFrom ws n a) 0 ≤ ws.getD a 0 ∧ ∀ j, ws.length - n ≤ j → j < ws.length → ws.getD (oldFrom ws n a) 0 ≤ ws.getD j 0
  | 0, a, _ => ⟨Or.inl rfl, Int.le_refl _, fun j h1 h2 => absurd h1 (by omega)⟩
  | n + 1, a, hn => by
    rw [oldFrom_succ]
    have ih := oldFrom_spec ws n (if ws.getD (ws.length - (n + 1)) 0 < ws.getD a 0 then ws.length - (n + 1) else a) (by omega)
    generalize oldFrom ws n _ = r at ih ⊢
    obtain ⟨h1, h2, h3⟩ := ih
    by_cases e : ws.getD (ws.length - (n + 1)) 0 < ws.getD a 0
    · rw [if_pos e] at h1 h2
      refine ⟨Or.inr (by omega), by omega, fun j hj1 hj2 => ?_⟩
      by_cases ej : j = ws.length - (n + 1)
      · subst ej
        exact h2
      · exact h3 j (by omega) hj2
    · rw [if_neg e] at h1 h2
      refine ⟨h1, h2, fun j hj1 hj2 => ?_⟩
      by_cases ej : j = ws.length - (n + 1)
      · subst ej
        omega
      · exact h3 j (by omega) hj2
theorem Tied.old {l : List (Option (List Int))} {ord : List Nat} {q : PX} (h : Tied l ord q) (h1 : 1 ≤ l.length) (hf : freeP l = none) : oldP q.whens = ord.headD 0 := by
  obtain ⟨e1, e2, e3⟩ := oldFrom_spec q.whens q.whens.length 0 (Nat.le_refl _)
  have hlt : oldP q.whens < l.length := by
    have hl := h.lens
    unfold oldP
    rcases e1 with e1 | e1 <;> omega
  have hm := (h.ok.mem _).2 (free_full hf hlt)
  obtain ⟨o, bs, ho, hb⟩ := h.ok.old h1 hf
  cases hord : ord with
  | nil => rw [hord] at ho; cases ho
  | cons a r =>
    show _ = a
    rw [hord] at hm
    rcases List.mem_cons.1 hm with hm | hm
    · exact hm
    · exfalso
      have hasc := h.asc
      rw [hord, List.pairwise_cons] at hasc
      have h2 := hasc.1 _ hm
      have hal : a < q.whens.length := by
        rw [h.lens]
        exact ((h.ok.mem a).1 (by rw [hord]; simp)).lt
      have h3 := e3 a (by omega) hal
      unfold oldP at h2
      omega
theorem Tied.room {l : List (Option (List Int))} {ord : List Nat} {q : PX} (h : Tied l ord q) (h1 : 1 ≤ l.length) : q.room = some (roomN l ord) := by
  unfold PX.room roomN
  rw [h.slots]
  cases hf : freeP l with
  | some f => rfl
  | none =>
    simp only
    rw [if_pos h.kind, h.old h1 hf]

/-- What the document's index answers is what the program's answers; they stay tied. -/
theorem Tied.find {x : LX} {q : PX} (h : Tied x.l x.ord q) (hs : q.size = x.size) (bs : List Int) : (q.find bs).1 = (x.find bs).1 ∧ Tied x.l (x.find bs).2 (q.find bs).2 ∧ (q.find bs).2.size = q.size ∧ q.clock ≤ (q.find bs).2.clock ∧ (q.find bs).2.clock ≤ q.clock + 1 := by
  unfold PX.find LX.find
  by_cases e : bs.length = x.size
  · rw [if_pos e, if_pos (by rw [hs, e]), h.slots]
    cases hsm : sameP x.l bs with
    | none => exact ⟨rfl, h.missed, rfl, by show q.clock ≤ q.clock + 1; omega, by show q.clock + 1 ≤ q.clock + 1; omega⟩
    | some i => exact ⟨rfl, h.touched ⟨bs, same_get hsm⟩, rfl, by show q.clock ≤ q.clock + 1; omega, by show q.clock + 1 ≤ q.clock + 1; omega⟩
  · rw [if_neg e, if_neg (by rw [hs]; omega)]
    exact ⟨rfl, h, rfl, Int.le_refl _, by show q.clock ≤ q.clock + 1; omega⟩
theorem Tied.put {x : LX} {q : PX} (h : Tied x.l x.ord q) (hs : q.size = x.size) (h1 : 1 ≤ x.l.length) (bs : List Int) (fl : Int) : (q.put bs fl).1 = (x.put bs fl).1 ∧ Tied (x.put bs fl).2.1 (x.put bs fl).2.2 (q.put bs fl).2 ∧ (q.put bs fl).2.size = q.size ∧ q.clock ≤ (q.put bs fl).2.clock ∧ (q.put bs fl).2.clock ≤ q.clock + 1 := by
  unfold PX.put LX.put
  have hst : Tied x.l x.ord q ∧ q.size = q.size ∧ q.clock ≤ q.clock ∧ q.clock ≤ q.clock + 1 := ⟨h, rfl, Int.le_refl _, by omega⟩
  by_cases e : bs.length = x.size
  · rw [if_pos e, if_pos (by rw [hs, e])]
    by_cases h2 : 2 < fl
    · rw [if_pos h2, if_pos h2]
      exact ⟨rfl, hst⟩
    · rw [if_neg h2, if_neg h2, h.slots]
      cases hsm : sameP x.l bs with
      | some i =>
        by_cases h1 : fl = 1
        · simp only [if_pos h1]
          exact ⟨by trivial, h, by trivial, Int.le_refl _, by omega⟩
        · simp only [if_neg h1]
          exact ⟨by trivial, h.touched ⟨bs, same_get hsm⟩, rfl, by show q.clock ≤ q.clock + 1; omega, by show q.clock + 1 ≤ q.clock + 1; omega⟩
      | none =>
        have hk0 : ¬ q.kind = 0 := by rw [h.kind]; decide
        simp only [if_neg hk0]
        by_cases h3 : fl = 2
        · simp only [if_pos h3]
          exact ⟨by trivial, h, by trivial, Int.le_refl _, by omega⟩
        · simp only [if_neg h3]
          rw [h.room h1]
          exact ⟨rfl, h.laid (roomN_lt h.ok h1) bs, rfl, by show q.clock ≤ q.clock + 1; omega, by show q.clock + 1 ≤ q.clock + 1; omega⟩
  · rw [if_neg e, if_neg (by rw [hs]; omega)]
    exact ⟨rfl, hst⟩
theorem Tied.del {x : LX} {q : PX} (h : Tied x.l x.ord q) (hs : q.size = x.size) (bs : List Int) : (q.del bs).1 = (x.del bs).1 ∧ Tied (x.del bs).2.1 (x.del bs).2.2 (q.del bs).2 ∧ (q.del bs).2.size = q.size ∧ q.clock ≤ (q.del bs).2.clock ∧ (q.del bs).2.clock ≤ q.clock + 1 := by
  unfold PX.del LX.del
  have hst : Tied x.l x.ord q ∧ q.size = q.size ∧ q.clock ≤ q.clock ∧ q.clock ≤ q.clock + 1 := ⟨h, rfl, Int.le_refl _, by omega⟩
  rw [if_neg (show ¬ q.kind = 0 by rw [h.kind]; decide)]
  by_cases e : bs.length = x.size
  · rw [if_pos e, if_pos (by rw [hs, e]), h.slots]
    cases hsm : sameP x.l bs with
    | none => exact ⟨by trivial, hst⟩
    | some i =>
      have := h.dropped (sameP_lt hsm)
      rw [h.slots] at this
      exact ⟨rfl, this, rfl, Int.le_refl _, by show q.clock ≤ q.clock + 1; omega⟩
  · rw [if_neg e, if_neg (by rw [hs]; omega)]
    exact ⟨by trivial, hst⟩
end Go.Proofs.Ytlkppkgfnmlblaa
