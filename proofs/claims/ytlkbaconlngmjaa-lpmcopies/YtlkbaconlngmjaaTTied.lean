/-
  The tree and the document's slots say the same.
-/
import Derived.Test.YtlkbaconlngmjaaTTree
import Derived.Test.YtlkbaconlngmjaaRAny
namespace Go.Proofs.Ytlkbaconlngmjaa
open Go.RowKit Go.Deep

/-- Each key of the tree has its slot, and each slot its key. -/
structure TiedT (n : Nat) (T : Tr) (l : List (Option (List Int))) : Prop where
  at_ : ∀ p s, atT T p = some s ↔ p.length ≤ 8 * n ∧ l[s]? = some (some (keyP p n))
  form : ∀ bs, some bs ∈ l → ∃ p : List Bool, p.length ≤ 8 * n ∧ bs = keyP p n
theorem TiedT.lt {n : Nat} {T : Tr} {l : List (Option (List Int))} (h : TiedT n T l) {p : List Bool} {s : Nat} (hs : atT T p = some s) : s < l.length := by
  have := ((h.at_ p s).1 hs).2
  exact (List.getElem?_eq_some_iff.1 this).1
theorem TiedT.len {n : Nat} {T : Tr} {l : List (Option (List Int))} (h : TiedT n T l) {p : List Bool} {s : Nat} (hs : atT T p = some s) : p.length ≤ 8 * n := ((h.at_ p s).1 hs).1
theorem TiedT.start (n m : Nat) : TiedT n .nil (List.replicate m none) := by
  refine ⟨fun p s => ?_, fun bs hb => ?_⟩
  · simp only [atT, reduceCtorEq, false_iff, not_and]
    intro _ h
    rw [List.getElem?_replicate] at h
    split at h
    · cases h
    · cases h
  · rw [List.mem_replicate] at hb
    cases hb.2
/-- The slot of a key. -/
theorem TiedT.same {n : Nat} {T : Tr} {l : List (Option (List Int))} (h : TiedT n T l) (_hn : n ≤ 100) {p : List Bool} (hp : p.length ≤ 8 * n) : sameP l (keyP p n) = atT T p := by
  cases ha : atT T p with
  | none =>
    unfold sameP
    rw [List.findIdx?_eq_none_iff]
    intro x hx
    obtain ⟨j, hj, rfl⟩ := List.getElem_of_mem hx
    by_cases he : l[j] = some (keyP p n)
    · have := (h.at_ p j).2 ⟨hp, by rw [List.getElem?_eq_getElem hj, he]⟩
      rw [ha] at this
      cases this
    · simpa using he
  | some s =>
    have hs := ((h.at_ p s).1 ha).2
    unfold sameP
    rw [List.findIdx?_eq_some_iff_getElem]
    obtain ⟨hlt, hv⟩ := List.getElem?_eq_some_iff.1 hs
    refine ⟨hlt, by rw [hv]; simp, fun j hj => ?_⟩
    have hjl : j < l.length := by omega
    by_cases he : l[j]'hjl = some (keyP p n)
    · have := (h.at_ p j).2 ⟨hp, by rw [List.getElem?_eq_getElem hjl, he]⟩
      rw [ha] at this
      injection this with this
      omega
    · simpa using he
theorem TiedT.put {n : Nat} {T T' : Tr} {l : List (Option (List Int))} (h : TiedT n T l) (hn : n ≤ 100) {p : List Bool} (hp : p.length ≤ 8 * n) (ha : atT T p = none) {f : Nat} (hf : l[f]? = some none)
    (hT : ∀ q, atT T' q = if q = p then some f else atT T q) : TiedT n T' (l.set f (some (keyP p n))) := by
  have hfl : f < l.length := (List.getElem?_eq_some_iff.1 hf).1
  refine ⟨fun q s => ?_, fun bs hb => ?_⟩
  · rw [hT q, List.getElem?_set]
    by_cases hq : q = p
    · rw [if_pos hq, hq]
      by_cases hs : f = s
      · rw [if_pos hs, if_pos hfl, hs]
        exact ⟨fun _ => ⟨hp, rfl⟩, fun _ => rfl⟩
      · rw [if_neg hs]
        refine ⟨fun e => by injection e with e; exact absurd e hs, fun e => ?_⟩
        have := (h.at_ p s).2 e
        rw [ha] at this
        cases this
    · rw [if_neg hq]
      by_cases hs : f = s
      · rw [if_pos hs, if_pos hfl]
        refine ⟨fun e => ?_, fun e => ?_⟩
        · have := ((h.at_ q s).1 e).2
          rw [← hs, hf] at this
          cases this
        · obtain ⟨e1, e2⟩ := e
          injection e2 with e2
          injection e2 with e2
          exact absurd (keyP_inj hp e1 hn e2).symm hq
      · rw [if_neg hs]
        exact h.at_ q s
  · rcases List.mem_or_eq_of_mem_set hb with hb | hb
    · exact h.form bs hb
    · injection hb with hb
      exact ⟨p, hp, hb⟩
theorem TiedT.inj {n : Nat} {T : Tr} {l : List (Option (List Int))} (h : TiedT n T l) (hn : n ≤ 100) {p q : List Bool} {s : Nat} (hp : atT T p = some s) (hq : atT T q = some s) : p = q := by
  obtain ⟨a1, a2⟩ := (h.at_ p s).1 hp
  obtain ⟨b1, b2⟩ := (h.at_ q s).1 hq
  rw [a2] at b2
  injection b2 with b2
  injection b2 with b2
  exact keyP_inj a1 b1 hn b2
theorem TiedT.del {n : Nat} {T T' : Tr} {l : List (Option (List Int))} (h : TiedT n T l) (hn : n ≤ 100) {p : List Bool} {f : Nat} (ha : atT T p = some f)
    (hT : ∀ q, atT T' q = if q = p then none else atT T q) : TiedT n T' (l.set f none) := by
  have hfl : f < l.length := h.lt ha
  refine ⟨fun q s => ?_, fun bs hb => ?_⟩
  · rw [hT q, List.getElem?_set]
    by_cases hq : q = p
    · rw [if_pos hq, hq]
      by_cases hs : f = s
      · rw [if_pos hs, if_pos hfl]
        exact ⟨fun e => (by cases e), fun e => (by cases e.2)⟩
      · rw [if_neg hs]
        refine ⟨fun e => (by cases e), fun e => ?_⟩
        have := (h.at_ p s).2 e
        rw [ha] at this
        injection this with this
        exact absurd this hs
    · rw [if_neg hq]
      by_cases hs : f = s
      · rw [if_pos hs, if_pos hfl]
        refine ⟨fun e => ?_, fun e => (by cases e.2)⟩
        rw [← hs] at e
        exact absurd (h.inj hn e ha) hq
      · rw [if_neg hs]
        exact h.at_ q s
  · rcases List.mem_or_eq_of_mem_set hb with hb | hb
    · exact h.form bs hb
    · cases hb
/-- What longest finds. -/
theorem longT_get : ∀ (p : List Bool) (T : Tr), (longT T p = none ∧ ∀ j, atT T (p.take j) = none) ∨ (∃ s k, longT T p = some s ∧ k ≤ p.length ∧ atT T (p.take k) = some s ∧ ∀ j, k < j → j ≤ p.length → atT T (p.take j) = none)
  | [], .nil => Or.inl ⟨rfl, fun _ => by simp [atT]⟩
  | c :: p, .nil => Or.inl ⟨rfl, fun _ => rfl⟩
  | [], .node b o a l r => by
    cases ha : heldT a with
    | none => exact Or.inl ⟨ha, fun j => by simpa [atT] using ha⟩
    | some s => exact Or.inr ⟨s, 0, ha, Nat.le_refl _, by simpa [atT] using ha, fun j h1 h2 => by simp at h2; omega⟩
  | c :: p, .node b o a l r => by
    have key : ∀ C : Tr, (∀ q, atT (.node b o a l r) (c :: q) = atT C q) → longT (.node b o a l r) (c :: p) = (longT C p).or (heldT a) →
        (longT (.node b o a l r) (c :: p) = none ∧ ∀ j, atT (.node b o a l r) ((c :: p).take j) = none) ∨ (∃ s k, longT (.node b o a l r) (c :: p) = some s ∧ k ≤ (c :: p).length ∧ atT (.node b o a l r) ((c :: p).take k) = some s ∧ ∀ j, k < j → j ≤ (c :: p).length → atT (.node b o a l r) ((c :: p).take j) = none) := by
      intro C hC hL
      have h0 : atT (.node b o a l r) [] = heldT a := rfl
      rcases longT_get p C with ⟨h1, h2⟩ | ⟨s, k, h1, h2, h3, h4⟩
      · rw [h1, Option.none_or] at hL
        cases ha : heldT a with
        | none =>
          refine Or.inl ⟨by rw [hL, ha], fun j => ?_⟩
          cases j with
          | zero => exact ha
          | succ j => rw [List.take_succ_cons, hC]; exact h2 j
        | some s =>
          refine Or.inr ⟨s, 0, by rw [hL, ha], Nat.zero_le _, ha, fun j h5 h6 => ?_⟩
          obtain ⟨i, rfl⟩ : ∃ i, j = i + 1 := ⟨j - 1, by omega⟩
          rw [List.take_succ_cons, hC]
          exact h2 i
      · rw [h1, Option.some_or] at hL
        refine Or.inr ⟨s, k + 1, hL, by simp; omega, by rw [List.take_succ_cons, hC]; exact h3, fun j h5 h6 => ?_⟩
        obtain ⟨i, rfl⟩ : ∃ i, j = i + 1 := ⟨j - 1, by omega⟩
        rw [List.take_succ_cons, hC]
        exact h4 i (by omega) (by simp at h6; omega)
    cases c with
    | false => exact key l (fun _ => rfl) rfl
    | true => exact key r (fun _ => rfl) rfl
/-- Slot i holds a key that begins bs. -/
def Begins (n : Nat) (l : List (Option (List Int))) (bs : List Int) (i : Nat) (p : List Bool) : Prop := p.length ≤ 8 * n ∧ l[i]? = some (some (keyP p n)) ∧ p.length ≤ (keyNum bs).toNat ∧ p = (pathP bs).take p.length
theorem longTo_get {n : Nat} {T : Tr} {l : List (Option (List Int))} (h : TiedT n T l) (hn : n ≤ 100) {bs : List Int} (hl : bs.length = n + 4) (hb : ∀ x ∈ bs, 0 ≤ x ∧ x ≤ 255) (hk : keyNum bs ≤ 8 * (n : Int)) :
    ∀ k, k ≤ l.length → (longTo l bs k = none ∧ ∀ i p, i < k → ¬ Begins n l bs i p) ∨ (∃ s p, longTo l bs k = some s ∧ s < k ∧ Begins n l bs s p ∧ ∀ i q, i < k → Begins n l bs i q → q.length ≤ p.length)
  | 0, _ => Or.inl ⟨rfl, fun i p hi => by omega⟩
  | k + 1, hkl => by
    have hkb := keyNum_bd hb
    have hlt : k < l.length := by omega
    have hst : longTo l bs (k + 1) = longStep l bs (longTo l bs k) k := rfl
    have hgk : l.getD k none = l[k] := by rw [List.getD_eq_getElem?_getD, List.getElem?_eq_getElem hlt]; rfl
    have ih := longTo_get h hn hl hb hk k (by omega)
    cases hv : l[k] with
    | none =>
      have hs : longTo l bs (k + 1) = longTo l bs k := by
        rw [hst]
        unfold longStep
        rw [hgk, hv]
        exact if_pos rfl
      have hno : ∀ p, ¬ Begins n l bs k p := fun p hp => by
        have := hp.2.1
        rw [List.getElem?_eq_getElem hlt, hv] at this
        cases this
      rw [hs]
      rcases ih with ⟨h1, h2⟩ | ⟨s, p, h1, h2, h3, h4⟩
      · refine Or.inl ⟨h1, fun i p hi hp => ?_⟩
        by_cases e : i = k
        · exact hno p (e ▸ hp)
        · exact h2 i p (by omega) hp
      · refine Or.inr ⟨s, p, h1, by omega, h3, fun i q hi hq => ?_⟩
        by_cases e : i = k
        · exact absurd (e ▸ hq) (hno q)
        · exact h4 i q (by omega) hq
    | some y =>
      obtain ⟨p, hp, rfl⟩ := h.form y (by rw [← hv]; exact List.getElem_mem hlt)
      have hky : keyNum (keyP p n) = p.length := keyNum_key p n (by omega)
      have hvk : l[k]? = some (some (keyP p n)) := by rw [List.getElem?_eq_getElem hlt, hv]
      have huni : ∀ q, Begins n l bs k q → q = p := fun q hq => by
        have := hq.2.1
        rw [hvk] at this
        injection this with this
        injection this with this
        exact (keyP_inj hp hq.1 hn this).symm
      by_cases hlong : keyNum bs < keyNum (keyP p n)
      · have hs : longTo l bs (k + 1) = longTo l bs k := by
          rw [hst]
          unfold longStep
          rw [hgk, hv, if_pos (by simp [skipP, hlong])]
        have hno : ∀ q, ¬ Begins n l bs k q := fun q hq => by
          have := huni q hq
          subst this
          have := hq.2.2.1
          omega
        rw [hs]
        rcases ih with ⟨h1, h2⟩ | ⟨s, p', h1, h2, h3, h4⟩
        · refine Or.inl ⟨h1, fun i q hi hq => ?_⟩
          by_cases e : i = k
          · exact hno q (e ▸ hq)
          · exact h2 i q (by omega) hq
        · refine Or.inr ⟨s, p', h1, by omega, h3, fun i q hi hq => ?_⟩
          by_cases e : i = k
          · exact absurd (e ▸ hq) (hno q)
          · exact h4 i q (by omega) hq
      · have hpl : p.length ≤ (keyNum bs).toNat := by omega
        have hbeg := begins_iff hl hb hpl hn hk
        rcases ih with ⟨h1, h2⟩ | ⟨s, p', h1, h2, h3, h4⟩
        · have hsk : skipP l bs none (some (keyP p n)) = false := by simp [skipP]; omega
          by_cases hc : cutP ((keyP p n).take 4 ++ bs.drop 4) = keyP p n
          · have hs : longTo l bs (k + 1) = some k := by
              rw [hst, h1]
              unfold longStep
              rw [hgk, hv, if_neg (by rw [hsk]; decide)]
              exact if_pos hc
            refine Or.inr ⟨k, p, hs, by omega, ⟨hp, hvk, hpl, hbeg.1 hc⟩, fun i q hi hq => ?_⟩
            by_cases e : i = k
            · rw [huni q (e ▸ hq)]; exact Nat.le_refl _
            · exact absurd hq (h2 i q (by omega))
          · have hs : longTo l bs (k + 1) = none := by
              rw [hst, h1]
              unfold longStep
              rw [hgk, hv, if_neg (by rw [hsk]; decide)]
              exact if_neg hc
            refine Or.inl ⟨hs, fun i q hi hq => ?_⟩
            by_cases e : i = k
            · have e2 := huni q (e ▸ hq)
              subst e2
              exact hc (hbeg.2 hq.2.2.2)
            · exact h2 i q (by omega) hq
        · have hgs : (l.getD s none).getD [] = keyP p' n := by
            rw [List.getD_eq_getElem?_getD, h3.2.1]
            rfl
          have hks : keyNum (keyP p' n) = p'.length := keyNum_key p' n (by have := h3.1; omega)
          have hskv : skipP l bs (some s) (some (keyP p n)) = decide (p.length ≤ p'.length) := by
            simp only [skipP, hgs, hky, hks]
            rw [decide_eq_false (by omega), Bool.false_or]
            by_cases e : p.length ≤ p'.length
            · rw [decide_eq_true e, decide_eq_true (by omega)]
            · rw [decide_eq_false e, decide_eq_false (by omega)]
          by_cases hle : p.length ≤ p'.length
          · have hs : longTo l bs (k + 1) = some s := by
              rw [hst, h1]
              unfold longStep
              rw [hgk, hv, if_pos (by rw [hskv]; exact decide_eq_true hle)]
            refine Or.inr ⟨s, p', hs, by omega, h3, fun i q hi hq => ?_⟩
            by_cases e : i = k
            · rw [huni q (e ▸ hq)]; exact hle
            · exact h4 i q (by omega) hq
          · by_cases hc : cutP ((keyP p n).take 4 ++ bs.drop 4) = keyP p n
            · have hs : longTo l bs (k + 1) = some k := by
                rw [hst, h1]
                unfold longStep
                rw [hgk, hv, if_neg (by rw [hskv, decide_eq_false hle]; decide)]
                exact if_pos hc
              refine Or.inr ⟨k, p, hs, by omega, ⟨hp, hvk, hpl, hbeg.1 hc⟩, fun i q hi hq => ?_⟩
              by_cases e : i = k
              · rw [huni q (e ▸ hq)]; exact Nat.le_refl _
              · have := h4 i q (by omega) hq
                omega
            · have hs : longTo l bs (k + 1) = some s := by
                rw [hst, h1]
                unfold longStep
                rw [hgk, hv, if_neg (by rw [hskv, decide_eq_false hle]; decide)]
                exact if_neg hc
              refine Or.inr ⟨s, p', hs, by omega, h3, fun i q hi hq => ?_⟩
              by_cases e : i = k
              · have e2 := huni q (e ▸ hq)
                subst e2
                exact absurd (hbeg.2 hq.2.2.2) hc
              · exact h4 i q (by omega) hq
/-- The longest of the tree is the document's. -/
theorem long_eq {n : Nat} {T : Tr} {l : List (Option (List Int))} (h : TiedT n T l) (hn : n ≤ 100) {bs : List Int} (hl : bs.length = n + 4) (hb : ∀ x ∈ bs, 0 ≤ x ∧ x ≤ 255) (hk : keyNum bs ≤ 8 * (n : Int)) :
    longTo l bs l.length = longT T (pathP bs) := by
  have hpl := pathP_len bs
  have htk : ∀ k, k ≤ (pathP bs).length → ((pathP bs).take k).length = k := fun k hk => by rw [List.length_take]; omega
  rcases longT_get (pathP bs) T with ⟨h1, h2⟩ | ⟨s, k, h1, h2, h3, h4⟩
  · rw [h1]
    rcases longTo_get h hn hl hb hk l.length (Nat.le_refl _) with ⟨q1, _⟩ | ⟨s, p, q1, _, q3, _⟩
    · exact q1
    · have := (h.at_ p s).2 ⟨q3.1, q3.2.1⟩
      rw [q3.2.2.2, h2] at this
      cases this
  · rw [h1]
    have hkey := (h.at_ _ s).1 h3
    have hbg : Begins n l bs s ((pathP bs).take k) := ⟨hkey.1, hkey.2, by rw [htk k h2]; omega, by rw [htk k h2]⟩
    rcases longTo_get h hn hl hb hk l.length (Nat.le_refl _) with ⟨_, q2⟩ | ⟨s', p, q1, _, q3, q4⟩
    · exact absurd hbg (q2 s _ (h.lt h3))
    · rw [q1]
      have hle := q4 s _ (h.lt h3) hbg
      rw [htk k h2] at hle
      have hat := (h.at_ p s').2 ⟨q3.1, q3.2.1⟩
      have hpk : p.length = k := by
        by_cases e : k < p.length
        · have := h4 p.length e (by have := q3.2.2.1; omega)
          rw [← q3.2.2.2, hat] at this
          cases this
        · omega
      rw [q3.2.2.2, hpk, h3] at hat
      injection hat with hat
      rw [hat]
end Go.Proofs.Ytlkbaconlngmjaa
