/-
  What a line is read as is a plain instruction.
-/
import Derived.Test.YthlfnmjefpdjgaaGreatDoorRound
namespace Go.Proofs.YthlfnmjefpdjgaaGreatDoor
open Go.RowKit

/-- The slots of one plain instruction. -/
def Grp (L : List In) : Prop := (∃ i, L = [i] ∧ Good i ∧ wideB i.op = false) ∨ ∃ i nx, L = [i, nx] ∧ Good i ∧ wideB i.op = true ∧ tailB nx = true ∧ nx.Ok

theorem accFrom_form (name : Bs) : ∀ (l : List Bs) (i : Nat) (op : Int), accFrom name i l = some op → ∃ (j k : Nat), j < 4 ∧ k < i + l.length ∧ op = 97 + 8 * (j : Int) + k
  | [], i, op, h => by simp [accFrom] at h
  | a :: l, i, op, h => by
    have ih := accFrom_form name l (i + 1) op
    unfold accFrom at h
    simp only [List.length_cons]
    split at h
    · split at h
      · rename_i j hj
        cases h
        have := sizFrom_bd _ sizN 0 j hj
        simp [sizN] at this
        exact ⟨j, i, by omega, by omega, rfl⟩
      · obtain ⟨j, k, h1, h2, h3⟩ := ih h
        exact ⟨j, k, h1, by omega, h3⟩
    · obtain ⟨j, k, h1, h2, h3⟩ := ih h
      exact ⟨j, k, h1, by omega, h3⟩
theorem jmpFrom_known (e : Bs) (c : Int) : ∀ (l : List Bs) (j r : Nat), jmpFrom e c j l = some r → knownB (16 * (r : Int) + c) = true
  | [], j, r, h => by simp [jmpFrom] at h
  | s :: l, j, r, h => by
    unfold jmpFrom at h
    split at h
    · rename_i hc
      cases h
      exact hc.2
    · exact jmpFrom_known e c l (j + 1) r h
theorem acc_known : ∀ (j : Fin 4) (k : Fin 3), knownB (97 + 8 * (j.val : Int) + k.val) = true ∧ opB (97 + 8 * (j.val : Int) + k.val) = 97 + 8 * (j.val : Int) + k.val ∧ ¬ (97 + 8 * (j.val : Int) + k.val = 24 ∨ 97 + 8 * (j.val : Int) + k.val = 133) := by decide +kernel
theorem alu_known : ∀ (k : Fin 13), (knownB (16 * (k.val : Int) + 4) = true ∧ ¬ (16 * (k.val : Int) + 4 = 24 ∨ 16 * (k.val : Int) + 4 = 133)) ∧ (knownB (16 * (k.val : Int) + 7) = true ∧ ¬ (16 * (k.val : Int) + 7 = 24 ∨ 16 * (k.val : Int) + 7 = 133)) := by decide +kernel
theorem opB_low (k c : Int) (h0 : 0 ≤ c) (h1 : c < 8) : opB (16 * k + c) = 16 * k + c := by
  unfold opB
  rw [if_neg (fun h => by have := h.2; omega)]
structure NameOk (j : In) : Prop where
  dst : j.dst = 0
  off : j.off = 0
  imm : j.imm = 0
  known : knownB j.op = true
  op : opB j.op = j.op
  src0 : 0 ≤ j.src
  src1 : j.src ≤ 1
  src : ¬ (j.op = 24 ∨ j.op = 133) → j.src = 0
theorem kind_ok (a c : Int) (ha : a = 4 ∧ c = 6 ∨ a = 7 ∧ c = 5) (e : Bs) (op : Int) (h : kindE a c e = some op) : knownB op = true ∧ opB op = op := by
  unfold kindE at h
  split at h
  · rename_i k hk
    cases h
    have hb := aluFrom_bd e aluN 0 k hk
    simp [aluN] at hb
    have := alu_known ⟨k, hb⟩
    rcases ha with ⟨rfl, _⟩ | ⟨rfl, _⟩
    · exact ⟨this.1.1, opB_low _ _ (by omega) (by omega)⟩
    · exact ⟨this.2.1, opB_low _ _ (by omega) (by omega)⟩
  · split at h
    · rename_i k hk
      cases h
      refine ⟨jmpFrom_known e c jmpN 0 k hk, ?_⟩
      rcases ha with ⟨_, rfl⟩ | ⟨_, rfl⟩
      · exact opB_low _ _ (by omega) (by omega)
      · exact opB_low _ _ (by omega) (by omega)
    · cases h
theorem three_ok : (knownB 24 = true ∧ opB 24 = 24) ∧ knownB 133 = true ∧ opB 133 = 133 := by decide +kernel
theorem nameP_ok {name : Bs} {j : In} (h : nameP name = some j) : NameOk j := by
  unfold nameP at h
  split at h
  · cases h; exact ⟨rfl, rfl, rfl, three_ok.1.1, three_ok.1.2, by simp, by simp, by simp⟩
  split at h
  · cases h; exact ⟨rfl, rfl, rfl, three_ok.1.1, three_ok.1.2, by simp, by simp, by simp⟩
  split at h
  · cases h; exact ⟨rfl, rfl, rfl, three_ok.2.1, three_ok.2.2, by simp, by simp, by simp⟩
  split at h
  · rename_i op hop
    cases h
    obtain ⟨a, k, h1, h2, rfl⟩ := accFrom_form name accN 0 op hop
    have := acc_known ⟨a, h1⟩ ⟨k, by simpa [accN] using h2⟩
    exact ⟨rfl, rfl, rfl, this.1, this.2.1, by simp, by simp, fun _ => rfl⟩
  · split at h
    · rename_i op hop
      cases h
      unfold kindP at hop
      split at hop
      · have := kind_ok 4 6 (Or.inl ⟨rfl, rfl⟩) _ _ hop
        exact ⟨rfl, rfl, rfl, this.1, this.2, by simp, by simp, fun _ => rfl⟩
      · have := kind_ok 7 5 (Or.inr ⟨rfl, rfl⟩) _ _ hop
        exact ⟨rfl, rfl, rfl, this.1, this.2, by simp, by simp, fun _ => rfl⟩
    · cases h

theorem good_intro (i : In) (ok : i.Ok) (hk : knownB i.op = true) (h1 : 0 ∉ fieldsP i.op → i.dst = 0) (h2 : i.dst ≤ 10) (h3 : i.src ≤ 10) (h4 : ¬ (1 ∈ fieldsP i.op ∨ 2 ∈ fieldsP i.op ∧ regB i.op = true ∨ i.op = 24 ∨ i.op = 133) → i.src = 0)
    (h5 : 3 ∉ fieldsP i.op → i.off = 0) (h6 : ¬ (4 ∈ fieldsP i.op ∨ 5 ∈ fieldsP i.op ∨ 2 ∈ fieldsP i.op ∧ regB i.op = false) → i.imm = 0) (h7 : i.op = 133 ∨ i.op = 24 → i.src ≤ 1) : Good i := by
  refine ⟨⟨ok, hk, h2, h3⟩, (bad_parts i).2 ?_⟩
  obtain ⟨n, hnn⟩ := Int.eq_ofNat_of_zero_le ok.op0
  have hn2 := ok.op1
  have us := uses_all ⟨n, by omega⟩ (by rw [← hnn]; exact hk)
  simp only [← hnn] at us
  obtain ⟨ud, uo, us', ui⟩ := us
  rw [ud, uo, us', ui]
  refine ⟨fun a => h1 (by simpa using a), fun _ => h2, fun _ => h3, fun a => h4 ?_, fun a => h5 (by simpa using a), fun a => h6 ?_, h7⟩
  · simp only [Bool.or_eq_false_iff, Bool.and_eq_false_imp, decide_eq_false_iff_not, decide_eq_true_eq] at a
    rintro (c | c | c | c)
    · exact a.1.1.1 c
    · have := a.1.1.2 c.1
      rw [c.2] at this
      cases this
    · exact a.1.2 c
    · exact a.2 c
  · simp only [Bool.or_eq_false_iff, Bool.and_eq_false_imp, decide_eq_false_iff_not, decide_eq_true_eq, Bool.not_eq_false'] at a
    rintro (c | c | c)
    · exact a.1.1 c
    · exact a.1.2 c
    · have := a.2 c.1
      rw [c.2] at this
      cases this
theorem orR_known : ∀ x : Fin 256, knownB x.val = true → 2 ∈ fieldsP x.val → opB x.val = x.val → knownB (orR x.val) = true ∧ fieldsP (orR x.val) = fieldsP x.val ∧ regB (orR x.val) = true ∧ ¬ (orR x.val = 24 ∨ orR x.val = 133) ∧ wideB (orR x.val) = false ∧ orR x.val ≤ 255 ∧ 0 ≤ orR x.val := by decide +kernel
theorem noreg_all : ∀ x : Fin 256, knownB x.val = true → 2 ∈ fieldsP x.val → opB x.val = x.val → regB x.val = false := by decide +kernel
theorem reg_val {x : Bs} {v : Nat} (h : regP x = some v) : v ≤ 10 := ((regP_iff x v).1 h).2
theorem sgn32_val {x : Bs} {v : Int} (h : sgnP 32 x = some v) : -2147483648 ≤ v ∧ v ≤ 2147483647 := by
  have := ((sgnP_iff 32 (by omega) (by omega) x v).1 h).2
  have e : (2 : Nat) ^ (32 - 1) = 2147483648 := by decide
  rw [e] at this
  omega
theorem sgn16_val {x : Bs} {v : Int} (h : sgnP 16 x = some v) : -32768 ≤ v ∧ v ≤ 32767 := by
  have := ((sgnP_iff 16 (by omega) (by omega) x v).1 h).2
  have e : (2 : Nat) ^ (16 - 1) = 32768 := by decide
  rw [e] at this
  omega
theorem split_ok (d s : Int) (v : Nat) (d0 : 0 ≤ d) (d1 : d ≤ 10) (s0 : 0 ≤ s) (s1 : s ≤ 1) : Grp (splitOf d s v) := by
  refine Or.inr ⟨_, _, rfl, ?_, (show wideB 24 = true by decide), by simp [tailB], ?_⟩
  · refine good_intro _ ⟨by simp, by simp, d0, by simp only; omega, s0, by simp only; omega, by simp, by simp, by simp only [wrap32]; omega, by simp only [wrap32]; omega⟩ three_ok.1.1 ?_ d1 (by simp only; omega) ?_ ?_ ?_ ?_
    · intro h; exact absurd (show 0 ∈ fieldsP 24 by decide) h
    · intro h; exact absurd (Or.inr (Or.inr (Or.inl rfl))) h
    · intro _; rfl
    · intro h; exact absurd (Or.inr (Or.inl (show 5 ∈ fieldsP 24 by decide))) h
    · intro _; exact s1
  · exact ⟨by simp, by simp, by simp, by simp, by simp, by simp, by simp, by simp, by simp only [wrap32]; omega, by simp only [wrap32]; omega⟩

set_option maxHeartbeats 2000000 in
theorem run_grp (j : In) (q : NameOk j) (q0 : 0 ≤ j.op) (q1 : j.op ≤ 255) (rest : List Bs) (hb : (runL (fieldsP j.op) ⟨[j], rest, false⟩).bad = false) : Grp (runL (fieldsP j.op) ⟨[j], rest, false⟩).L := by
  obtain ⟨op, dst, src, off, imm⟩ := j
  obtain ⟨rfl, rfl, rfl, hk, hop, s0, s1, hsrc⟩ := q
  simp only at hk hop s0 s1 hsrc q0 q1 hb ⊢
  obtain ⟨n, hnn⟩ := Int.eq_ofNat_of_zero_le q0
  have sh := shapes_all ⟨n, by omega⟩ (by rw [← hnn]; exact hk)
  have oK := orR_known ⟨n, by omega⟩ (by rw [← hnn]; exact hk)
  have nR := noreg_all ⟨n, by omega⟩ (by rw [← hnn]; exact hk)
  simp only [← hnn] at sh oK nR
  obtain ⟨-, s2, -, -, s5⟩ := sh
  rcases s2 with ⟨hx, hf⟩ | ⟨hx, hf⟩ | ⟨hx, hf⟩
  · rw [hf] at hb ⊢
    cases h0 : regP (hd rest) with
    | none => simp [runL, stepL, stepB, h0] at hb
    | some v =>
      have := reg_val h0
      have e : (runL [0, 5] ⟨[⟨op, 0, src, 0, 0⟩], rest, false⟩).L = splitOf (v : Int) src ((natP (hd (tl rest))).getD 0 : Nat) := by simp [runL, stepL, stepI, h0]
      rw [e]
      exact split_ok _ _ _ (by omega) (by omega) s0 s1
  · have hz := hsrc hx
    subst hz
    have hw : wideB op = false := by
      cases h : wideB op with
      | false => rfl
      | true => exact absurd (Or.inl (s5.1 h)) hx
    have hx1 : ¬ op = 24 := fun h => hx (Or.inl h)
    have hx2 : ¬ op = 133 := fun h => hx (Or.inr h)
    rcases hf with hf | hf | hf | hf | hf | hf | hf | hf
    · rw [hf] at hb ⊢
      cases h0 : regP (hd rest) with
      | none => simp [runL, stepL, stepB, h0] at hb
      | some v0 =>
        have g0 := reg_val h0
        cases h1 : regP (hd (tl rest)) with
        | none => simp [runL, stepL, stepB, h0, h1] at hb
        | some v1 =>
          have g1 := reg_val h1
          cases h2 : sgnP 16 (hd (tl (tl rest))) with
          | none => simp [runL, stepL, stepB, h0, h1, h2] at hb
          | some v2 =>
            have g2 := sgn16_val h2
            have e : (runL [0, 1, 3] ⟨[⟨op, 0, 0, 0, 0⟩], rest, false⟩).L = [⟨op, ((v0 : Nat) : Int), ((v1 : Nat) : Int), v2, 0⟩] := by simp [runL, stepL, stepI, h0, h1, h2]
            rw [e]
            refine Or.inl ⟨_, rfl, good_intro _ ⟨by simp only; omega, by simp only; omega, by simp only; omega, by simp only; omega, by simp only; omega, by simp only; omega, by simp only; omega, by simp only; omega, by simp only; omega, by simp only; omega⟩ hk ?_ (by simp only; omega) (by simp only; omega) ?_ ?_ ?_ ?_, hw⟩
            · simp only [hf]; simp
            · simp only [hf]; simp
            · simp only [hf]; simp
            · simp only [hf]; simp
            · intro h; exact absurd h.symm hx
    · rw [hf] at hb ⊢
      cases h0 : regP (hd rest) with
      | none => simp [runL, stepL, stepB, h0] at hb
      | some v0 =>
        have g0 := reg_val h0
        cases h1 : sgnP 16 (hd (tl rest)) with
        | none => simp [runL, stepL, stepB, h0, h1] at hb
        | some v1 =>
          have g1 := sgn16_val h1
          cases h2 : sgnP 32 (hd (tl (tl rest))) with
          | none => simp [runL, stepL, stepB, h0, h1, h2] at hb
          | some v2 =>
            have g2 := sgn32_val h2
            have e : (runL [0, 3, 4] ⟨[⟨op, 0, 0, 0, 0⟩], rest, false⟩).L = [⟨op, ((v0 : Nat) : Int), 0, v1, v2⟩] := by simp [runL, stepL, stepI, h0, h1, h2]
            rw [e]
            refine Or.inl ⟨_, rfl, good_intro _ ⟨by simp only; omega, by simp only; omega, by simp only; omega, by simp only; omega, by simp only; omega, by simp only; omega, by simp only; omega, by simp only; omega, by simp only; omega, by simp only; omega⟩ hk ?_ (by simp only; omega) (by simp only; omega) ?_ ?_ ?_ ?_, hw⟩
            · simp only [hf]; simp
            · simp only [hf]; simp
            · simp only [hf]; simp
            · simp only [hf]; simp
            · intro h; exact absurd h.symm hx
    · rw [hf] at hb ⊢
      cases h0 : regP (hd rest) with
      | none => simp [runL, stepL, stepB, h0] at hb
      | some v0 =>
        have g0 := reg_val h0
        cases h1 : sgnP 16 (hd (tl rest)) with
        | none => simp [runL, stepL, stepB, h0, h1] at hb
        | some v1 =>
          have g1 := sgn16_val h1
          cases h2 : regP (hd (tl (tl rest))) with
          | none => simp [runL, stepL, stepB, h0, h1, h2] at hb
          | some v2 =>
            have g2 := reg_val h2
            have e : (runL [0, 3, 1] ⟨[⟨op, 0, 0, 0, 0⟩], rest, false⟩).L = [⟨op, ((v0 : Nat) : Int), ((v2 : Nat) : Int), v1, 0⟩] := by simp [runL, stepL, stepI, h0, h1, h2]
            rw [e]
            refine Or.inl ⟨_, rfl, good_intro _ ⟨by simp only; omega, by simp only; omega, by simp only; omega, by simp only; omega, by simp only; omega, by simp only; omega, by simp only; omega, by simp only; omega, by simp only; omega, by simp only; omega⟩ hk ?_ (by simp only; omega) (by simp only; omega) ?_ ?_ ?_ ?_, hw⟩
            · simp only [hf]; simp
            · simp only [hf]; simp
            · simp only [hf]; simp
            · simp only [hf]; simp
            · intro h; exact absurd h.symm hx
    · rw [hf] at hb ⊢
      cases h0 : regP (hd rest) with
      | none => simp [runL, stepL, stepB, h0] at hb
      | some v0 =>
        have g0 := reg_val h0
        have e : (runL [0] ⟨[⟨op, 0, 0, 0, 0⟩], rest, false⟩).L = [⟨op, ((v0 : Nat) : Int), 0, 0, 0⟩] := by simp [runL, stepL, stepI, h0]
        rw [e]
        refine Or.inl ⟨_, rfl, good_intro _ ⟨by simp only; omega, by simp only; omega, by simp only; omega, by simp only; omega, by simp only; omega, by simp only; omega, by simp only; omega, by simp only; omega, by simp only; omega, by simp only; omega⟩ hk ?_ (by simp only; omega) (by simp only; omega) ?_ ?_ ?_ ?_, hw⟩
        · simp only [hf]; simp
        · simp only [hf]; simp
        · simp only [hf]; simp
        · simp only [hf]; simp
        · intro h; exact absurd h.symm hx
    · rw [hf] at hb ⊢
      cases h0 : sgnP 16 (hd rest) with
      | none => simp [runL, stepL, stepB, h0] at hb
      | some v0 =>
        have g0 := sgn16_val h0
        have e : (runL [3] ⟨[⟨op, 0, 0, 0, 0⟩], rest, false⟩).L = [⟨op, 0, 0, v0, 0⟩] := by simp [runL, stepL, stepI, h0]
        rw [e]
        refine Or.inl ⟨_, rfl, good_intro _ ⟨by simp only; omega, by simp only; omega, by simp only; omega, by simp only; omega, by simp only; omega, by simp only; omega, by simp only; omega, by simp only; omega, by simp only; omega, by simp only; omega⟩ hk ?_ (by simp only; omega) (by simp only; omega) ?_ ?_ ?_ ?_, hw⟩
        · simp only [hf]; simp
        · simp only [hf]; simp
        · simp only [hf]; simp
        · simp only [hf]; simp
        · intro h; exact absurd h.symm hx
    · rw [hf] at hb ⊢
      have e : (runL [] ⟨[⟨op, 0, 0, 0, 0⟩], rest, false⟩).L = [⟨op, 0, 0, 0, 0⟩] := by simp [runL]
      rw [e]
      refine Or.inl ⟨_, rfl, good_intro _ ⟨by simp only; omega, by simp only; omega, by simp only; omega, by simp only; omega, by simp only; omega, by simp only; omega, by simp only; omega, by simp only; omega, by simp only; omega, by simp only; omega⟩ hk ?_ (by simp only; omega) (by simp only; omega) ?_ ?_ ?_ ?_, hw⟩
      · simp only [hf]; simp
      · simp only [hf]; simp
      · simp only [hf]; simp
      · simp only [hf]; simp
      · intro h; exact absurd h.symm hx
    · have oK2 := oK (by rw [hf]; simp) hop
      have hr := nR (by rw [hf]; simp) hop
      rw [hf] at hb oK2 ⊢
      cases hp : Lib.hasPrefix (hd (tl rest)) [114] with
      | true =>
        cases h0 : regP (hd rest) with
        | none => simp [runL, stepL, stepB, h0] at hb
        | some v0 =>
          have g0 := reg_val h0
          cases h1 : regP (hd (tl rest)) with
          | none => simp [runL, stepL, stepB, h0, h1, hp] at hb
          | some v1 =>
            have g1 := reg_val h1
            have e : (runL [0, 2] ⟨[⟨op, 0, 0, 0, 0⟩], rest, false⟩).L = [⟨orR op, ((v0 : Nat) : Int), ((v1 : Nat) : Int), 0, 0⟩] := by simp [runL, stepL, stepI, h0, h1, hp]
            rw [e]
            refine Or.inl ⟨_, rfl, good_intro _ ⟨by simp only; omega, by simp only; omega, by simp only; omega, by simp only; omega, by simp only; omega, by simp only; omega, by simp only; omega, by simp only; omega, by simp only; omega, by simp only; omega⟩ oK2.1 ?_ (by simp only; omega) (by simp only; omega) ?_ ?_ ?_ ?_, oK2.2.2.2.2.1⟩
            · simp only [oK2.2.1]; simp
            · simp only [oK2.2.1, oK2.2.2.1]; simp
            · simp only [oK2.2.1]; simp
            · intro _; rfl
            · intro h; exact absurd h.symm oK2.2.2.2.1
      | false =>
        cases h0 : regP (hd rest) with
        | none => simp [runL, stepL, stepB, h0] at hb
        | some v0 =>
          have g0 := reg_val h0
          cases h1 : sgnP 32 (hd (tl rest)) with
          | none => simp [runL, stepL, stepB, h0, h1, hp] at hb
          | some v1 =>
            have g1 := sgn32_val h1
            have e : (runL [0, 2] ⟨[⟨op, 0, 0, 0, 0⟩], rest, false⟩).L = [⟨op, ((v0 : Nat) : Int), 0, 0, v1⟩] := by simp [runL, stepL, stepI, h0, h1, hp]
            rw [e]
            refine Or.inl ⟨_, rfl, good_intro _ ⟨by simp only; omega, by simp only; omega, by simp only; omega, by simp only; omega, by simp only; omega, by simp only; omega, by simp only; omega, by simp only; omega, by simp only; omega, by simp only; omega⟩ hk ?_ (by simp only; omega) (by simp only; omega) ?_ ?_ ?_ ?_, hw⟩
            · simp only [hf]; simp
            · simp only [hf]; simp
            · simp only [hf]; simp
            · simp only [hf, hr]; simp
            · intro h; exact absurd h.symm hx
    · have oK2 := oK (by rw [hf]; simp) hop
      have hr := nR (by rw [hf]; simp) hop
      rw [hf] at hb oK2 ⊢
      cases hp : Lib.hasPrefix (hd (tl rest)) [114] with
      | true =>
        cases h0 : regP (hd rest) with
        | none => simp [runL, stepL, stepB, h0] at hb
        | some v0 =>
          have g0 := reg_val h0
          cases h1 : regP (hd (tl rest)) with
          | none => simp [runL, stepL, stepB, h0, h1, hp] at hb
          | some v1 =>
            have g1 := reg_val h1
            cases h2 : sgnP 16 (hd (tl (tl rest))) with
            | none => simp [runL, stepL, stepB, h0, h1, h2, hp] at hb
            | some v2 =>
              have g2 := sgn16_val h2
              have e : (runL [0, 2, 3] ⟨[⟨op, 0, 0, 0, 0⟩], rest, false⟩).L = [⟨orR op, ((v0 : Nat) : Int), ((v1 : Nat) : Int), v2, 0⟩] := by simp [runL, stepL, stepI, h0, h1, h2, hp]
              rw [e]
              refine Or.inl ⟨_, rfl, good_intro _ ⟨by simp only; omega, by simp only; omega, by simp only; omega, by simp only; omega, by simp only; omega, by simp only; omega, by simp only; omega, by simp only; omega, by simp only; omega, by simp only; omega⟩ oK2.1 ?_ (by simp only; omega) (by simp only; omega) ?_ ?_ ?_ ?_, oK2.2.2.2.2.1⟩
              · simp only [oK2.2.1]; simp
              · simp only [oK2.2.1, oK2.2.2.1]; simp
              · simp only [oK2.2.1]; simp
              · intro _; rfl
              · intro h; exact absurd h.symm oK2.2.2.2.1
      | false =>
        cases h0 : regP (hd rest) with
        | none => simp [runL, stepL, stepB, h0] at hb
        | some v0 =>
          have g0 := reg_val h0
          cases h1 : sgnP 32 (hd (tl rest)) with
          | none => simp [runL, stepL, stepB, h0, h1, hp] at hb
          | some v1 =>
            have g1 := sgn32_val h1
            cases h2 : sgnP 16 (hd (tl (tl rest))) with
            | none => simp [runL, stepL, stepB, h0, h1, h2, hp] at hb
            | some v2 =>
              have g2 := sgn16_val h2
              have e : (runL [0, 2, 3] ⟨[⟨op, 0, 0, 0, 0⟩], rest, false⟩).L = [⟨op, ((v0 : Nat) : Int), 0, v2, v1⟩] := by simp [runL, stepL, stepI, h0, h1, h2, hp]
              rw [e]
              refine Or.inl ⟨_, rfl, good_intro _ ⟨by simp only; omega, by simp only; omega, by simp only; omega, by simp only; omega, by simp only; omega, by simp only; omega, by simp only; omega, by simp only; omega, by simp only; omega, by simp only; omega⟩ hk ?_ (by simp only; omega) (by simp only; omega) ?_ ?_ ?_ ?_, hw⟩
              · simp only [hf]; simp
              · simp only [hf]; simp
              · simp only [hf]; simp
              · simp only [hf, hr]; simp
              · intro h; exact absurd h.symm hx
  · rw [hf] at hb ⊢
    cases h0 : sgnP 32 (hd rest) with
    | none => simp [runL, stepL, stepB, h0] at hb
    | some v0 =>
      have g0 := sgn32_val h0
      have hw : wideB op = false := by
        cases h : wideB op with
        | false => rfl
        | true => have := s5.1 h; omega
      have e : (runL [4] ⟨[⟨op, 0, src, 0, 0⟩], rest, false⟩).L = [⟨op, 0, src, 0, v0⟩] := by simp [runL, stepL, stepI, h0]
      rw [e]
      refine Or.inl ⟨_, rfl, good_intro _ ⟨by simp only; omega, by simp only; omega, by simp only; omega, by simp only; omega, by simp only; omega, by simp only; omega, by simp only; omega, by simp only; omega, by simp only; omega, by simp only; omega⟩ hk ?_ (by simp only; omega) (by simp only; omega) ?_ ?_ ?_ ?_, hw⟩
      · intro _; rfl
      · intro h; exact absurd (Or.inr (Or.inr (Or.inr hx))) h
      · intro _; rfl
      · simp only [hf]; simp
      · intro _; exact s1
theorem slots_grp {ws : List Bs} {L : List In} (h : slotsW ws = some L) : L = [] ∨ Grp L := by
  unfold slotsW at h
  split at h
  · cases h; exact Or.inl rfl
  split at h
  · cases h; exact Or.inl rfl
  split at h
  · cases h
  · rename_i i hi
    split at h
    · cases h
    · rename_i hc
      cases h
      have hop := nameP_op hi
      exact Or.inr (run_grp i (nameP_ok hi) hop.1 hop.2 _ (by
        cases hbb : (runL (fieldsP i.op) ⟨[i], _, false⟩).bad with
        | false => rfl
        | true => exact absurd (Or.inl hbb) hc))
end Go.Proofs.YthlfnmjefpdjgaaGreatDoor
