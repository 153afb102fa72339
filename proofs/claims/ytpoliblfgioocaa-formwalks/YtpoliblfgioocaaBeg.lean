/-
  Where instructions and parts begin, what is at fault first: as functions of the slots. Of no walk.
-/
import Derived.Test.YtpoliblfgioocaaOf
namespace Go.Proofs.Ytpoliblfgioocaa
open Go.RowKit

/-- How many slots the instruction at k takes, and what is wrong with it. -/
def lenP (f : Nat → In) (n k : Nat) : Nat := (plainOf f n k).1.toNat
def errP (f : Nat → In) (n k : Nat) : Int := (plainOf f n k).2
theorem plain_err (f : Nat → In) (n k : Nat) : errP f n k = 0 ∨ errP f n k = 41 ∨ errP f n k = 42 := by
  unfold errP plainOf
  repeat' split
  all_goals simp
theorem plain_len {f : Nat → In} {n k : Nat} (hk : k < n) (he : errP f n k = 0) : (plainOf f n k).1 = (lenP f n k : Int) ∧ 1 ≤ lenP f n k ∧ k + lenP f n k ≤ n := by
  unfold lenP
  unfold errP at he
  revert he
  unfold plainOf
  repeat' split
  all_goals simp
  all_goals omega
theorem plain_eq {f : Nat → In} {n k : Nat} (hk : k < n) (he : errP f n k = 0) : plainOf f n k = ((lenP f n k : Int), 0) := by
  rw [← (plain_len hk he).1, ← he]
  rfl

/-- The slots from k on at which instructions begin. -/
def begFrom (f : Nat → In) (n k : Nat) : List Nat :=
  if _h : k < n ∧ errP f n k = 0 then k :: begFrom f n (k + lenP f n k) else []
termination_by n - k
decreasing_by
  have := plain_len _h.1 _h.2
  omega
theorem beg_step {f : Nat → In} {n k : Nat} (hk : k < n) (he : errP f n k = 0) : begFrom f n k = k :: begFrom f n (k + lenP f n k) := by
  rw [begFrom, dif_pos ⟨hk, he⟩]
theorem beg_stop {f : Nat → In} {n k : Nat} (h : ¬ (k < n ∧ errP f n k = 0)) : begFrom f n k = [] := by
  rw [begFrom, dif_neg h]
def begL (f : Nat → In) (n : Nat) : List Nat := begFrom f n 0
theorem beg_all (f : Nat → In) (n : Nat) : ∀ d k, n - k ≤ d → (∀ x ∈ begFrom f n k, k ≤ x ∧ x < n ∧ errP f n x = 0) ∧ (begFrom f n k).Pairwise (· < ·) := by
  intro d
  induction d with
  | zero =>
    intro k hd
    rw [beg_stop (by omega)]
    simp
  | succ d ih =>
    intro k hd
    by_cases h : k < n ∧ errP f n k = 0
    · have hl := plain_len h.1 h.2
      have := ih (k + lenP f n k) (by omega)
      rw [beg_step h.1 h.2]
      refine ⟨?_, ?_⟩
      · intro x hx
        rcases List.mem_cons.1 hx with rfl | hx
        · exact ⟨by omega, h.1, h.2⟩
        · have := this.1 x hx
          exact ⟨by omega, this.2.1, this.2.2⟩
      · refine List.pairwise_cons.2 ⟨fun x hx => ?_, this.2⟩
        have := this.1 x hx
        omega
    · rw [beg_stop h]
      simp
theorem begL_lt {f : Nat → In} {n x : Nat} (h : x ∈ begL f n) : x < n := ((beg_all f n n 0 (by omega)).1 x h).2.1
theorem begL_ok {f : Nat → In} {n x : Nat} (h : x ∈ begL f n) : errP f n x = 0 := ((beg_all f n n 0 (by omega)).1 x h).2.2
theorem begL_pair (f : Nat → In) (n : Nat) : (begL f n).Pairwise (· < ·) := (beg_all f n n 0 (by omega)).2

/-- The first instruction from k on that is wrong by itself. -/
def wrongFrom (f : Nat → In) (n k : Nat) : Option (Nat × Int) :=
  if _h : k < n ∧ errP f n k = 0 then (if forbidB (f k) = true then some (k, 42) else wrongFrom f n (k + lenP f n k)) else if k < n then some (k, errP f n k) else none
termination_by n - k
decreasing_by
  have := plain_len _h.1 _h.2
  omega
theorem wrong_err {f : Nat → In} {n k : Nat} (hk : k < n) (he : errP f n k ≠ 0) : wrongFrom f n k = some (k, errP f n k) := by
  rw [wrongFrom, dif_neg (fun h => he h.2), if_pos hk]
theorem wrong_forbid {f : Nat → In} {n k : Nat} (hk : k < n) (he : errP f n k = 0) (hf : forbidB (f k) = true) : wrongFrom f n k = some (k, 42) := by
  rw [wrongFrom, dif_pos ⟨hk, he⟩, if_pos hf]
theorem wrong_step {f : Nat → In} {n k : Nat} (hk : k < n) (he : errP f n k = 0) (hf : forbidB (f k) = false) : wrongFrom f n k = wrongFrom f n (k + lenP f n k) := by
  rw [wrongFrom, dif_pos ⟨hk, he⟩, if_neg (by rw [hf]; simp)]
theorem wrong_end {f : Nat → In} {n k : Nat} (hk : ¬ k < n) : wrongFrom f n k = none := by
  rw [wrongFrom, dif_neg (fun h => hk h.1), if_neg hk]
theorem wrong_pos {f : Nat → In} {n : Nat} : ∀ d k, n - k ≤ d → ∀ r, wrongFrom f n k = some r → r.2 ≠ 0 := by
  intro d
  induction d with
  | zero =>
    intro k hd r hr
    rw [wrong_end (by omega)] at hr
    cases hr
  | succ d ih =>
    intro k hd r hr
    by_cases hk : k < n
    · by_cases he : errP f n k = 0
      · cases hf : forbidB (f k)
        · rw [wrong_step hk he hf] at hr
          have := plain_len hk he
          exact ih _ (by omega) r hr
        · rw [wrong_forbid hk he hf] at hr
          cases hr
          show (42 : Int) ≠ 0
          decide
      · rw [wrong_err hk he] at hr
        cases hr
        exact he
    · rw [wrong_end hk] at hr
      cases hr
def wrongL (f : Nat → In) (n : Nat) : Option (Nat × Int) := wrongFrom f n 0

/-- Where the instruction at k leads, if that is a slot. -/
def tgtP (f : Nat → In) (n k : Nat) : Option Nat := (toP (f k) k).bind fun t => if 0 ≤ t ∧ t < (n : Int) then some t.toNat else none
theorem lead_to (i : In) (k : Int) (_ok : i.Ok) : leadB i = (toP i k).isSome := by
  unfold leadB jumpB partB toP
  by_cases h1 : i.op = 133 ∧ i.src = 1
  · simp [h1]
  · rw [if_neg h1]
    by_cases h2 : i.op = 133 ∨ i.op = 149 ∨ (i.op % 8 ≠ 5 ∧ i.op % 8 ≠ 6)
    · rw [if_pos h2]
      simp only [Option.isSome_none, Bool.or_eq_false_iff, decide_eq_false_iff_not]
      exact ⟨by omega, by omega⟩
    · rw [if_neg h2]
      simp only [Option.isSome_some, Bool.or_eq_true, decide_eq_true_eq]
      omega
theorem to_partB {i : In} {k : Int} (h : partB i = true) : toP i k = some (k + 1 + i.imm) := by
  simp only [partB, decide_eq_true_eq] at h
  exact to_call i k h.1 h.2
theorem to_jumpB {i : In} {k : Int} (h : jumpB i = true) : toP i k = some (k + 1 + i.off) := by
  simp only [jumpB, decide_eq_true_eq] at h
  exact to_jump i k h.2.1 h.2.2 h.1
theorem to_noneB {i : In} {k : Int} (h : jumpB i = false) (g : partB i = false) : toP i k = none := by
  simp only [partB, decide_eq_false_iff_not] at g
  simp only [jumpB, decide_eq_false_iff_not] at h
  exact to_not i k g (by omega)
theorem to_isJump {i : In} {k t : Int} (h : toP i k = some t) : i.op ≠ 133 ↔ jumpB i = true := by
  simp only [jumpB, decide_eq_true_eq]
  unfold toP at h
  split at h
  · omega
  · split at h
    · cases h
    · omega
theorem to_isPart {i : In} {k t : Int} (h : toP i k = some t) : i.op = 133 ↔ partB i = true := by
  simp only [partB, decide_eq_true_eq]
  unfold toP at h
  split at h
  · omega
  · split at h
    · cases h
    · omega
theorem tgt_lt {f : Nat → In} {n k t : Nat} (h : tgtP f n k = some t) : t < n ∧ toP (f k) k = some (t : Int) := by
  unfold tgtP at h
  cases ht : toP (f k) k with
  | none => rw [ht] at h; cases h
  | some u =>
    rw [ht, Option.bind_some] at h
    split at h
    · rename_i hu
      injection h with h
      subst h
      exact ⟨by omega, by congr 1; omega⟩
    · cases h
theorem tgt_of {f : Nat → In} {n k t : Nat} (h : toP (f k) k = some (t : Int)) (ht : t < n) : tgtP f n k = some t := by
  unfold tgtP
  rw [h, Option.bind_some, if_pos (by omega)]
  simp

/-- A jump or a call of a part whose target begins no instruction. -/
def strayB (f : Nat → In) (n k : Nat) : Bool := match toP (f k) k with
  | none => false
  | some t => !decide (∃ y ∈ begL f n, (y : Int) = t)
def isPartB (f : Nat → In) (n t : Nat) : Bool := decide (t = 0 ∨ ∃ k ∈ begL f n, partB (f k) = true ∧ tgtP f n k = some t)
def partsL (f : Nat → In) (n : Nat) : List Nat := (List.range n).filter (isPartB f n)
/-- A jump whose target lies in another part. -/
def crossB (f : Nat → In) (n k : Nat) : Bool := jumpB (f k) && match toP (f k) k with
  | none => false
  | some t => decide (ofP (partsL f n) t ≠ ofP (partsL f n) k)
/-- The last instruction of the first part that could run past its end, last being behind us. -/
def endFrom (f : Nat → In) (ps : List Nat) (last : Nat) : List Nat → Option Nat
  | [] => if closeB (f last) = true then none else some last
  | a :: l => if ofP ps a ≠ ofP ps last ∧ closeB (f last) = false then some last else endFrom f ps a l
def firstL (p : Nat → Bool) (l : List Nat) : Option Nat := l.find? p
/-- The verdict. -/
def checkP (f : Nat → In) (n : Nat) : Nat × Int :=
  if n = 0 ∨ 256 < n then (0, 40) else match wrongL f n with
  | some r => r
  | none => match firstL (strayB f n) (begL f n) with
    | some k => (k, 43)
    | none => match firstL (crossB f n) (begL f n) with
      | some k => (k, 43)
      | none => match endFrom f (partsL f n) 0 (begL f n) with
        | some k => (k, 44)
        | none => (0, 0)
end Go.Proofs.Ytpoliblfgioocaa
