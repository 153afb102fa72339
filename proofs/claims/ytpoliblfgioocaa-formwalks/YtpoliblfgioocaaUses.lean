/-
  The document's own Uses: which fields an operation uses; and that it says what onlyUsed says.
-/
import Derived.Test.YtpoliblfgioocaaUsed2
namespace Go.Proofs.Ytpoliblfgioocaa
open Go.RowKit

/-- Which of Dst, Src, Off, Imm are used. -/
structure Us where
  d : Bool
  s : Bool
  o : Bool
  i : Bool
def Us.v (u : Us) : Value := .agg #[.bool u.d, .bool u.s, .bool u.o, .bool u.i]
def usesOf (op : Int) : Us :=
  if op % 8 = 0 then ⟨true, true, false, true⟩ else if op % 8 = 1 ∨ op % 8 = 3 then ⟨true, true, true, false⟩ else if op % 8 = 2 then ⟨true, false, true, true⟩ else
  if op % 8 = 4 ∨ op % 8 = 7 then (if op / 16 = 8 then ⟨true, false, false, false⟩ else ⟨true, regB op, false, !regB op⟩) else
  if op = 5 then ⟨false, false, true, false⟩ else if op = 133 then ⟨false, true, false, true⟩ else if op = 149 then ⟨false, false, false, false⟩ else ⟨true, regB op, true, !regB op⟩

theorem regB_eq (op : Int) : (op / 8 % 2 == 1) = regB op := by unfold regB; rw [Bool.eq_iff_iff]; simp

set_option maxHeartbeats 1000000 in
theorem ruses_any (op : Int) (w : World) (h0 : 0 ≤ op) (h1 : op ≤ 255) :
    Calls Try.prog 36 #[.int .i64 op] w fun e w' => e = .returned (usesOf op).v ∧ Touch [] w w' := by
  have hr := regB_eq op
  by_cases c0 : op % 8 = 0
  · go_enter Try.func36, Try.ntmps36
    go_wp2
    exact bodyPost_ret (v := .agg #[.bool true, .bool true, .bool false, .bool true]) (by simp [results, Try.results36, go_sem]) rfl ⟨by simp [usesOf, Us.v, c0], (Touch.refl _ w).alloc _⟩
  by_cases c1 : op % 8 = 1 ∨ op % 8 = 3
  · rcases c1 with c1 | c1
    all_goals
      go_enter Try.func36, Try.ntmps36
      go_wp2
      exact bodyPost_ret (v := .agg #[.bool true, .bool true, .bool true, .bool false]) (by simp [results, Try.results36, go_sem]) rfl ⟨by simp [usesOf, Us.v, c1], (Touch.refl _ w).alloc _⟩
  by_cases c2 : op % 8 = 2
  · go_enter Try.func36, Try.ntmps36
    go_wp2
    exact bodyPost_ret (v := .agg #[.bool true, .bool false, .bool true, .bool true]) (by simp [results, Try.results36, go_sem]) rfl ⟨by simp [usesOf, Us.v, c2], (Touch.refl _ w).alloc _⟩
  by_cases c3 : op % 8 = 4 ∨ op % 8 = 7
  · by_cases h8 : op / 16 = 8
    · rcases c3 with c3 | c3
      all_goals
        go_enter Try.func36, Try.ntmps36
        go_wp2
        exact bodyPost_ret (v := .agg #[.bool true, .bool false, .bool false, .bool false]) (by simp [results, Try.results36, go_sem]) rfl ⟨by simp [usesOf, Us.v, c3, h8], (Touch.refl _ w).alloc _⟩
    · rcases c3 with c3 | c3
      all_goals
        go_enter Try.func36, Try.ntmps36
        go_wp2
        exact bodyPost_ret (v := .agg #[.bool true, .bool (regB op), .bool false, .bool (!regB op)]) (by simp [results, Try.results36, go_sem]) rfl ⟨by simp [usesOf, Us.v, c3, h8], (Touch.refl _ w).alloc _⟩
  have d1 : ¬ op % 8 = 1 := by omega
  have d3 : ¬ op % 8 = 3 := by omega
  have d4 : ¬ op % 8 = 4 := by omega
  have d7 : ¬ op % 8 = 7 := by omega
  by_cases e5 : op = 5
  · go_enter Try.func36, Try.ntmps36
    go_wp2
    exact bodyPost_ret (v := .agg #[.bool false, .bool false, .bool true, .bool false]) (by simp [results, Try.results36, go_sem]) rfl ⟨by simp [usesOf, Us.v, e5], (Touch.refl _ w).alloc _⟩
  by_cases e133 : op = 133
  · go_enter Try.func36, Try.ntmps36
    go_wp2
    exact bodyPost_ret (v := .agg #[.bool false, .bool true, .bool false, .bool true]) (by simp [results, Try.results36, go_sem]) rfl ⟨by simp [usesOf, Us.v, e133], (Touch.refl _ w).alloc _⟩
  by_cases e149 : op = 149
  · go_enter Try.func36, Try.ntmps36
    go_wp2
    exact bodyPost_ret (v := .agg #[.bool false, .bool false, .bool false, .bool false]) (by simp [results, Try.results36, go_sem]) rfl ⟨by simp [usesOf, Us.v, e149], (Touch.refl _ w).alloc _⟩
  go_enter Try.func36, Try.ntmps36
  go_wp2
  exact bodyPost_ret (v := .agg #[.bool true, .bool (regB op), .bool true, .bool (!regB op)]) (by simp [results, Try.results36, go_sem]) rfl ⟨by simp [usesOf, Us.v, c0, d1, d3, c2, d4, d7, e5, e133, e149], (Touch.refl _ w).alloc _⟩

/-- What the document calls a fault of the fields. -/
def badB (i : In) : Bool := decide (((usesOf i.op).d = true ∧ 10 < i.dst ∨ (usesOf i.op).d = false ∧ i.dst ≠ 0 ∨ (usesOf i.op).s = true ∧ 10 < i.src ∨ (usesOf i.op).s = false ∧ i.src ≠ 0 ∨ (usesOf i.op).o = false ∧ i.off ≠ 0 ∨ (usesOf i.op).i = false ∧ i.imm ≠ 0) ∨
  (i.op = 133 ∨ i.op = 24) ∧ 1 < i.src)

def usedPat (op : Int) : Us := if wideB op = true then ⟨true, true, false, true⟩ else if accB op = true then (if op % 8 = 2 then ⟨true, false, true, true⟩ else ⟨true, true, true, false⟩) else
  if aluB op = true then (if negB op = true then ⟨true, false, false, false⟩ else if regB op = true then ⟨true, true, false, false⟩ else ⟨true, false, false, true⟩) else
  if condB op = true then (if regB op = true then ⟨true, true, true, false⟩ else ⟨true, false, true, true⟩) else if op / 16 = 0 then ⟨false, false, true, false⟩ else if op / 16 = 8 then ⟨false, true, false, true⟩ else ⟨false, false, false, false⟩
theorem pat_all : ∀ x : Fin 256, knownB x.val = true → (usedPat x.val).d = (usesOf x.val).d ∧ (usedPat x.val).s = (usesOf x.val).s ∧ (usedPat x.val).o = (usesOf x.val).o ∧ (usedPat x.val).i = (usesOf x.val).i := by decide +kernel
theorem src_all : ∀ x : Fin 256, knownB x.val = true → (srcMax x.val = 1 ∧ ((x.val : Int) = 133 ∨ (x.val : Int) = 24) ∧ (usesOf x.val).s = true) ∨ srcMax x.val = 10 ∧ ¬ ((x.val : Int) = 133 ∨ (x.val : Int) = 24) := by decide +kernel

theorem usedOf_pat (i : In) : usedOf i = ⟨i.op, if (usedPat i.op).d then i.dst else 0, if (usedPat i.op).s then i.src else 0, if (usedPat i.op).o then i.off else 0, if (usedPat i.op).i then i.imm else 0⟩ := by
  unfold usedOf usedPat
  cases wideB i.op <;> cases accB i.op <;> cases aluB i.op <;> cases condB i.op <;> simp [usedAccess, usedAlu, usedCond, usedBare]
  all_goals
    first
      | done
      | (by_cases h : i.op % 8 = 2 <;> simp [h]; done)
      | (cases negB i.op <;> cases regB i.op <;> simp; done)
      | (cases regB i.op <;> simp; done)
      | (by_cases h : i.op / 16 = 0 <;> by_cases h2 : i.op / 16 = 8 <;> simp [h, h2]; done)

/-- The fields of the instruction are those that it uses. -/
def sameB (i : In) : Bool := decide ((usedOf i).dst = i.dst ∧ (usedOf i).src = i.src ∧ (usedOf i).off = i.off ∧ (usedOf i).imm = i.imm)
theorem usedOf_op (i : In) : (usedOf i).op = i.op := by rw [usedOf_pat]
theorem same_eq {i : In} (h : sameB i = true) : usedOf i = i := by
  obtain ⟨h1, h2, h3, h4⟩ := of_decide_eq_true h
  have h0 := usedOf_op i
  cases hu : usedOf i
  cases i
  simp_all
theorem bad_iff (i : In) (hk : knownB i.op = true) (ok : i.Ok) : badB i = true ↔ sameB i = false ∨ 10 < i.dst ∨ srcMax i.op < i.src := by
  obtain ⟨n, hn⟩ := Int.eq_ofNat_of_zero_le ok.op0
  have hn2 := ok.op1
  have hp := pat_all ⟨n, by omega⟩
  have hs := src_all ⟨n, by omega⟩
  simp only [← hn] at hp hs
  obtain ⟨p1, p2, p3, p4⟩ := hp hk
  have hs := hs hk
  unfold badB sameB
  rw [usedOf_pat, p1, p2, p3, p4]
  simp only [decide_eq_true_iff, decide_eq_false_iff_not]
  have e0 := ok.dst0
  have e1 := ok.src0
  generalize usesOf i.op = u at *
  obtain ⟨d, s, o, m⟩ := u
  rcases hs with ⟨h1, h2, h3⟩ | ⟨h1, h2⟩
  · simp only at h3
    subst h3
    rw [h1]
    cases d <;> cases o <;> cases m <;> simp <;> omega
  · rw [h1]
    cases d <;> cases s <;> cases o <;> cases m <;> simp <;> omega
end Go.Proofs.Ytpoliblfgioocaa
