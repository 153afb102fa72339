/-
  The words of an instruction with a given operation.
-/
import Derived.Test.YthlfnmjefpdjgaaGreatDoorRReg
import Derived.Test.YthlfnmjefpdjgaaGreatDoorTexts
namespace Go.Proofs.YthlfnmjefpdjgaaGreatDoor
open Go.RowKit

/-- One field by its word. -/
def fldV (op : Int) (f : Nat) (x : Bs) (i nx : In) : Option (In × In) :=
  if f = 0 then (regP x).map fun v => (⟨i.op, (v : Int), i.src, i.off, i.imm⟩, nx) else
  if f = 1 then (regP x).map fun v => (⟨i.op, i.dst, (v : Int), i.off, i.imm⟩, nx) else
  if f = 2 then (sgnP 16 x).map fun v => (⟨i.op, i.dst, i.src, v, i.imm⟩, nx) else
  if op = 24 then (natP x).map fun v => (⟨i.op, i.dst, i.src, i.off, wrap32 ((v : Int) % 4294967296)⟩, ⟨nx.op, nx.dst, nx.src, nx.off, wrap32 ((v : Int) / 4294967296)⟩) else
  (sgnP 32 x).map fun v => (⟨i.op, i.dst, i.src, i.off, v⟩, nx)
def useB (u : Us) (f : Nat) : Bool := if f = 0 then u.d else if f = 1 then u.s else if f = 2 then u.o else u.i
/-- The fields in their order; what is left of the words. -/
def tryF (op : Int) (u : Us) : List Nat → List Bs → In → In → Option (In × In × List Bs)
  | [], fs, i, nx => some (i, nx, fs)
  | f :: os, fs, i, nx => if useB u f = true then (match fs with
    | [] => none
    | x :: fs' => match fldV op f x i nx with
      | none => none
      | some p => tryF op u os fs' p.1 p.2) else tryF op u os fs i nx
def ordOf (op : Int) : List Nat := if op % 8 = 2 ∨ op % 8 = 3 then [0, 2, 1, 3] else [0, 1, 3, 2]
def usOf (op : Int) : Us := if op = 133 ∨ op = 24 then ⟨(usesOf op).d, false, (usesOf op).o, (usesOf op).i⟩ else usesOf op
def inOf (op src : Int) : In := ⟨op, 0, if op = 133 ∨ op = 24 then src else 0, 0, 0⟩
/-- What try answers. -/
def tryP (op src : Int) (name : Bs) (fs : List Bs) : Option (List In) := match tryF op (usOf op) (ordOf op) fs (inOf op src) In.zero with
  | some (i, nx, []) => if (words (lineP i nx)).length = fs.length + 1 ∧ (words (lineP i nx)).head? = some name then some (if op = 24 then [i, nx] else [i]) else none
  | _ => none
theorem tryF_step (op : Int) (u : Us) (os : List Nat) (p : Nat) (f : Nat) (h : os[p]? = some f) (fs : List Bs) (i nx : In) : tryF op u (os.drop p) fs i nx = if useB u f = true then (match fs with
    | [] => none
    | x :: fs' => match fldV op f x i nx with
      | none => none
      | some q => tryF op u (os.drop (p + 1)) fs' q.1 q.2) else tryF op u (os.drop (p + 1)) fs i nx := by
  obtain ⟨h1, h2⟩ := List.getElem?_eq_some_iff.1 h
  rw [List.drop_eq_getElem_cons h1, h2]
  cases fs <;> rfl
theorem ord_lt (op : Int) (p f : Nat) (h : (ordOf op)[p]? = some f) : f < 4 := by
  have := List.mem_of_getElem? h
  unfold ordOf at this
  split at this <;> simp at this <;> omega
end Go.Proofs.YthlfnmjefpdjgaaGreatDoor
