/-
  The reference memory: Read.
-/
import Derived.Test.YtkfmhabplcikiaaMRef4
namespace Go.Proofs.Ytkfmhabplcikiaa.Mem
open Go.RowKit

def rlookE (all : List RReg) (addr n : Int) : Int := match accI all addr n canR with
  | none => 10
  | some i => if ((((all.getD i RReg.zero).set.drop (addr - (all.getD i RReg.zero).base).toNat).take n.toNat).all (fun x => x)) = true then 0 else 11
def rtell (all : List RReg) (addr n : Int) : List Int := match accI all addr n canR with
  | none => []
  | some i => if ((((all.getD i RReg.zero).set.drop (addr - (all.getD i RReg.zero).base).toNat).take n.toNat).all (fun x => x)) = true then ((all.getD i RReg.zero).bytes.drop (addr - (all.getD i RReg.zero).base).toNat).take n.toNat else []
def rreadE (all : List RReg) (addr n : Int) : Int := if n < 0 then 2 else if n = 0 then 0 else rlookE all addr n
def rreadV (all : List RReg) (addr n : Int) : List Int := if n ≤ 0 then [] else rtell all addr n
/-- Behind the reference's Read. -/
def RReadPost (w : World) (s : RS) (addr n : Int) (e : Ending) (w' : World) : Prop := ∃ v, e = .returned (.tuple #[v, .int .i64 (rreadE s.all addr n)]) ∧ OwnAt w w' v (rreadV s.all addr n) ∧ Touch [] w w'

theorem all_take_succ (l : List Bool) (k : Nat) (h : k < l.length) : (l.take (k + 1)).all (fun x => x) = ((l.take k).all (fun x => x) && l[k]) := by
  rw [List.take_succ_eq_append_getElem h, List.all_append]
  simp

theorem all_take_mono (l : List Bool) (j k : Nat) (h : j ≤ k) (hf : (l.take j).all (fun x => x) = false) : (l.take k).all (fun x => x) = false := by
  have e : l.take j = (l.take k).take j := by rw [List.take_take, Nat.min_eq_left h]
  rw [e] at hf
  rw [List.all_eq_false] at hf ⊢
  obtain ⟨x, hx, hb⟩ := hf
  exact ⟨x, List.mem_of_mem_take hx, hb⟩

end Go.Proofs.Ytkfmhabplcikiaa.Mem
