/-
  look, Store, Load, Read, Write of a memory.
-/
import Derived.Test.YtkfmhabplcikiaaMLay
namespace Go.Proofs.Ytkfmhabplcikiaa.Mem
open Go.RowKit

def lookE (rs : List Reg) (addr n : Int) : Int := match findR rs addr with
  | none => 10
  | some r => if mayB r addr n 1 = true then (if allSetB r (addr - r.base).toNat n.toNat = true then 0 else 11) else 10
/-- The bytes that are told. -/
def tellR (rs : List Reg) (addr n : Int) : List Int := match findR rs addr with
  | none => []
  | some r => if mayB r addr n 1 = true ∧ allSetB r (addr - r.base).toNat n.toNat = true then (r.bytes.drop (addr - r.base).toNat).take n.toNat else []

/-- Behind look. -/
def LookPost (w : World) (s : MS) (addr : Int) (n : Nat) (e : Ending) (w' : World) : Prop := (∃ k, w' = w.drewN k) ∧
      ((lookE s.rs addr n ≠ 0 ∧ tellR s.rs addr n = [] ∧ e = .returned (.tuple #[.slice none 0 0, .int .i64 (lookE s.rs addr n)])) ∨
       (lookE s.rs addr n = 0 ∧ ∃ r ∈ s.rs, ∃ a : Nat, a + n ≤ r.bytes.length ∧ tellR s.rs addr n = (r.bytes.drop a).take n ∧ e = .returned (.tuple #[.slice (some ⟨r.bb, a, none⟩) n n, .int .i64 0])))

def wordB (n : Int) : Bool := n == 1 || n == 2 || n == 4 || n == 8
theorem word_of {n : Int} (h : wordB n = true) : n = 1 ∨ n = 2 ∨ n = 4 ∨ n = 8 := by
  unfold wordB at h
  simp at h
  omega

def loadE (rs : List Reg) (addr n : Int) : Int := if wordB n = true then lookE rs addr n else 2
def loadV (rs : List Reg) (addr n : Int) : Int := if wordB n = true ∧ lookE rs addr n = 0 then num (fun j => (tellR rs addr n).getD j 0) n.toNat else 0
def storeE (rs : List Reg) (addr n : Int) : Int := if wordB n = true then layE rs addr n else 2
def storeRs (rs : List Reg) (addr n v : Int) : List Reg := if wordB n = true then layRs rs addr ((List.range n.toNat).map (byteOf v)) else rs

end Go.Proofs.Ytkfmhabplcikiaa.Mem
