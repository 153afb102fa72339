/-
  The bytes of a number, lowest first.
-/
import Derived.Test.YtlkbaconlngmjaaBase
namespace Go.Proofs.Ytlkbaconlngmjaa
open Go.RowKit

/-- Byte j of a number. -/
def byteOf (v : Int) (j : Nat) : Int := v / 256 ^ j % 256
theorem byteOf_bd (v : Int) (j : Nat) : 0 ≤ byteOf v j ∧ byteOf v j ≤ 255 := by unfold byteOf; omega
theorem byte_shift (v : Int) (k : Nat) : v / 2 ^ (8 * k) % 256 = byteOf v k := by
  unfold byteOf
  rw [Int.pow_mul]
  rfl
/-- The key of a number. -/
def le4 (v : Int) : List Int := (List.range 4).map (byteOf v)
theorem le4_eq (v : Int) : le4 v = [byteOf v 0, byteOf v 1, byteOf v 2, byteOf v 3] := rfl
theorem le4_len (v : Int) : (le4 v).length = 4 := rfl
theorem le4_bd (v : Int) : ∀ x ∈ le4 v, 0 ≤ x ∧ x ≤ 255 := fun x hx => by
  obtain ⟨j, _, rfl⟩ := List.mem_map.1 hx
  exact byteOf_bd v j
/-- The keys below m. -/
def allKeys (m : Nat) : List (List Int) := (List.range m).map fun i : Nat => le4 (i : Int)
def keyNum (bs : List Int) : Int := num (fun j => bs.getD j 0) 4
theorem KeyAt.num4 {w : World} {sa : Option Addr} {sl : Nat} {bs : List Int} (h : KeyAt w sa sl bs) : 0 ≤ keyNum bs ∧ keyNum bs ≤ 4294967295 := by
  have := h.nums 4
  unfold keyNum
  omega

end Go.Proofs.Ytlkbaconlngmjaa
