/-
  What the reference's try answers: the post.
-/
import Derived.Test.YthlfnmjefpdjgaaGreatDoorTryP
import Derived.Test.YthlfnmjefpdjgaaGreatDoorRLine
namespace Go.Proofs.YthlfnmjefpdjgaaGreatDoor
open Go.RowKit

def TryPost (w : World) (r : Option (List In)) (e : Ending) (w' : World) : Prop := Touch [] w w' ∧ match r with
  | none => e = .returned (.tuple #[.slice none 0 0, .bool false])
  | some L => ∃ N, e = .returned (.tuple #[.slice (some ⟨N, 0, none⟩) L.length L.length, .bool true]) ∧ w.heap.size ≤ N ∧ Blk w' N (L.flatMap In.cells) 41

end Go.Proofs.YthlfnmjefpdjgaaGreatDoor
