/-
  No cell of these rows narrows 'for every input' (looked for: loops, veiled, ifaces, maps, wideKeys, modest, calm, conditions, laid).
  DERIVED. THE GIVEN ROWS OF THIS SEAT. 4 by the template 'for every input the law returns true; each argument reads behind the call as it read before'; 0 by the template 'total and deterministic' (their statements: YtpoliblfgioocaaTotals.lean).
  GIVEN WITH THE SEED: the statements are not yours to turn. If you find one false, say at which input.
  Laid BY PROGRAM, IN A SANDBOX (cutbox-rows.mjs): the forced cells as the released guide's own fill.sh prints them over the translation 122f43afe00aeec4… (all of the seat's roots in one cut). By AI agents, Wed Nov 11 2026. No macro, syntax, notation, axiom, sorry.
-/
import Derived.Test.YtpoliblfgioocaaChecked
import GoSem.Claim
import GoSem.ClaimJoined
import GoSem.ClaimMapViews
import Derived.JoinedTies
import Derived.KernelRfl
namespace Go.Proofs.Ytpoliblfgioocaa
/- THE CELL 'sum', in the pinned program and in every row, IS THE sha256 OF THE DUMP (.gsa) THAT YtpoliblfgioocaaProg.lean LOADS. Nothing in Lean hashes anything: it is a label: what it is worth is what the hold of that sum in a sandbox is worth. -/
noncomputable def Try.pinned : Pinned := { name := "ytpoliblfgioocaa", sum := "122f43afe00aeec477bdd6f35bddf119e2f3c1907680a4e30b44e173a790947c", checked := Try.checked }
namespace Rows
def none {H : Type} : Left H := { results := [], args := [] }

/-- 'posternlaw04.FormChecks': WHATEVER THE INPUT: true; the input reads as it did. -/
def formChecksSpec : ChangeSpec := { name := "formChecks", fn := fun _ => fun
  | [d] => { results := [.lit (.bool true)], args := [d] }
  | _ => none }
def formChecksRow : OpenClaim := { program := "ytpoliblfgioocaa", sum := "122f43afe00aeec477bdd6f35bddf119e2f3c1907680a4e30b44e173a790947c", func := "postern/posternlaw04.FormChecks", spec := "formChecks", unfollowed := true, recurses := true, apart := false }
def FormChecksSaid : Prop := formChecksRow.holds Try.pinned (OpenSpec.ofChange formChecksSpec)

/-- ITS FALSE NEIGHBOUR: 'it returns false'. Refute it at one input. -/
def formChecksWrong : ChangeSpec := { name := "formChecks", fn := fun _ => fun
  | [d] => { results := [.lit (.bool false)], args := [d] }
  | _ => none }
def FormChecksWrongFalsely : Prop := formChecksRow.holds Try.pinned (OpenSpec.ofChange formChecksWrong)

/-- 'posternlaw04.FormParts': WHATEVER THE INPUT: true; the input reads as it did. -/
def formPartsSpec : ChangeSpec := { name := "formParts", fn := fun _ => fun
  | [d1, d2] => { results := [.lit (.bool true)], args := [d1, d2] }
  | _ => none }
def formPartsRow : OpenClaim := { program := "ytpoliblfgioocaa", sum := "122f43afe00aeec477bdd6f35bddf119e2f3c1907680a4e30b44e173a790947c", func := "postern/posternlaw04.FormParts", spec := "formParts", unfollowed := true, recurses := true, apart := false }
def FormPartsSaid : Prop := formPartsRow.holds Try.pinned (OpenSpec.ofChange formPartsSpec)

/-- ITS FALSE NEIGHBOUR: 'it returns false'. Refute it at one input. -/
def formPartsWrong : ChangeSpec := { name := "formParts", fn := fun _ => fun
  | [d1, d2] => { results := [.lit (.bool false)], args := [d1, d2] }
  | _ => none }
def FormPartsWrongFalsely : Prop := formPartsRow.holds Try.pinned (OpenSpec.ofChange formPartsWrong)

/-- 'posternlaw04.FormWalks': WHATEVER THE INPUT: true; the input reads as it did. -/
def formWalksSpec : ChangeSpec := { name := "formWalks", fn := fun _ => fun
  | [d] => { results := [.lit (.bool true)], args := [d] }
  | _ => none }
def formWalksRow : OpenClaim := { program := "ytpoliblfgioocaa", sum := "122f43afe00aeec477bdd6f35bddf119e2f3c1907680a4e30b44e173a790947c", func := "postern/posternlaw04.FormWalks", spec := "formWalks", unfollowed := true, recurses := true, apart := false }
def FormWalksSaid : Prop := formWalksRow.holds Try.pinned (OpenSpec.ofChange formWalksSpec)

/-- ITS FALSE NEIGHBOUR: 'it returns false'. Refute it at one input. -/
def formWalksWrong : ChangeSpec := { name := "formWalks", fn := fun _ => fun
  | [d] => { results := [.lit (.bool false)], args := [d] }
  | _ => none }
def FormWalksWrongFalsely : Prop := formWalksRow.holds Try.pinned (OpenSpec.ofChange formWalksWrong)

/-- 'posternlaw04.FormJoins': WHATEVER THE INPUT: true; the input reads as it did. -/
def formJoinsSpec : ChangeSpec := { name := "formJoins", fn := fun _ => fun
  | [d1, d2] => { results := [.lit (.bool true)], args := [d1, d2] }
  | _ => none }
def formJoinsRow : OpenClaim := { program := "ytpoliblfgioocaa", sum := "122f43afe00aeec477bdd6f35bddf119e2f3c1907680a4e30b44e173a790947c", func := "postern/posternlaw04.FormJoins", spec := "formJoins", unfollowed := true, recurses := true, apart := false }
def FormJoinsSaid : Prop := formJoinsRow.holds Try.pinned (OpenSpec.ofChange formJoinsSpec)

/-- ITS FALSE NEIGHBOUR: 'it returns false'. Refute it at one input. -/
def formJoinsWrong : ChangeSpec := { name := "formJoins", fn := fun _ => fun
  | [d1, d2] => { results := [.lit (.bool false)], args := [d1, d2] }
  | _ => none }
def FormJoinsWrongFalsely : Prop := formJoinsRow.holds Try.pinned (OpenSpec.ofChange formJoinsWrong)

/- THE SECOND FORM. 'bulk': how many values and letters a reading holds, each counted each time it is reached (what is shared counts as often as it is met; a slice's spare places count too). A statement '..UptoSaid' is the law's where the arguments, and the package variables that the reading takes, are together of bulk at most 1048576: NARROWER than '..Said'. Prove '..Said' where nothing that the law and all that it calls make is longer than what came in: it says more and counts as full. Else prove '..UptoSaid'. A law counts once. -/
mutual
def uptoBulk {H : Type} : DataW H → Nat
  | .lit (.string bytes) => bytes.length + 1
  | .lit _ => 1
  | .nil => 1
  | .ptr d => uptoBulk d + 1
  | .slice elems spare => uptoBulkAll elems + uptoBulkAll spare + 1
  | .agg parts => uptoBulkAll parts + 1
  | .iface _ d => uptoBulk d + 1
  | .map entries => uptoBulkEntries entries + 1
  | .held _ => 1
def uptoBulkAll {H : Type} : List (DataW H) → Nat
  | [] => 0
  | d :: r => uptoBulk d + uptoBulkAll r
def uptoBulkEntries {H : Type} : List (Lit × DataW H) → Nat
  | [] => 0
  | x :: r => uptoBulkEntry x + uptoBulkEntries r
def uptoBulkEntry {H : Type} : Lit × DataW H → Nat
  | (.string bytes, d) => bytes.length + uptoBulk d + 1
  | (_, d) => uptoBulk d + 1
 end
def uptoSmall : (H : Type) → List (DataW H) → Bool := fun _ ds => decide (uptoBulkAll ds ≤ 1048576)
def OpenSpec.upto (s : _root_.Go.ChangeSpec) : _root_.Go.OpenSpec := { _root_.Go.OpenSpec.ofChange s with cond := some uptoSmall }

/-- 'posternlaw04.FormChecks', WHERE WHAT IT READS IS OF BULK AT MOST 1048576: true; the input reads as it did. -/
def formChecksUptoRow : OpenClaim := { program := "ytpoliblfgioocaa", sum := "122f43afe00aeec477bdd6f35bddf119e2f3c1907680a4e30b44e173a790947c", func := "postern/posternlaw04.FormChecks", spec := "formChecks", unfollowed := true, recurses := true, apart := false, narrowed := true }
def FormChecksUptoSaid : Prop := formChecksUptoRow.holds Try.pinned (OpenSpec.upto formChecksSpec)

/-- 'posternlaw04.FormParts', WHERE WHAT IT READS IS OF BULK AT MOST 1048576: true; the input reads as it did. -/
def formPartsUptoRow : OpenClaim := { program := "ytpoliblfgioocaa", sum := "122f43afe00aeec477bdd6f35bddf119e2f3c1907680a4e30b44e173a790947c", func := "postern/posternlaw04.FormParts", spec := "formParts", unfollowed := true, recurses := true, apart := false, narrowed := true }
def FormPartsUptoSaid : Prop := formPartsUptoRow.holds Try.pinned (OpenSpec.upto formPartsSpec)

/-- 'posternlaw04.FormWalks', WHERE WHAT IT READS IS OF BULK AT MOST 1048576: true; the input reads as it did. -/
def formWalksUptoRow : OpenClaim := { program := "ytpoliblfgioocaa", sum := "122f43afe00aeec477bdd6f35bddf119e2f3c1907680a4e30b44e173a790947c", func := "postern/posternlaw04.FormWalks", spec := "formWalks", unfollowed := true, recurses := true, apart := false, narrowed := true }
def FormWalksUptoSaid : Prop := formWalksUptoRow.holds Try.pinned (OpenSpec.upto formWalksSpec)

/-- 'posternlaw04.FormJoins', WHERE WHAT IT READS IS OF BULK AT MOST 1048576: true; the input reads as it did. -/
def formJoinsUptoRow : OpenClaim := { program := "ytpoliblfgioocaa", sum := "122f43afe00aeec477bdd6f35bddf119e2f3c1907680a4e30b44e173a790947c", func := "postern/posternlaw04.FormJoins", spec := "formJoins", unfollowed := true, recurses := true, apart := false, narrowed := true }
def FormJoinsUptoSaid : Prop := formJoinsUptoRow.holds Try.pinned (OpenSpec.upto formJoinsSpec)

end Rows
end Go.Proofs.Ytpoliblfgioocaa
