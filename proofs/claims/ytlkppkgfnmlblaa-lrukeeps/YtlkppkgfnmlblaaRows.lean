/-
  No cell of these rows narrows 'for every input' (looked for: loops, veiled, ifaces, maps, wideKeys, modest, calm, conditions, laid).
  DERIVED. THE GIVEN ROWS OF THIS SEAT. 4 by the template 'for every input the law returns true; each argument reads behind the call as it read before'; 0 by the template 'total and deterministic' (their statements: YtlkppkgfnmlblaaTotals.lean).
  GIVEN WITH THE SEED: the statements are not yours to turn. If you find one false, say at which input.
  Laid BY PROGRAM, IN A SANDBOX (cutbox-rows.mjs): the forced cells as the released guide's own fill.sh prints them over the translation c552d171356ab6b9… (all of the seat's roots in one cut). By AI agents, Wed Nov 11 2026. No macro, syntax, notation, axiom, sorry.
-/
import Derived.Test.YtlkppkgfnmlblaaChecked
import GoSem.Claim
import GoSem.ClaimJoined
import GoSem.ClaimMapViews
import Derived.JoinedTies
import Derived.KernelRfl
namespace Go.Proofs.Ytlkppkgfnmlblaa
/- THE CELL 'sum', in the pinned program and in every row, IS THE sha256 OF THE DUMP (.gsa) THAT YtlkppkgfnmlblaaProg.lean LOADS. Nothing in Lean hashes anything: it is a label: what it is worth is what the hold of that sum in a sandbox is worth. -/
noncomputable def Try.pinned : Pinned := { name := "ytlkppkgfnmlblaa", sum := "c552d171356ab6b93b466e7dd342310a03dcbead6142a2ba4b4b5572312d4114", checked := Try.checked }
namespace Rows
def none {H : Type} : Left H := { results := [], args := [] }

/-- 'posternlaw08.LruPlays': WHATEVER THE INPUT: true; the input reads as it did. -/
def lruPlaysSpec : ChangeSpec := { name := "lruPlays", fn := fun _ => fun
  | [d1, d2] => { results := [.lit (.bool true)], args := [d1, d2] }
  | _ => none }
def lruPlaysRow : OpenClaim := { program := "ytlkppkgfnmlblaa", sum := "c552d171356ab6b93b466e7dd342310a03dcbead6142a2ba4b4b5572312d4114", func := "postern/posternlaw08.LruPlays", spec := "lruPlays", unfollowed := true, recurses := true, apart := false }
def LruPlaysSaid : Prop := lruPlaysRow.holds Try.pinned (OpenSpec.ofChange lruPlaysSpec)

/-- ITS FALSE NEIGHBOUR: 'it returns false'. Refute it at one input. -/
def lruPlaysWrong : ChangeSpec := { name := "lruPlays", fn := fun _ => fun
  | [d1, d2] => { results := [.lit (.bool false)], args := [d1, d2] }
  | _ => none }
def LruPlaysWrongFalsely : Prop := lruPlaysRow.holds Try.pinned (OpenSpec.ofChange lruPlaysWrong)

/-- 'posternlaw08.LruCopies': WHATEVER THE INPUT: true; the input reads as it did. -/
def lruCopiesSpec : ChangeSpec := { name := "lruCopies", fn := fun _ => fun
  | [d1, d2, d3] => { results := [.lit (.bool true)], args := [d1, d2, d3] }
  | _ => none }
def lruCopiesRow : OpenClaim := { program := "ytlkppkgfnmlblaa", sum := "c552d171356ab6b93b466e7dd342310a03dcbead6142a2ba4b4b5572312d4114", func := "postern/posternlaw08.LruCopies", spec := "lruCopies", unfollowed := true, recurses := true, apart := false }
def LruCopiesSaid : Prop := lruCopiesRow.holds Try.pinned (OpenSpec.ofChange lruCopiesSpec)

/-- ITS FALSE NEIGHBOUR: 'it returns false'. Refute it at one input. -/
def lruCopiesWrong : ChangeSpec := { name := "lruCopies", fn := fun _ => fun
  | [d1, d2, d3] => { results := [.lit (.bool false)], args := [d1, d2, d3] }
  | _ => none }
def LruCopiesWrongFalsely : Prop := lruCopiesRow.holds Try.pinned (OpenSpec.ofChange lruCopiesWrong)

/-- 'posternlaw08.LruKeeps': WHATEVER THE INPUT: true; the input reads as it did. -/
def lruKeepsSpec : ChangeSpec := { name := "lruKeeps", fn := fun _ => fun
  | [d1, d2] => { results := [.lit (.bool true)], args := [d1, d2] }
  | _ => none }
def lruKeepsRow : OpenClaim := { program := "ytlkppkgfnmlblaa", sum := "c552d171356ab6b93b466e7dd342310a03dcbead6142a2ba4b4b5572312d4114", func := "postern/posternlaw08.LruKeeps", spec := "lruKeeps", unfollowed := true, recurses := true, apart := false }
def LruKeepsSaid : Prop := lruKeepsRow.holds Try.pinned (OpenSpec.ofChange lruKeepsSpec)

/-- ITS FALSE NEIGHBOUR: 'it returns false'. Refute it at one input. -/
def lruKeepsWrong : ChangeSpec := { name := "lruKeeps", fn := fun _ => fun
  | [d1, d2] => { results := [.lit (.bool false)], args := [d1, d2] }
  | _ => none }
def LruKeepsWrongFalsely : Prop := lruKeepsRow.holds Try.pinned (OpenSpec.ofChange lruKeepsWrong)

/-- 'posternlaw08.LruTwins': WHATEVER THE INPUT: true; the input reads as it did. -/
def lruTwinsSpec : ChangeSpec := { name := "lruTwins", fn := fun _ => fun
  | [d1, d2] => { results := [.lit (.bool true)], args := [d1, d2] }
  | _ => none }
def lruTwinsRow : OpenClaim := { program := "ytlkppkgfnmlblaa", sum := "c552d171356ab6b93b466e7dd342310a03dcbead6142a2ba4b4b5572312d4114", func := "postern/posternlaw08.LruTwins", spec := "lruTwins", unfollowed := true, recurses := true, apart := false }
def LruTwinsSaid : Prop := lruTwinsRow.holds Try.pinned (OpenSpec.ofChange lruTwinsSpec)

/-- ITS FALSE NEIGHBOUR: 'it returns false'. Refute it at one input. -/
def lruTwinsWrong : ChangeSpec := { name := "lruTwins", fn := fun _ => fun
  | [d1, d2] => { results := [.lit (.bool false)], args := [d1, d2] }
  | _ => none }
def LruTwinsWrongFalsely : Prop := lruTwinsRow.holds Try.pinned (OpenSpec.ofChange lruTwinsWrong)

/- THE SECOND FORM. 'bulk': how many values and letters a reading holds, each counted each time it is reached (what is shared counts as often as it is met; a slice's spare places count too). A statement '..UptoSaid' is the law's where the arguments, and the package variables that the reading takes, are together of bulk at most 1048576: NARROWER than '..Said'. Prove '..Said' where nothing that the law and all that it calls make is longer than what came in: it says more and counts as full. Else prove '..UptoSaid'. A law counts once. -/
mutual
def uptoBulk {H : Type} : DataW H → Nat
  | .lit (.string bytes) => bytes.length + 1
  | .lit _ => 1
  | .nil => 1
  | .ptr d => uptoBulk d + 1
  | .slice elems spare => uptoBulkAll elems + uptoBulkAll spare + 1
  | .agg parts => uptoBulkAll parts + 1
  | .iface _ d => uptoBulk d + 1
  | .map entries => uptoBulkEntries entries + 1
  | .held _ => 1
def uptoBulkAll {H : Type} : List (DataW H) → Nat
  | [] => 0
  | d :: r => uptoBulk d + uptoBulkAll r
def uptoBulkEntries {H : Type} : List (Lit × DataW H) → Nat
  | [] => 0
  | x :: r => uptoBulkEntry x + uptoBulkEntries r
def uptoBulkEntry {H : Type} : Lit × DataW H → Nat
  | (.string bytes, d) => bytes.length + uptoBulk d + 1
  | (_, d) => uptoBulk d + 1
 end
def uptoSmall : (H : Type) → List (DataW H) → Bool := fun _ ds => decide (uptoBulkAll ds ≤ 1048576)
def OpenSpec.upto (s : _root_.Go.ChangeSpec) : _root_.Go.OpenSpec := { _root_.Go.OpenSpec.ofChange s with cond := some uptoSmall }

/-- 'posternlaw08.LruPlays', WHERE WHAT IT READS IS OF BULK AT MOST 1048576: true; the input reads as it did. -/
def lruPlaysUptoRow : OpenClaim := { program := "ytlkppkgfnmlblaa", sum := "c552d171356ab6b93b466e7dd342310a03dcbead6142a2ba4b4b5572312d4114", func := "postern/posternlaw08.LruPlays", spec := "lruPlays", unfollowed := true, recurses := true, apart := false, narrowed := true }
def LruPlaysUptoSaid : Prop := lruPlaysUptoRow.holds Try.pinned (OpenSpec.upto lruPlaysSpec)

/-- 'posternlaw08.LruCopies', WHERE WHAT IT READS IS OF BULK AT MOST 1048576: true; the input reads as it did. -/
def lruCopiesUptoRow : OpenClaim := { program := "ytlkppkgfnmlblaa", sum := "c552d171356ab6b93b466e7dd342310a03dcbead6142a2ba4b4b5572312d4114", func := "postern/posternlaw08.LruCopies", spec := "lruCopies", unfollowed := true, recurses := true, apart := false, narrowed := true }
def LruCopiesUptoSaid : Prop := lruCopiesUptoRow.holds Try.pinned (OpenSpec.upto lruCopiesSpec)

/-- 'posternlaw08.LruKeeps', WHERE WHAT IT READS IS OF BULK AT MOST 1048576: true; the input reads as it did. -/
def lruKeepsUptoRow : OpenClaim := { program := "ytlkppkgfnmlblaa", sum := "c552d171356ab6b93b466e7dd342310a03dcbead6142a2ba4b4b5572312d4114", func := "postern/posternlaw08.LruKeeps", spec := "lruKeeps", unfollowed := true, recurses := true, apart := false, narrowed := true }
def LruKeepsUptoSaid : Prop := lruKeepsUptoRow.holds Try.pinned (OpenSpec.upto lruKeepsSpec)

/-- 'posternlaw08.LruTwins', WHERE WHAT IT READS IS OF BULK AT MOST 1048576: true; the input reads as it did. -/
def lruTwinsUptoRow : OpenClaim := { program := "ytlkppkgfnmlblaa", sum := "c552d171356ab6b93b466e7dd342310a03dcbead6142a2ba4b4b5572312d4114", func := "postern/posternlaw08.LruTwins", spec := "lruTwins", unfollowed := true, recurses := true, apart := false, narrowed := true }
def LruTwinsUptoSaid : Prop := lruTwinsUptoRow.holds Try.pinned (OpenSpec.upto lruTwinsSpec)

end Rows
end Go.Proofs.Ytlkppkgfnmlblaa
