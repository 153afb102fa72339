/-
  No cell of these rows narrows 'for every input' (looked for: loops, veiled, ifaces, maps, wideKeys, modest, calm, conditions, laid).
  DERIVED. THE GIVEN ROWS OF THIS SEAT. 4 by the template 'for every input the law returns true; each argument reads behind the call as it read before'; 0 by the template 'total and deterministic' (their statements: YtlkbaconlngmjaaTotals.lean).
  GIVEN WITH THE SEED: the statements are not yours to turn. If you find one false, say at which input.
  Laid BY PROGRAM, IN A SANDBOX (cutbox-rows.mjs): the forced cells as the released guide's own fill.sh prints them over the translation 09a38f756849ea2e… (all of the seat's roots in one cut). By AI agents, Wed Nov 11 2026. No macro, syntax, notation, axiom, sorry.
-/
import Derived.Test.YtlkbaconlngmjaaChecked
import GoSem.Claim
import GoSem.ClaimJoined
import GoSem.ClaimMapViews
import Derived.JoinedTies
import Derived.KernelRfl
namespace Go.Proofs.Ytlkbaconlngmjaa
/- THE CELL 'sum', in the pinned program and in every row, IS THE sha256 OF THE DUMP (.gsa) THAT YtlkbaconlngmjaaProg.lean LOADS. Nothing in Lean hashes anything: it is a label: what it is worth is what the hold of that sum in a sandbox is worth. -/
noncomputable def Try.pinned : Pinned := { name := "ytlkbaconlngmjaa", sum := "09a38f756849ea2e2adb746e77809d31cb6185ce29e529949d340a025a81e7bd", checked := Try.checked }
namespace Rows
def none {H : Type} : Left H := { results := [], args := [] }

/-- 'posternlaw09.LpmPlays': WHATEVER THE INPUT: true; the input reads as it did. -/
def lpmPlaysSpec : ChangeSpec := { name := "lpmPlays", fn := fun _ => fun
  | [d1, d2] => { results := [.lit (.bool true)], args := [d1, d2] }
  | _ => none }
def lpmPlaysRow : OpenClaim := { program := "ytlkbaconlngmjaa", sum := "09a38f756849ea2e2adb746e77809d31cb6185ce29e529949d340a025a81e7bd", func := "postern/posternlaw09.LpmPlays", spec := "lpmPlays", unfollowed := true, recurses := true, apart := false }
def LpmPlaysSaid : Prop := lpmPlaysRow.holds Try.pinned (OpenSpec.ofChange lpmPlaysSpec)

/-- ITS FALSE NEIGHBOUR: 'it returns false'. Refute it at one input. -/
def lpmPlaysWrong : ChangeSpec := { name := "lpmPlays", fn := fun _ => fun
  | [d1, d2] => { results := [.lit (.bool false)], args := [d1, d2] }
  | _ => none }
def LpmPlaysWrongFalsely : Prop := lpmPlaysRow.holds Try.pinned (OpenSpec.ofChange lpmPlaysWrong)

/-- 'posternlaw09.LpmCopies': WHATEVER THE INPUT: true; the input reads as it did. -/
def lpmCopiesSpec : ChangeSpec := { name := "lpmCopies", fn := fun _ => fun
  | [d1, d2, d3] => { results := [.lit (.bool true)], args := [d1, d2, d3] }
  | _ => none }
def lpmCopiesRow : OpenClaim := { program := "ytlkbaconlngmjaa", sum := "09a38f756849ea2e2adb746e77809d31cb6185ce29e529949d340a025a81e7bd", func := "postern/posternlaw09.LpmCopies", spec := "lpmCopies", unfollowed := true, recurses := true, apart := false }
def LpmCopiesSaid : Prop := lpmCopiesRow.holds Try.pinned (OpenSpec.ofChange lpmCopiesSpec)

/-- ITS FALSE NEIGHBOUR: 'it returns false'. Refute it at one input. -/
def lpmCopiesWrong : ChangeSpec := { name := "lpmCopies", fn := fun _ => fun
  | [d1, d2, d3] => { results := [.lit (.bool false)], args := [d1, d2, d3] }
  | _ => none }
def LpmCopiesWrongFalsely : Prop := lpmCopiesRow.holds Try.pinned (OpenSpec.ofChange lpmCopiesWrong)

/-- 'posternlaw09.LpmLongest': WHATEVER THE INPUT: true; the input reads as it did. -/
def lpmLongestSpec : ChangeSpec := { name := "lpmLongest", fn := fun _ => fun
  | [d1, d2, d3] => { results := [.lit (.bool true)], args := [d1, d2, d3] }
  | _ => none }
def lpmLongestRow : OpenClaim := { program := "ytlkbaconlngmjaa", sum := "09a38f756849ea2e2adb746e77809d31cb6185ce29e529949d340a025a81e7bd", func := "postern/posternlaw09.LpmLongest", spec := "lpmLongest", unfollowed := true, recurses := true, apart := false }
def LpmLongestSaid : Prop := lpmLongestRow.holds Try.pinned (OpenSpec.ofChange lpmLongestSpec)

/-- ITS FALSE NEIGHBOUR: 'it returns false'. Refute it at one input. -/
def lpmLongestWrong : ChangeSpec := { name := "lpmLongest", fn := fun _ => fun
  | [d1, d2, d3] => { results := [.lit (.bool false)], args := [d1, d2, d3] }
  | _ => none }
def LpmLongestWrongFalsely : Prop := lpmLongestRow.holds Try.pinned (OpenSpec.ofChange lpmLongestWrong)

/-- 'posternlaw09.LpmForms': WHATEVER THE INPUT: true; the input reads as it did. -/
def lpmFormsSpec : ChangeSpec := { name := "lpmForms", fn := fun _ => fun
  | [d1, d2, d3] => { results := [.lit (.bool true)], args := [d1, d2, d3] }
  | _ => none }
def lpmFormsRow : OpenClaim := { program := "ytlkbaconlngmjaa", sum := "09a38f756849ea2e2adb746e77809d31cb6185ce29e529949d340a025a81e7bd", func := "postern/posternlaw09.LpmForms", spec := "lpmForms", unfollowed := true, recurses := true, apart := false }
def LpmFormsSaid : Prop := lpmFormsRow.holds Try.pinned (OpenSpec.ofChange lpmFormsSpec)

/-- ITS FALSE NEIGHBOUR: 'it returns false'. Refute it at one input. -/
def lpmFormsWrong : ChangeSpec := { name := "lpmForms", fn := fun _ => fun
  | [d1, d2, d3] => { results := [.lit (.bool false)], args := [d1, d2, d3] }
  | _ => none }
def LpmFormsWrongFalsely : Prop := lpmFormsRow.holds Try.pinned (OpenSpec.ofChange lpmFormsWrong)

/- THE SECOND FORM. 'bulk': how many values and letters a reading holds, each counted each time it is reached (what is shared counts as often as it is met; a slice's spare places count too). A statement '..UptoSaid' is the law's where the arguments, and the package variables that the reading takes, are together of bulk at most 1048576: NARROWER than '..Said'. Prove '..Said' where nothing that the law and all that it calls make is longer than what came in: it says more and counts as full. Else prove '..UptoSaid'. A law counts once. -/
mutual
def uptoBulk {H : Type} : DataW H → Nat
  | .lit (.string bytes) => bytes.length + 1
  | .lit _ => 1
  | .nil => 1
  | .ptr d => uptoBulk d + 1
  | .slice elems spare => uptoBulkAll elems + uptoBulkAll spare + 1
  | .agg parts => uptoBulkAll parts + 1
  | .iface _ d => uptoBulk d + 1
  | .map entries => uptoBulkEntries entries + 1
  | .held _ => 1
def uptoBulkAll {H : Type} : List (DataW H) → Nat
  | [] => 0
  | d :: r => uptoBulk d + uptoBulkAll r
def uptoBulkEntries {H : Type} : List (Lit × DataW H) → Nat
  | [] => 0
  | x :: r => uptoBulkEntry x + uptoBulkEntries r
def uptoBulkEntry {H : Type} : Lit × DataW H → Nat
  | (.string bytes, d) => bytes.length + uptoBulk d + 1
  | (_, d) => uptoBulk d + 1
 end
def uptoSmall : (H : Type) → List (DataW H) → Bool := fun _ ds => decide (uptoBulkAll ds ≤ 1048576)
def OpenSpec.upto (s : _root_.Go.ChangeSpec) : _root_.Go.OpenSpec := { _root_.Go.OpenSpec.ofChange s with cond := some uptoSmall }

/-- 'posternlaw09.LpmPlays', WHERE WHAT IT READS IS OF BULK AT MOST 1048576: true; the input reads as it did. -/
def lpmPlaysUptoRow : OpenClaim := { program := "ytlkbaconlngmjaa", sum := "09a38f756849ea2e2adb746e77809d31cb6185ce29e529949d340a025a81e7bd", func := "postern/posternlaw09.LpmPlays", spec := "lpmPlays", unfollowed := true, recurses := true, apart := false, narrowed := true }
def LpmPlaysUptoSaid : Prop := lpmPlaysUptoRow.holds Try.pinned (OpenSpec.upto lpmPlaysSpec)

/-- 'posternlaw09.LpmCopies', WHERE WHAT IT READS IS OF BULK AT MOST 1048576: true; the input reads as it did. -/
def lpmCopiesUptoRow : OpenClaim := { program := "ytlkbaconlngmjaa", sum := "09a38f756849ea2e2adb746e77809d31cb6185ce29e529949d340a025a81e7bd", func := "postern/posternlaw09.LpmCopies", spec := "lpmCopies", unfollowed := true, recurses := true, apart := false, narrowed := true }
def LpmCopiesUptoSaid : Prop := lpmCopiesUptoRow.holds Try.pinned (OpenSpec.upto lpmCopiesSpec)

/-- 'posternlaw09.LpmLongest', WHERE WHAT IT READS IS OF BULK AT MOST 1048576: true; the input reads as it did. -/
def lpmLongestUptoRow : OpenClaim := { program := "ytlkbaconlngmjaa", sum := "09a38f756849ea2e2adb746e77809d31cb6185ce29e529949d340a025a81e7bd", func := "postern/posternlaw09.LpmLongest", spec := "lpmLongest", unfollowed := true, recurses := true, apart := false, narrowed := true }
def LpmLongestUptoSaid : Prop := lpmLongestUptoRow.holds Try.pinned (OpenSpec.upto lpmLongestSpec)

/-- 'posternlaw09.LpmForms', WHERE WHAT IT READS IS OF BULK AT MOST 1048576: true; the input reads as it did. -/
def lpmFormsUptoRow : OpenClaim := { program := "ytlkbaconlngmjaa", sum := "09a38f756849ea2e2adb746e77809d31cb6185ce29e529949d340a025a81e7bd", func := "postern/posternlaw09.LpmForms", spec := "lpmForms", unfollowed := true, recurses := true, apart := false, narrowed := true }
def LpmFormsUptoSaid : Prop := lpmFormsUptoRow.holds Try.pinned (OpenSpec.upto lpmFormsSpec)

end Rows
end Go.Proofs.Ytlkbaconlngmjaa
