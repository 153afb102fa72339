/-
  No cell of these rows narrows 'for every input' (looked for: loops, veiled, ifaces, maps, wideKeys, modest, calm, conditions, laid).
  DERIVED. THE GIVEN ROWS OF THIS SEAT. 5 by the template 'for every input the law returns true; each argument reads behind the call as it read before'; 0 by the template 'total and deterministic' (their statements: YtjioemkapmchpaaTotals.lean).
  GIVEN WITH THE SEED: the statements are not yours to turn. If you find one false, say at which input.
  Laid BY PROGRAM, IN A SANDBOX (cutbox-rows.mjs): the forced cells as the released guide's own fill.sh prints them over the translation 3ef645a053a08daf… (all of the seat's roots in one cut). By AI agents, Wed Nov 11 2026. No macro, syntax, notation, axiom, sorry.
-/
import Derived.Test.YtjioemkapmchpaaChecked
import GoSem.Claim
import GoSem.ClaimJoined
import GoSem.ClaimMapViews
import Derived.JoinedTies
import Derived.KernelRfl
namespace Go.Proofs.Ytjioemkapmchpaa
/- THE CELL 'sum', in the pinned program and in every row, IS THE sha256 OF THE DUMP (.gsa) THAT YtjioemkapmchpaaProg.lean LOADS. Nothing in Lean hashes anything: it is a label: what it is worth is what the hold of that sum in a sandbox is worth. -/
noncomputable def Try.pinned : Pinned := { name := "ytjioemkapmchpaa", sum := "3ef645a053a08daf428c06b7fe94c4b02d8aeb1035caf61fd69505ca9540cab1", checked := Try.checked }
namespace Rows
def none {H : Type} : Left H := { results := [], args := [] }

/-- 'posternlaw02.InsnBytes': WHATEVER THE INPUT: true; the input reads as it did. -/
def insnBytesSpec : ChangeSpec := { name := "insnBytes", fn := fun _ => fun
  | [d] => { results := [.lit (.bool true)], args := [d] }
  | _ => none }
def insnBytesRow : OpenClaim := { program := "ytjioemkapmchpaa", sum := "3ef645a053a08daf428c06b7fe94c4b02d8aeb1035caf61fd69505ca9540cab1", func := "postern/posternlaw02.InsnBytes", spec := "insnBytes", apart := false }
def InsnBytesSaid : Prop := insnBytesRow.holds Try.pinned (OpenSpec.ofChange insnBytesSpec)

/-- ITS FALSE NEIGHBOUR: 'it returns false'. Refute it at one input. -/
def insnBytesWrong : ChangeSpec := { name := "insnBytes", fn := fun _ => fun
  | [d] => { results := [.lit (.bool false)], args := [d] }
  | _ => none }
def InsnBytesWrongFalsely : Prop := insnBytesRow.holds Try.pinned (OpenSpec.ofChange insnBytesWrong)

/-- 'posternlaw02.InsnLists': WHATEVER THE INPUT: true; the input reads as it did. -/
def insnListsSpec : ChangeSpec := { name := "insnLists", fn := fun _ => fun
  | [d] => { results := [.lit (.bool true)], args := [d] }
  | _ => none }
def insnListsRow : OpenClaim := { program := "ytjioemkapmchpaa", sum := "3ef645a053a08daf428c06b7fe94c4b02d8aeb1035caf61fd69505ca9540cab1", func := "postern/posternlaw02.InsnLists", spec := "insnLists", apart := false }
def InsnListsSaid : Prop := insnListsRow.holds Try.pinned (OpenSpec.ofChange insnListsSpec)

/-- ITS FALSE NEIGHBOUR: 'it returns false'. Refute it at one input. -/
def insnListsWrong : ChangeSpec := { name := "insnLists", fn := fun _ => fun
  | [d] => { results := [.lit (.bool false)], args := [d] }
  | _ => none }
def InsnListsWrongFalsely : Prop := insnListsRow.holds Try.pinned (OpenSpec.ofChange insnListsWrong)

/-- 'posternlaw02.InsnOps': WHATEVER THE INPUT: true; the input reads as it did. -/
def insnOpsSpec : ChangeSpec := { name := "insnOps", fn := fun _ => fun
  | [d] => { results := [.lit (.bool true)], args := [d] }
  | _ => none }
def insnOpsRow : OpenClaim := { program := "ytjioemkapmchpaa", sum := "3ef645a053a08daf428c06b7fe94c4b02d8aeb1035caf61fd69505ca9540cab1", func := "postern/posternlaw02.InsnOps", spec := "insnOps", apart := false }
def InsnOpsSaid : Prop := insnOpsRow.holds Try.pinned (OpenSpec.ofChange insnOpsSpec)

/-- ITS FALSE NEIGHBOUR: 'it returns false'. Refute it at one input. -/
def insnOpsWrong : ChangeSpec := { name := "insnOps", fn := fun _ => fun
  | [d] => { results := [.lit (.bool false)], args := [d] }
  | _ => none }
def InsnOpsWrongFalsely : Prop := insnOpsRow.holds Try.pinned (OpenSpec.ofChange insnOpsWrong)

/-- 'posternlaw02.InsnLongs': WHATEVER THE INPUT: true; the input reads as it did. -/
def insnLongsSpec : ChangeSpec := { name := "insnLongs", fn := fun _ => fun
  | [d1, d2, d3] => { results := [.lit (.bool true)], args := [d1, d2, d3] }
  | _ => none }
def insnLongsRow : OpenClaim := { program := "ytjioemkapmchpaa", sum := "3ef645a053a08daf428c06b7fe94c4b02d8aeb1035caf61fd69505ca9540cab1", func := "postern/posternlaw02.InsnLongs", spec := "insnLongs", apart := false }
def InsnLongsSaid : Prop := insnLongsRow.holds Try.pinned (OpenSpec.ofChange insnLongsSpec)

/-- ITS FALSE NEIGHBOUR: 'it returns false'. Refute it at one input. -/
def insnLongsWrong : ChangeSpec := { name := "insnLongs", fn := fun _ => fun
  | [d1, d2, d3] => { results := [.lit (.bool false)], args := [d1, d2, d3] }
  | _ => none }
def InsnLongsWrongFalsely : Prop := insnLongsRow.holds Try.pinned (OpenSpec.ofChange insnLongsWrong)

/-- 'posternlaw02.InsnPlain': WHATEVER THE INPUT: true; the input reads as it did. -/
def insnPlainSpec : ChangeSpec := { name := "insnPlain", fn := fun _ => fun
  | [d1, d2] => { results := [.lit (.bool true)], args := [d1, d2] }
  | _ => none }
def insnPlainRow : OpenClaim := { program := "ytjioemkapmchpaa", sum := "3ef645a053a08daf428c06b7fe94c4b02d8aeb1035caf61fd69505ca9540cab1", func := "postern/posternlaw02.InsnPlain", spec := "insnPlain", apart := false }
def InsnPlainSaid : Prop := insnPlainRow.holds Try.pinned (OpenSpec.ofChange insnPlainSpec)

/-- ITS FALSE NEIGHBOUR: 'it returns false'. Refute it at one input. -/
def insnPlainWrong : ChangeSpec := { name := "insnPlain", fn := fun _ => fun
  | [d1, d2] => { results := [.lit (.bool false)], args := [d1, d2] }
  | _ => none }
def InsnPlainWrongFalsely : Prop := insnPlainRow.holds Try.pinned (OpenSpec.ofChange insnPlainWrong)

/- THE SECOND FORM. 'bulk': how many values and letters a reading holds, each counted each time it is reached (what is shared counts as often as it is met; a slice's spare places count too). A statement '..UptoSaid' is the law's where the arguments, and the package variables that the reading takes, are together of bulk at most 1048576: NARROWER than '..Said'. Prove '..Said' where nothing that the law and all that it calls make is longer than what came in: it says more and counts as full. Else prove '..UptoSaid'. A law counts once. -/
mutual
def uptoBulk {H : Type} : DataW H → Nat
  | .lit (.string bytes) => bytes.length + 1
  | .lit _ => 1
  | .nil => 1
  | .ptr d => uptoBulk d + 1
  | .slice elems spare => uptoBulkAll elems + uptoBulkAll spare + 1
  | .agg parts => uptoBulkAll parts + 1
  | .iface _ d => uptoBulk d + 1
  | .map entries => uptoBulkEntries entries + 1
  | .held _ => 1
def uptoBulkAll {H : Type} : List (DataW H) → Nat
  | [] => 0
  | d :: r => uptoBulk d + uptoBulkAll r
def uptoBulkEntries {H : Type} : List (Lit × DataW H) → Nat
  | [] => 0
  | x :: r => uptoBulkEntry x + uptoBulkEntries r
def uptoBulkEntry {H : Type} : Lit × DataW H → Nat
  | (.string bytes, d) => bytes.length + uptoBulk d + 1
  | (_, d) => uptoBulk d + 1
 end
def uptoSmall : (H : Type) → List (DataW H) → Bool := fun _ ds => decide (uptoBulkAll ds ≤ 1048576)
def OpenSpec.upto (s : _root_.Go.ChangeSpec) : _root_.Go.OpenSpec := { _root_.Go.OpenSpec.ofChange s with cond := some uptoSmall }

/-- 'posternlaw02.InsnBytes', WHERE WHAT IT READS IS OF BULK AT MOST 1048576: true; the input reads as it did. -/
def insnBytesUptoRow : OpenClaim := { program := "ytjioemkapmchpaa", sum := "3ef645a053a08daf428c06b7fe94c4b02d8aeb1035caf61fd69505ca9540cab1", func := "postern/posternlaw02.InsnBytes", spec := "insnBytes", apart := false, narrowed := true }
def InsnBytesUptoSaid : Prop := insnBytesUptoRow.holds Try.pinned (OpenSpec.upto insnBytesSpec)

/-- 'posternlaw02.InsnLists', WHERE WHAT IT READS IS OF BULK AT MOST 1048576: true; the input reads as it did. -/
def insnListsUptoRow : OpenClaim := { program := "ytjioemkapmchpaa", sum := "3ef645a053a08daf428c06b7fe94c4b02d8aeb1035caf61fd69505ca9540cab1", func := "postern/posternlaw02.InsnLists", spec := "insnLists", apart := false, narrowed := true }
def InsnListsUptoSaid : Prop := insnListsUptoRow.holds Try.pinned (OpenSpec.upto insnListsSpec)

/-- 'posternlaw02.InsnOps', WHERE WHAT IT READS IS OF BULK AT MOST 1048576: true; the input reads as it did. -/
def insnOpsUptoRow : OpenClaim := { program := "ytjioemkapmchpaa", sum := "3ef645a053a08daf428c06b7fe94c4b02d8aeb1035caf61fd69505ca9540cab1", func := "postern/posternlaw02.InsnOps", spec := "insnOps", apart := false, narrowed := true }
def InsnOpsUptoSaid : Prop := insnOpsUptoRow.holds Try.pinned (OpenSpec.upto insnOpsSpec)

/-- 'posternlaw02.InsnLongs', WHERE WHAT IT READS IS OF BULK AT MOST 1048576: true; the input reads as it did. -/
def insnLongsUptoRow : OpenClaim := { program := "ytjioemkapmchpaa", sum := "3ef645a053a08daf428c06b7fe94c4b02d8aeb1035caf61fd69505ca9540cab1", func := "postern/posternlaw02.InsnLongs", spec := "insnLongs", apart := false, narrowed := true }
def InsnLongsUptoSaid : Prop := insnLongsUptoRow.holds Try.pinned (OpenSpec.upto insnLongsSpec)

/-- 'posternlaw02.InsnPlain', WHERE WHAT IT READS IS OF BULK AT MOST 1048576: true; the input reads as it did. -/
def insnPlainUptoRow : OpenClaim := { program := "ytjioemkapmchpaa", sum := "3ef645a053a08daf428c06b7fe94c4b02d8aeb1035caf61fd69505ca9540cab1", func := "postern/posternlaw02.InsnPlain", spec := "insnPlain", apart := false, narrowed := true }
def InsnPlainUptoSaid : Prop := insnPlainUptoRow.holds Try.pinned (OpenSpec.upto insnPlainSpec)

end Rows
end Go.Proofs.Ytjioemkapmchpaa
