/-
  Decode: bytes as instructions.
-/
import Derived.Test.YtpoliblfgioocaaSlot
import Derived.Test.YtpoliblfgioocaaRow5
namespace Go.Proofs.Ytpoliblfgioocaa
open Go.RowKit

theorem In.cells_length (i : In) : i.cells.length = 5 := rfl
def In.zero : In := ⟨0, 0, 0, 0, 0⟩
theorem info31 : (Try.prog.info? 31).map (fun i => (i.zero, i.size, i.bytes)) = some (some (.agg #[.int .u8 0, .int .u8 0, .int .u8 0, .int .i16 0, .int .i32 0]), 5, 12) := by kernel_rfl
theorem info5 : (Try.prog.info? 5).map (fun i => (i.zero, i.size, i.bytes)) = some (some (.int .u8 0), 1, 1) := by kernel_rfl

theorem ret_tuple {a b : Value} {c d : Value} (h : a = b) (k : c = d) : Ending.returned (.tuple #[a, c]) = .returned (.tuple #[b, d]) := by rw [h, k]

end Go.Proofs.Ytpoliblfgioocaa
