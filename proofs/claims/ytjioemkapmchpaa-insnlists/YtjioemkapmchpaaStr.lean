/-
  string(b) of bytes; slots written and read again.
-/
import Derived.Test.YtjioemkapmchpaaEncode
import Derived.Laws.BytesArg
namespace Go.Proofs.Ytjioemkapmchpaa
open Go.RowKit

theorem conv_zero {P : Program} (w : World) (src dst e : TypeId) (hs : P.underlying src = some (.slice e)) (he : P.underlying e = some (.int .u8)) (hd : P.underlying dst = some .string) (p : Option Addr) (c : Nat) :
    (convert src dst (.slice p 0 c)).run P w = .ok (.string ByteArray.empty) w := by
  rw [run_convert_bytes_string w src dst e _ 0 c hs he hd]
  cases p <;> simp [Conv.bytesToString, loadCells]
  all_goals rfl

/-- The string of the first n bytes. -/
def strN (z : Nat → Int) (n : Nat) : ByteArray := strOfNums ((List.range n).map z)
theorem strN_congr {f g : Nat → Int} {n : Nat} (h : ∀ j, j < n → f j = g j) : strN f n = strN g n := by
  unfold strN
  rw [List.map_congr_left (fun j hj => h j (by simpa using hj))]

theorem conv_came {w w' : World} {sa : Option Addr} {n : Nat} {z : Nat → Int} (h : Came w sa n z) (ht : Touch [] w w') (c : Nat) : (convert 22 9 (.slice sa n c)).run Try.prog w' = .ok (.string (strN z n)) w' := by
  rcases h with rfl | ⟨b, off, rfl, _, hx⟩
  · exact conv_zero w' 22 9 5 Try.underlying22 Try.underlying5 Try.underlying9 sa c
  · refine run_convert_bytes_arg w' 22 5 Try.underlying22 Try.underlying5 b off n c ((List.range n).map z) (by simp) (fun i hi => ?_) 9 Try.underlying9
    rw [ht.cell (hx i hi).1 (by simp)]
    simp [List.getD_eq_getElem?_getD, List.getElem?_range hi]

theorem slot_bytes (z : Nat → Int) (hz : ∀ j, j < 8 → 0 ≤ z j ∧ z j ≤ 255) (j : Nat) (hj : j < 8) : (slotOf z).byte j = z j := by
  have h0 := hz 0 (by omega)
  have h1 := hz 1 (by omega)
  have h2 := hz 2 (by omega)
  have h3 := hz 3 (by omega)
  have h4 := hz 4 (by omega)
  have h5 := hz 5 (by omega)
  have h6 := hz 6 (by omega)
  have h7 := hz 7 (by omega)
  have eo : (slotOf z).off % 65536 = z 2 + z 3 * 256 := by
    show IntKind.i16.wrap (z 2 + z 3 * 256) % 65536 = _
    have : IntKind.i16.wrap (z 2 + z 3 * 256) = (z 2 + z 3 * 256 + 32768) % 65536 - 32768 := by
      simp only [IntKind.wrap, IntKind.bits, IntKind.signed]
      simp
      try omega
    omega
  have ei : (slotOf z).imm % 4294967296 = z 4 + z 5 * 256 + z 6 * 65536 + z 7 * 16777216 := by
    show IntKind.i32.wrap (z 4 + z 5 * 256 + z 6 * 65536 + z 7 * 16777216) % 4294967296 = _
    rw [IntKind.wrap_i32]
    omega
  have : j = 0 ∨ j = 1 ∨ j = 2 ∨ j = 3 ∨ j = 4 ∨ j = 5 ∨ j = 6 ∨ j = 7 := by omega
  rcases this with rfl | rfl | rfl | rfl | rfl | rfl | rfl | rfl
  · rfl
  · show z 1 / 16 % 16 * 16 + z 1 % 16 % 16 = z 1
    omega
  · show (slotOf z).off % 65536 % 256 = z 2
    omega
  · show (slotOf z).off % 65536 / 256 = z 3
    omega
  · show (slotOf z).imm % 4294967296 % 256 = z 4
    omega
  · show (slotOf z).imm % 4294967296 / 256 % 256 = z 5
    omega
  · show (slotOf z).imm % 4294967296 / 65536 % 256 = z 6
    omega
  · show (slotOf z).imm % 4294967296 / 16777216 = z 7
    omega

/-- Byte j of a row of instructions. -/
def rowByte (f : Nat → In) (j : Nat) : Int := (f (j / 8)).byte (j % 8)
theorem bytes_get (i : In) (r : Nat) (hr : r < 8) : i.bytes[r]? = some (.int .u8 (i.byte r)) := by
  have : r = 0 ∨ r = 1 ∨ r = 2 ∨ r = 3 ∨ r = 4 ∨ r = 5 ∨ r = 6 ∨ r = 7 := by omega
  rcases this with rfl | rfl | rfl | rfl | rfl | rfl | rfl | rfl <;> rfl
theorem row_get (f : Nat → In) (n j : Nat) (hj : j < 8 * n) : (((List.range n).map f).flatMap In.bytes)[j]? = some (.int .u8 (rowByte f j)) := by
  have h1 := flat_get In.bytes 8 In.bytes_length ((List.range n).map f) (j / 8) (j % 8) (f (j / 8)) (by omega) (by simp [List.getElem?_range (show j / 8 < n by omega)])
  rw [show j / 8 * 8 + j % 8 = j by omega] at h1
  rw [h1, bytes_get _ _ (by omega)]
  rfl
theorem byte_bd (i : In) (ok : i.Ok) (j : Nat) : 0 ≤ i.byte j ∧ i.byte j ≤ 255 := by
  have h0 := ok.op0
  have h1 := ok.op1
  unfold In.byte
  split <;> omega
theorem came_row {w : World} {N n : Nat} {f : Nat → In} (ok : ∀ j, j < n → (f j).Ok) (h : Blk w N (((List.range n).map f).flatMap In.bytes) 5) : Came w (some ⟨N, 0, none⟩) (8 * n) (rowByte f) :=
  Or.inr ⟨N, 0, rfl, h.lt, fun j hj => ⟨h.cell (by rw [Nat.zero_add]; exact row_get f n j hj), byte_bd _ (ok (j / 8) (by omega)) _⟩⟩
end Go.Proofs.Ytjioemkapmchpaa
