/-
  slot: eight bytes as an instruction.
-/
import Derived.Test.YtpoliblfgioocaaFns
import Derived.Deep.RegionHeld3
namespace Go.Proofs.Ytpoliblfgioocaa
open Go.RowKit

/-- An instruction's numbers. -/
structure In where
  op : Int
  dst : Int
  src : Int
  off : Int
  imm : Int
def In.cells (i : In) : List Value := [.int .u8 i.op, .int .u8 i.dst, .int .u8 i.src, .int .i16 i.off, .int .i32 i.imm]
def In.v (i : In) : Value := .agg #[.int .u8 i.op, .int .u8 i.dst, .int .u8 i.src, .int .i16 i.off, .int .i32 i.imm]
structure In.Ok (i : In) : Prop where
  op0 : 0 ≤ i.op
  op1 : i.op ≤ 255
  dst0 : 0 ≤ i.dst
  dst1 : i.dst ≤ 255
  src0 : 0 ≤ i.src
  src1 : i.src ≤ 255
  off0 : -32768 ≤ i.off
  off1 : i.off ≤ 32767
  imm0 : -2147483648 ≤ i.imm
  imm1 : i.imm ≤ 2147483647

/-- The instruction whose bytes these are. -/
def slotOf (z : Nat → Int) : In := ⟨z 0, z 1 % 16, z 1 / 16, IntKind.i16.wrap (z 2 + z 3 * 256), IntKind.i32.wrap (z 4 + z 5 * 256 + z 6 * 65536 + z 7 * 16777216)⟩

theorem or_low (k : IntKind) (B : Nat) (hor : ∀ a b : Nat, a < 2 ^ B → b < 2 ^ B → bits .or k (a : Int) (b : Int) = ((a ||| b : Nat) : Int)) (a x : Int) (s : Nat) (hs : s + 8 ≤ B) (ha0 : 0 ≤ a) (ha1 : a < 2 ^ s) (hx0 : 0 ≤ x) (hx1 : x ≤ 255) :
    bits .or k a (x * 2 ^ s) = a + x * 2 ^ s := by
  obtain ⟨A, rfl⟩ := Int.eq_ofNat_of_zero_le ha0
  obtain ⟨X, rfl⟩ := Int.eq_ofNat_of_zero_le hx0
  have hA : A < 2 ^ s := by
    have : ((A : Nat) : Int) < ((2 ^ s : Nat) : Int) := by rw [Int.natCast_pow]; exact ha1
    omega
  have hX : 2 ^ s * X < 2 ^ B := by
    have h1 : 2 ^ s * X < 2 ^ s * 2 ^ 8 := Nat.mul_lt_mul_of_pos_left (by omega) (Nat.pow_pos (by omega))
    rw [← Nat.pow_add] at h1
    exact Nat.lt_of_lt_of_le h1 (Nat.pow_le_pow_right (by omega) hs)
  have hc : (X : Int) * 2 ^ s = ((2 ^ s * X : Nat) : Int) := by rw [Int.natCast_mul, Int.natCast_pow, Int.mul_comm]; rfl
  rw [hc, hor A _ (Nat.lt_of_lt_of_le hA (Nat.pow_le_pow_right (by omega) (by omega))) hX, Nat.or_comm, ← Nat.two_pow_add_eq_or_of_lt hA]
  omega
theorem or16 (a b : Int) (a0 : 0 ≤ a) (a1 : a ≤ 255) (b0 : 0 ≤ b) (b1 : b ≤ 255) : bits .or .u16 a (b * 256) = a + b * 256 :=
  or_low .u16 16 (fun x y hx hy => u16_or_nat x y hx hy) a b 8 (by omega) a0 (by omega) b0 b1
theorem or32a (a b : Int) (a0 : 0 ≤ a) (a1 : a ≤ 255) (b0 : 0 ≤ b) (b1 : b ≤ 255) : bits .or .u32 a (b * 256) = a + b * 256 :=
  or_low .u32 32 (fun x y hx hy => u32_or_nat x y hx hy) a b 8 (by omega) a0 (by omega) b0 b1
theorem or32b (a b : Int) (a0 : 0 ≤ a) (a1 : a ≤ 65535) (b0 : 0 ≤ b) (b1 : b ≤ 255) : bits .or .u32 a (b * 65536) = a + b * 65536 :=
  or_low .u32 32 (fun x y hx hy => u32_or_nat x y hx hy) a b 16 (by omega) a0 (by omega) b0 b1
theorem or32c (a b : Int) (a0 : 0 ≤ a) (a1 : a ≤ 16777215) (b0 : 0 ≤ b) (b1 : b ≤ 255) : bits .or .u32 a (b * 16777216) = a + b * 16777216 :=
  or_low .u32 32 (fun x y hx hy => u32_or_nat x y hx hy) a b 24 (by omega) a0 (by omega) b0 b1
theorem or32 (a b c d : Int) (a0 : 0 ≤ a) (a1 : a ≤ 255) (b0 : 0 ≤ b) (b1 : b ≤ 255) (c0 : 0 ≤ c) (c1 : c ≤ 255) (d0 : 0 ≤ d) (d1 : d ≤ 255) :
    bits .or .u32 (bits .or .u32 (bits .or .u32 a (b * 256)) (c * 65536)) (d * 16777216) = a + b * 256 + c * 65536 + d * 16777216 := by
  rw [or32a a b a0 a1 b0 b1, or32b _ c (by omega) (by omega) c0 c1, or32c _ d (by omega) (by omega) d0 d1]

theorem slot_off (z : Nat → Int) (a0 : 0 ≤ z 2) (a1 : z 2 ≤ 255) (b0 : 0 ≤ z 3) (b1 : z 3 ≤ 255) :
    IntKind.i16.wrap (bits .or .u16 (IntKind.u16.wrap (z 2)) (IntKind.u16.wrap (IntKind.u16.wrap (z 3) * 256))) = (slotOf z).off := by
  have e1 : IntKind.u16.wrap (z 2) = z 2 := by rw [IntKind.wrap_u16]; omega
  have e2 : IntKind.u16.wrap (z 3) = z 3 := by rw [IntKind.wrap_u16]; omega
  have e3 : IntKind.u16.wrap (z 3 * 256) = z 3 * 256 := by rw [IntKind.wrap_u16]; omega
  rw [e1, e2, e3, or16 _ _ a0 a1 b0 b1]
  rfl
theorem slot_imm (z : Nat → Int) (a0 : 0 ≤ z 4) (a1 : z 4 ≤ 255) (b0 : 0 ≤ z 5) (b1 : z 5 ≤ 255) (c0 : 0 ≤ z 6) (c1 : z 6 ≤ 255) (d0 : 0 ≤ z 7) (d1 : z 7 ≤ 255) :
    IntKind.i32.wrap (bits .or .u32 (bits .or .u32 (bits .or .u32 (IntKind.u32.wrap (z 4)) (IntKind.u32.wrap (IntKind.u32.wrap (z 5) * 256))) (IntKind.u32.wrap (IntKind.u32.wrap (z 6) * 65536))) (IntKind.u32.wrap (IntKind.u32.wrap (z 7) * 16777216))) = (slotOf z).imm := by
  have e1 : IntKind.u32.wrap (z 4) = z 4 := by rw [IntKind.wrap_u32]; omega
  have e2 : IntKind.u32.wrap (z 5) = z 5 := by rw [IntKind.wrap_u32]; omega
  have e3 : IntKind.u32.wrap (z 5 * 256) = z 5 * 256 := by rw [IntKind.wrap_u32]; omega
  have e4 : IntKind.u32.wrap (z 6) = z 6 := by rw [IntKind.wrap_u32]; omega
  have e5 : IntKind.u32.wrap (z 6 * 65536) = z 6 * 65536 := by rw [IntKind.wrap_u32]; omega
  have e6 : IntKind.u32.wrap (z 7) = z 7 := by rw [IntKind.wrap_u32]; omega
  have e7 : IntKind.u32.wrap (z 7 * 16777216) = z 7 * 16777216 := by rw [IntKind.wrap_u32]; omega
  rw [e1, e2, e3, e4, e5, e6, e7, or32 _ _ _ _ a0 a1 b0 b1 c0 c1 d0 d1]
  rfl

end Go.Proofs.Ytpoliblfgioocaa
