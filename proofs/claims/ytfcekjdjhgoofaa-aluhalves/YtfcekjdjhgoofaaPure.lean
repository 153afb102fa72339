/-
  What the operations and the conditions of package alu make of numbers, as functions of whole numbers. Of no program.
-/
import Derived.Test.YtfcekjdjhgoofaaKit
import Derived.Laws.MathBits
namespace Go.Proofs.Ytfcekjdjhgoofaa
open Go.RowKit

def cutI (w : Bool) (a : Int) : Int := if w then a else a % 4294967296
def modI (w : Bool) : Int := if w then 18446744073709551616 else 4294967296
def halfI (w : Bool) : Int := if w then 9223372036854775808 else 2147483648
def lenI (w : Bool) : Int := if w then 64 else 32
/-- The number in two's complement. -/
def sgnI (w : Bool) (a : Int) : Int := if cutI w a < halfI w then cutI w a else cutI w a - modI w
/-- How far a shift goes. -/
def byI (w : Bool) (b : Int) : Nat := (b % lenI w).toNat
/-- May a number be one of 64 bits? -/
def U64 (a : Int) : Prop := 0 ≤ a ∧ a ≤ 18446744073709551615

def okOp (k : Int) : Bool := decide (k % 16 = 0 ∧ 0 ≤ k ∧ k ≤ 192)
def opI (k : Int) (w : Bool) (a b : Int) : Int :=
  if k = 0 then (cutI w a + cutI w b) % modI w
  else if k = 16 then (cutI w a - cutI w b) % modI w
  else if k = 32 then (cutI w a * cutI w b) % modI w
  else if k = 48 then cutI w a / cutI w b
  else if k = 64 then bits .or .u64 (cutI w a) (cutI w b)
  else if k = 80 then bits .and .u64 (cutI w a) (cutI w b)
  else if k = 96 then (cutI w a * 2 ^ byI w b) % modI w
  else if k = 112 then cutI w a / 2 ^ byI w b
  else if k = 128 then (-cutI w a) % modI w
  else if k = 144 then cutI w a % cutI w b
  else if k = 160 then bits .xor .u64 (cutI w a) (cutI w b)
  else if k = 176 then cutI w b
  else (sgnI w a / 2 ^ byI w b) % modI w

def okCond (k : Int) : Bool := decide (k % 16 = 0 ∧ (16 ≤ k ∧ k ≤ 112 ∨ 160 ≤ k ∧ k ≤ 208))
def holdI (k : Int) (w : Bool) (a b : Int) : Bool :=
  if k = 16 then decide (cutI w a = cutI w b)
  else if k = 80 then decide (cutI w a ≠ cutI w b)
  else if k = 32 then decide (cutI w b < cutI w a)
  else if k = 48 then decide (cutI w b ≤ cutI w a)
  else if k = 160 then decide (cutI w a < cutI w b)
  else if k = 176 then decide (cutI w a ≤ cutI w b)
  else if k = 96 then decide (sgnI w b < sgnI w a)
  else if k = 112 then decide (sgnI w b ≤ sgnI w a)
  else if k = 192 then decide (sgnI w a < sgnI w b)
  else if k = 208 then decide (sgnI w a ≤ sgnI w b)
  else decide (bits .and .u64 (cutI w a) (cutI w b) ≠ 0)

theorem U64.cut {a : Int} (h : U64 a) (w : Bool) : 0 ≤ cutI w a ∧ cutI w a < modI w := by
  unfold U64 at h
  cases w <;> simp [cutI, modI] <;> omega
theorem U64.cut64 {a : Int} (h : U64 a) (w : Bool) : U64 (cutI w a) := by
  unfold U64 at *
  cases w <;> simp [cutI] <;> omega
theorem cut_cut (w : Bool) (a : Int) : cutI w (cutI w a) = cutI w a := by cases w <;> simp [cutI]
theorem cut_of {a : Int} (w : Bool) (h0 : 0 ≤ a) (h1 : a < modI w) : cutI w a = a := by
  cases w
  · simp only [cutI, modI] at *
    exact Int.emod_eq_of_lt h0 h1
  · rfl
theorem wrap_cut (w : Bool) (x : Int) : cutI w (x % 18446744073709551616) = x % modI w := by
  cases w
  · simp only [cutI, modI, Bool.false_eq_true, ↓reduceIte]
    omega
  · rfl
theorem cut_mod (w : Bool) (a : Int) : cutI w a % modI w = a % modI w := by
  cases w <;> simp [cutI, modI]
theorem mul_cut (w : Bool) (a p : Int) : (cutI w a * p) % modI w = (a * p) % modI w := by
  rw [Int.mul_emod, cut_mod, ← Int.mul_emod]
theorem op96 (w : Bool) (a b : Int) : opI 96 w a b = cutI w (a * 2 ^ byI w b % 18446744073709551616) := by
  rw [wrap_cut]
  exact mul_cut w a _
theorem op112 (w : Bool) (a b : Int) : opI 112 w a b = cutI w a / 2 ^ byI w b := rfl
theorem op192 (w : Bool) (a b : Int) : opI 192 w a b = cutI w (sgnI w a / 2 ^ byI w b % 18446744073709551616) := by
  rw [wrap_cut]
  rfl
theorem by_lt (w : Bool) (b : Int) : byI w b < 64 := by
  cases w <;> simp [byI, lenI] <;> omega

theorem and_cut {a b : Int} (ha : U64 a) (hb : U64 b) : bits .and .u64 a b = ((a.toNat &&& b.toNat : Nat) : Int) := by
  obtain ⟨h0, h1⟩ := ha
  obtain ⟨g0, g1⟩ := hb
  have := bits_and_u64_nat a.toNat b.toNat (by omega) (by omega)
  rwa [Int.toNat_of_nonneg h0, Int.toNat_of_nonneg g0] at this
theorem or_cut {a b : Int} (ha : U64 a) (hb : U64 b) : bits .or .u64 a b = ((a.toNat ||| b.toNat : Nat) : Int) := by
  obtain ⟨h0, h1⟩ := ha
  obtain ⟨g0, g1⟩ := hb
  have := bits_or_u64_nat a.toNat b.toNat (by omega) (by omega)
  rwa [Int.toNat_of_nonneg h0, Int.toNat_of_nonneg g0] at this
theorem xor_cut {a b : Int} (ha : U64 a) (hb : U64 b) : bits .xor .u64 a b = ((a.toNat ^^^ b.toNat : Nat) : Int) := by
  obtain ⟨h0, h1⟩ := ha
  obtain ⟨g0, g1⟩ := hb
  have := bits_xor_u64_nat a.toNat b.toNat (by omega) (by omega)
  rwa [Int.toNat_of_nonneg h0, Int.toNat_of_nonneg g0] at this
theorem cut_nat {a : Int} (ha : U64 a) (w : Bool) : (cutI w a).toNat < 2 ^ (lenI w).toNat := by
  have h := ha.cut w
  cases w <;> simp [modI, lenI] at * <;> omega
theorem mod_pow (w : Bool) : modI w = ((2 ^ (lenI w).toNat : Nat) : Int) := by cases w <;> rfl
theorem bit_lt {a b : Int} (ha : U64 a) (hb : U64 b) (w : Bool) :
    (0 ≤ bits .and .u64 (cutI w a) (cutI w b) ∧ bits .and .u64 (cutI w a) (cutI w b) < modI w) ∧
    (0 ≤ bits .or .u64 (cutI w a) (cutI w b) ∧ bits .or .u64 (cutI w a) (cutI w b) < modI w) ∧
    (0 ≤ bits .xor .u64 (cutI w a) (cutI w b) ∧ bits .xor .u64 (cutI w a) (cutI w b) < modI w) := by
  rw [and_cut (ha.cut64 w) (hb.cut64 w), or_cut (ha.cut64 w) (hb.cut64 w), xor_cut (ha.cut64 w) (hb.cut64 w), mod_pow]
  have h1 := cut_nat ha w
  have h2 := cut_nat hb w
  have a1 := Nat.and_lt_two_pow (cutI w a).toNat h2
  have a2 := Nat.or_lt_two_pow h1 h2
  have a3 := Nat.xor_lt_two_pow h1 h2
  refine ⟨⟨by omega, by omega⟩, ⟨by omega, by omega⟩, ⟨by omega, by omega⟩⟩
theorem and31 {b : Int} (h : U64 b) : bits .and .u64 b 31 = b % 32 := by
  obtain ⟨h0, h1⟩ := h
  go_bits2
theorem and63 {b : Int} (h : U64 b) : bits .and .u64 b 63 = b % 64 := by
  obtain ⟨h0, h1⟩ := h
  go_bits2
end Go.Proofs.Ytfcekjdjhgoofaa
