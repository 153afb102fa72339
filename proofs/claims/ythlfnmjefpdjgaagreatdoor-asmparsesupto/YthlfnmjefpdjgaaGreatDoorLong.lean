/-
  Long, Split, and the document's own Long.
-/
import Derived.Test.YthlfnmjefpdjgaaGreatDoorDecode
namespace Go.Proofs.YthlfnmjefpdjgaaGreatDoor
open Go.RowKit

/-- The number over two slots. -/
def longI (a b : In) : Int := b.imm % 4294967296 * 4294967296 + a.imm % 4294967296

theorem or_high (x y : Int) (x0 : 0 ≤ x) (x1 : x < 4294967296) (y0 : 0 ≤ y) (y1 : y < 4294967296) : bits .or .u64 (x * 4294967296) y = x * 4294967296 + y := by
  obtain ⟨X, rfl⟩ := Int.eq_ofNat_of_zero_le x0
  obtain ⟨Y, rfl⟩ := Int.eq_ofNat_of_zero_le y0
  have e : (X : Int) * 4294967296 = ((2 ^ 32 * X : Nat) : Int) := by omega
  rw [e, u64_or_nat _ _ (by omega) (by omega), ← Nat.two_pow_add_eq_or_of_lt (by omega)]
  omega

set_option maxHeartbeats 400000 in
theorem long_any (a b : In) (w : World) :
    Calls Tryz.prog 63 #[a.v, b.v] w fun e w' => e = .returned (.int .u64 (longI a b)) ∧ Touch [] w w' := by
  simp only [In.v]
  go_enter Tryz.func63, Tryz.ntmps63
  go_wp2
  go_ret
  refine ⟨ret_int ?_, ((Touch.refl _ w).alloc _).alloc _⟩
  exact or_high _ _ (by omega) (by omega) (by omega) (by omega)

set_option maxHeartbeats 400000 in
theorem rlong_any (a b : In) (w : World) :
    Calls Tryz.prog 36 #[a.v, b.v] w fun e w' => e = .returned (.int .u64 (longI a b)) ∧ Touch [] w w' := by
  simp only [In.v]
  go_enter Tryz.func36, Tryz.ntmps36
  go_wp2
  go_ret
  refine ⟨ret_int ?_, ((Touch.refl _ w).alloc _).alloc _⟩
  rfl

/-- The same over bare numbers. -/
def longR (a b : Int) : Int := b % 4294967296 * 4294967296 + a % 4294967296
theorem long_raw (a0 a1 a2 a3 a4 b0 b1 b2 b3 b4 : Int) (w : World) :
    Calls Tryz.prog 63 #[.agg #[.int .u8 a0, .int .u8 a1, .int .u8 a2, .int .i16 a3, .int .i32 a4], .agg #[.int .u8 b0, .int .u8 b1, .int .u8 b2, .int .i16 b3, .int .i32 b4]] w fun e w' => e = .returned (.int .u64 (longR a4 b4)) ∧ Touch [] w w' :=
  long_any ⟨a0, a1, a2, a3, a4⟩ ⟨b0, b1, b2, b3, b4⟩ w
theorem rlong_raw (a0 a1 a2 a3 a4 b0 b1 b2 b3 b4 : Int) (w : World) :
    Calls Tryz.prog 36 #[.agg #[.int .u8 a0, .int .u8 a1, .int .u8 a2, .int .i16 a3, .int .i32 a4], .agg #[.int .u8 b0, .int .u8 b1, .int .u8 b2, .int .i16 b3, .int .i32 b4]] w fun e w' => e = .returned (.int .u64 (longR a4 b4)) ∧ Touch [] w w' :=
  rlong_any ⟨a0, a1, a2, a3, a4⟩ ⟨b0, b1, b2, b3, b4⟩ w

/-- The slots of a wide load. -/
def splitOf (d s v : Int) : List In := [⟨24, d, s, 0, wrap32 (v % 4294967296)⟩, ⟨0, 0, 0, 0, wrap32 (v / 4294967296 % 4294967296)⟩]
set_option maxHeartbeats 400000 in
theorem split_any (d s v : Int) (w : World) (_v0 : 0 ≤ v) :
    Calls Tryz.prog 71 #[.int .u8 d, .int .u8 s, .int .u64 v] w fun e w' => (∃ N, e = .returned (.slice (some ⟨N, 0, none⟩) 2 2) ∧ w.heap.size ≤ N ∧ Blk w' N ((splitOf d s v).flatMap In.cells) 41) ∧ Touch [] w w' := by
  go_enter Tryz.func71, Tryz.ntmps71
  go_wp2
  go_ret
  refine ⟨⟨w.heap.size, rfl, Nat.le_refl _, Blk.newA w _ _ 41 ?_⟩, (Touch.refl _ w).alloc _⟩
  rfl

theorem split_long (v : Int) (v0 : 0 ≤ v) (v1 : v ≤ 18446744073709551615) : longR (wrap32 (v % 4294967296)) (wrap32 (v / 4294967296 % 4294967296)) = v := by
  unfold longR wrap32
  omega
end Go.Proofs.YthlfnmjefpdjgaaGreatDoor
