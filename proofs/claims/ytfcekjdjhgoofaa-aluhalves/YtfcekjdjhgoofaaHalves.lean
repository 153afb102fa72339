/-
  For every input AluHalves returns true, and each argument reads afterwards as it read before. No conditions. (The walk.)
-/
import Derived.Test.YtfcekjdjhgoofaaLaws
namespace Go.Proofs.Ytfcekjdjhgoofaa
open Go.RowKit

def kinds8 : List Value := [.int .i64 0, .int .i64 16, .int .i64 32, .int .i64 64, .int .i64 80, .int .i64 128, .int .i64 160, .int .i64 176]
set_option maxHeartbeats 2000000 in
set_option maxRecDepth 100000 in
theorem aluHalves_walk (a b h : Int) (w : World) (ha : U64 a) (hb : U64 b) (h0 : 0 ≤ h) (h1 : h ≤ 4294967295) :
    Calls Try.prog 7 #[.int .u64 a, .int .u64 b, .int .u32 h] w fun e w' => e = .returned (.bool true) ∧ Touch [] w w' := by
  have hB := Blk.newA w #[.int .i64 0, .int .i64 16, .int .i64 32, .int .i64 64, .int .i64 80, .int .i64 128, .int .i64 160, .int .i64 176] kinds8 3 rfl
  have HT := toHid ((Touch.refl [] w).alloc (.cells #[.int .i64 0, .int .i64 16, .int .i64 32, .int .i64 64, .int .i64 80, .int .i64 128, .int .i64 160, .int .i64 176] 3))
  have HO := toHid (high_or ha h0 h1)
  have HP := toHid (high_or hb h0 h1)
  have HA := toHid ha
  have HB := toHid hb
  clear ha hb
  go_enter Try.func7, Try.ntmps7
  go_wp2_with (go_at_call 8; refine (first_any _).mono ?_; rintro e w ⟨rfl, rfl⟩)
  generalize w.heap.size = N at *
  generalize World.alloc _ _ = w1 at *
  go_loopw [22] (fun t w' => ∃ j : Nat, j ≤ 8 ∧ t = .int .i64 j ∧ w' = w1) (fun t _ => 8 - (intOf t).toNat)
  case atStart => exact ⟨0, by omega, rfl, rfl⟩
  case round =>
    obtain ⟨j, hj, rfl, rfl⟩ := hrel
    by_cases h2 : j = 8
    · subst h2
      rw [show ((8 : Nat) : Int) = 8 from rfl]
      go_wp2
      go_loopw [13] (fun t w' => ∃ j : Nat, j ≤ 13 ∧ t = .int .i64 (j * 16 : Nat) ∧ w' = wr) (fun t _ => 208 - (intOf t).toNat)
      case atStart => exact ⟨0, by omega, rfl, rfl⟩
      case round =>
        obtain ⟨j, hj, rfl, rfl⟩ := hrel
        by_cases h2 : j = 13
        · subst h2
          go_wp2
          go_ret
          exact ⟨rfl, HT.out⟩
        · have hk : okOp ((j * 16 : Nat) : Int) = true := by
            simp [okOp]
            omega
          have hlt : ((j * 16 : Nat) : Int) ≤ 192 := by omega
          have H1 := toHid (fun w => do_ok ((j * 16 : Nat) : Int) false a b w hk HA.out HB.out)
          have H2 := toHid (fun w => do_ok ((j * 16 : Nat) : Int) false _ _ w hk HO.out.1 HP.out.1)
          have he : opI ((j * 16 : Nat) : Int) false _ _ = opI ((j * 16 : Nat) : Int) false a b := low_only _ HO.out.2 HP.out.2
          have HK : Hid (((j * 16 : Nat) : Int) + 16 = (((j + 1) * 16 : Nat) : Int)) := toHid (by omega)
          have hk0 : (0 : Int) ≤ ((j * 16 : Nat) : Int) := by omega
          clear hk
          rw [he] at H2
          clear he
          generalize ((j * 16 : Nat) : Int) = kk at *
          generalize opI kk false a b = q at *
          go_wp2_with fail
          refine (H1.out _).mono ?_
          rintro e w2 ⟨rfl, rfl⟩
          go_wp2_with fail
          refine (H2.out _).mono ?_
          rintro e w2 ⟨rfl, rfl⟩
          go_wp2
          go_roundw
          case rel => exact ⟨j + 1, by omega, by rw [HK.out], trivial⟩
          case measure => simp [intOf]; omega
    · obtain ⟨k, hv, hk⟩ : ∃ k, kinds8[j]? = some (Value.int .i64 k) ∧ (k = 0 ∨ k = 16 ∨ k = 32 ∨ k = 64 ∨ k = 80 ∨ k = 128 ∨ k = 160 ∨ k = 176) := by
        have : j = 0 ∨ j = 1 ∨ j = 2 ∨ j = 3 ∨ j = 4 ∨ j = 5 ∨ j = 6 ∨ j = 7 := by omega
        rcases this with rfl | rfl | rfl | rfl | rfl | rfl | rfl | rfl <;> exact ⟨_, rfl, by simp⟩
      have hc := hB.cell hv
      clear hv
      have hlt : j < 8 := by omega
      have hok : okOp k = true := by rcases hk with rfl | rfl | rfl | rfl | rfl | rfl | rfl | rfl <;> decide
      have H1 := toHid (fun v w => do_ok k v a b w hok HA.out HB.out)
      have e1 := low_half hk HA.out HB.out
      have u1 : U64 (opI k true a b) := opI_u64 hok HA.out HB.out
      have e2 := and_low32 (opI k true a b) u1.1 (by have := u1.2; omega)
      clear hk hok u1
      go_wp2_with (go_at_call 9; refine (H1.out _ _).mono ?_; rintro e w ⟨rfl, rfl⟩)
      go_roundw
      all_goals first | exact ⟨j + 1, by omega, rfl, trivial⟩ | (simp [intOf]; omega)
end Go.Proofs.Ytfcekjdjhgoofaa
