/-
  For every input AluLaws returns true, and each argument reads afterwards as it read before. No conditions. (The walk.)
-/
import Derived.Test.YtfcekjdjhgoofaaLaws
namespace Go.Proofs.Ytfcekjdjhgoofaa
open Go.RowKit

def pairs5 : List Value := [.int .i64 16, .int .i64 80, .int .i64 32, .int .i64 176, .int .i64 48, .int .i64 160, .int .i64 96, .int .i64 208, .int .i64 112, .int .i64 192]
theorem pairs_at {j : Nat} (h : j < 5) : ∃ k l : Int, pairs5[j * 2]? = some (.int .i64 k) ∧ pairs5[j * 2 + 1]? = some (.int .i64 l) ∧ okCond k = true ∧ okCond l = true ∧ ∀ w a b, holdI l w a b = !holdI k w a b := by
  have : j = 0 ∨ j = 1 ∨ j = 2 ∨ j = 3 ∨ j = 4 := by omega
  rcases this with rfl | rfl | rfl | rfl | rfl
  · exact ⟨_, _, rfl, rfl, by decide, by decide, opp1⟩
  · exact ⟨_, _, rfl, rfl, by decide, by decide, opp2⟩
  · exact ⟨_, _, rfl, rfl, by decide, by decide, opp3⟩
  · exact ⟨_, _, rfl, rfl, by decide, by decide, opp4⟩
  · exact ⟨_, _, rfl, rfl, by decide, by decide, opp5⟩
theorem cut_and (w : Bool) {a : Int} (ha : U64 a) : (if w then a else bits .and .u64 a 4294967295) = cutI w a := by
  cases w
  · exact and_low32 a ha.1 (by have := ha.2; omega)
  · rfl
set_option maxHeartbeats 4000000 in
set_option maxRecDepth 100000 in
theorem aluLaws_walk (a b : Int) (wide : Bool) (w : World) (ha : U64 a) (hb : U64 b) :
    Calls Try.prog 5 #[.int .u64 a, .int .u64 b, .bool wide] w fun e w' => e = .returned (.bool true) ∧ Touch [] w w' := by
  have uz : U64 0 := by unfold U64; omega
  have E1 := undo_add wide ha hb
  have E2 := undo_xor wide ha hb
  have E3 := undo_div wide ha hb
  have E4 := undo_neg wide ha
  have EC := cut_and wide ha
  have hc := ha.cut64 wide
  have D1 := toHid (fun w => do_ok 0 wide a b w (by decide) ha hb)
  have u1 : U64 (opI 0 wide a b) := opI_u64 (by decide) ha hb
  have D2 := toHid (fun w => do_ok 16 wide _ b w (by decide) u1 hb)
  have D3 := toHid (fun w => do_ok 160 wide a b w (by decide) ha hb)
  have u3 : U64 (opI 160 wide a b) := opI_u64 (by decide) ha hb
  have D4 := toHid (fun w => do_ok 160 wide _ b w (by decide) u3 hb)
  have D5 := toHid (fun w => do_ok 48 wide a b w (by decide) ha hb)
  have u5 : U64 (opI 48 wide a b) := opI_u64 (by decide) ha hb
  have D6 := toHid (fun w => do_ok 32 wide _ b w (by decide) u5 hb)
  have u6 : U64 (opI 32 wide (opI 48 wide a b) b) := opI_u64 (by decide) u5 hb
  have D7 := toHid (fun w => do_ok 144 wide a b w (by decide) ha hb)
  have u7 : U64 (opI 144 wide a b) := opI_u64 (by decide) ha hb
  have D8 := toHid (fun w => do_ok 0 wide _ _ w (by decide) u6 u7)
  have D9 := toHid (fun w => do_ok 128 wide a 0 w (by decide) ha uz)
  have u9 : U64 (opI 128 wide a 0) := opI_u64 (by decide) ha uz
  have D10 := toHid (fun w => do_ok 128 wide _ 0 w (by decide) u9 uz)
  have HH := toHid (fun (k : Int) (w : World) (hk : okCond k = true) => holds_ok k wide _ b w hk hc hb)
  rw [E1] at D2
  rw [E2] at D4
  rw [E3] at D8
  rw [E4] at D10
  clear E1 E2 E3 E4 u1 u3 u5 u6 u7 u9 ha hb uz hc
  generalize cutI wide a = A at *
  generalize opI 0 wide a b = x1 at *
  generalize opI 160 wide a b = x3 at *
  generalize opI 48 wide a b = x5 at *
  generalize opI 32 wide x5 b = x6 at *
  generalize opI 144 wide a b = x7 at *
  generalize opI 128 wide a 0 = x9 at *
  go_enter Try.func5, Try.ntmps5
  go_wp2_with (go_at_call 8; refine (first_any _).mono ?_; rintro e w ⟨rfl, rfl⟩)
  refine (D1.out _).mono ?_
  rintro e w ⟨rfl, rfl⟩
  go_wp2_with fail
  refine (D2.out _).mono ?_
  rintro e w ⟨rfl, rfl⟩
  go_wp2_with fail
  refine (D3.out _).mono ?_
  rintro e w ⟨rfl, rfl⟩
  go_wp2_with fail
  refine (D4.out _).mono ?_
  rintro e w ⟨rfl, rfl⟩
  go_wp2_with fail
  refine (D5.out _).mono ?_
  rintro e w ⟨rfl, rfl⟩
  go_wp2_with fail
  refine (D6.out _).mono ?_
  rintro e w ⟨rfl, rfl⟩
  go_wp2_with fail
  refine (D7.out _).mono ?_
  rintro e w ⟨rfl, rfl⟩
  go_wp2_with fail
  refine (D8.out _).mono ?_
  rintro e w ⟨rfl, rfl⟩
  go_wp2_with fail
  refine (D9.out _).mono ?_
  rintro e w ⟨rfl, rfl⟩
  go_wp2_with fail
  refine (D10.out _).mono ?_
  rintro e w ⟨rfl, rfl⟩
  clear D1 D2 D3 D4 D5 D6 D7 D8 D9 D10
  have HB := toHid (Blk.newA w #[.int .i64 16, .int .i64 80, .int .i64 32, .int .i64 176, .int .i64 48, .int .i64 160, .int .i64 96, .int .i64 208, .int .i64 112, .int .i64 192] pairs5 36 rfl)
  have HT := toHid ((Touch.refl [] w).alloc (.cells #[.int .i64 16, .int .i64 80, .int .i64 32, .int .i64 176, .int .i64 48, .int .i64 160, .int .i64 96, .int .i64 208, .int .i64 112, .int .i64 192] 36))
  cases wide
  all_goals simp only [Bool.false_eq_true, ↓reduceIte] at EC
  · go_wp2_with fail
    have HI := toHid (And.intro HB.out HT.out)
    clear HB HT EC
    generalize World.alloc _ _ = w1 at *
    generalize w.heap.size = N at *
    go_loopw [132] (fun t w' => ∃ j : Nat, j ≤ 5 ∧ t = .int .i64 j ∧ Hid (Blk w' N pairs5 36 ∧ Touch [] w w')) (fun t _ => 5 - (intOf t).toNat)
    case atStart => exact ⟨0, by omega, rfl, HI⟩
    case round =>
      clear HI
      obtain ⟨j, hj, rfl, HI⟩ := hrel
      by_cases h2 : j = 5
      · subst h2
        go_wp2
        go_ret
        exact ⟨rfl, HI.out.2⟩
      · have hlt : j < 5 := by omega
        obtain ⟨k, l, hk, hl, ok, ol, hop⟩ := pairs_at hlt
        have c0 := HI.out.1.cell hk
        have c1 := HI.out.1.cell hl
        clear hk hl
        have H1 := toHid (fun w => HH.out k w ok)
        have H2 := toHid (fun w => HH.out l w ol)
        rw [hop] at H2
        clear ok ol hop
        generalize holdI k false A b = p at *
        have HN := toHid (And.intro (HI.out.1.alloc (.cells #[.int .i64 k, .int .i64 l] 36)) (HI.out.2.alloc (.cells #[.int .i64 k, .int .i64 l] 36)))
        go_wp2_with fail
        refine (H1.out _).mono ?_
        rintro e w ⟨rfl, rfl⟩
        go_wp2_with fail
        refine (H2.out _).mono ?_
        rintro e w ⟨rfl, rfl⟩
        go_wp2
        go_roundw
        case rel => exact ⟨j + 1, by omega, rfl, HN⟩
        case measure => simp [intOf]; omega
  · go_wp2_with fail
    have HI := toHid (And.intro HB.out HT.out)
    clear HB HT EC
    generalize World.alloc _ _ = w1 at *
    generalize w.heap.size = N at *
    go_loopw [132] (fun t w' => ∃ j : Nat, j ≤ 5 ∧ t = .int .i64 j ∧ Hid (Blk w' N pairs5 36 ∧ Touch [] w w')) (fun t _ => 5 - (intOf t).toNat)
    case atStart => exact ⟨0, by omega, rfl, HI⟩
    case round =>
      clear HI
      obtain ⟨j, hj, rfl, HI⟩ := hrel
      by_cases h2 : j = 5
      · subst h2
        go_wp2
        go_ret
        exact ⟨rfl, HI.out.2⟩
      · have hlt : j < 5 := by omega
        obtain ⟨k, l, hk, hl, ok, ol, hop⟩ := pairs_at hlt
        have c0 := HI.out.1.cell hk
        have c1 := HI.out.1.cell hl
        clear hk hl
        have H1 := toHid (fun w => HH.out k w ok)
        have H2 := toHid (fun w => HH.out l w ol)
        rw [hop] at H2
        clear ok ol hop
        generalize holdI k true A b = p at *
        have HN := toHid (And.intro (HI.out.1.alloc (.cells #[.int .i64 k, .int .i64 l] 36)) (HI.out.2.alloc (.cells #[.int .i64 k, .int .i64 l] 36)))
        go_wp2_with fail
        refine (H1.out _).mono ?_
        rintro e w ⟨rfl, rfl⟩
        go_wp2_with fail
        refine (H2.out _).mono ?_
        rintro e w ⟨rfl, rfl⟩
        go_wp2
        go_roundw
        case rel => exact ⟨j + 1, by omega, rfl, HN⟩
        case measure => simp [intOf]; omega
end Go.Proofs.Ytfcekjdjhgoofaa
