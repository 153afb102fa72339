/-
  The small functions of package mem: what each call returns.
-/
import Derived.Test.YtkfmhabplcikiaaRows
import Derived.Test.YtkfmhabplcikiaaKit
namespace Go.Proofs.Ytkfmhabplcikiaa.Mem
open Go.RowKit

theorem info5 : (Try.prog.info? 5).map (fun i => (i.zero, i.size, i.bytes)) = some (some (.int .u8 0), 1, 1) := by kernel_rfl
theorem info4 : (Try.prog.info? 4).map (fun i => (i.zero, i.size, i.bytes)) = some (some (.bool false), 1, 1) := by kernel_rfl

set_option maxHeartbeats 400000 in
theorem new_any (w : World) :
    Calls Try.prog 7 #[] w fun e w' => e = .returned (.pointer (some ⟨w.heap.size, 0, none⟩)) ∧ w' = w.alloc (.cells #[.slice none 0 0, .int .i64 0] 66) := by
  go_enter Try.func7, Try.ntmps7
  go_wp2
  go_ret
  exact ⟨rfl, rfl⟩

set_option maxHeartbeats 400000 in
theorem holds_any (p bb n c : Nat) (addr base : Int) (w : World)
    (h1 : w.cell? ⟨p, 1, none⟩ = some (.int .u64 base)) (h3 : w.cell? ⟨p, 3, none⟩ = some (.slice (some ⟨bb, 0, none⟩) n c)) :
    Calls Try.prog 42 #[.pointer (some ⟨p, 0, none⟩), .int .u64 addr] w fun e w' => e = .returned (.bool (decide (IntKind.u64.wrap (addr - base) < IntKind.u64.wrap ↑n))) ∧ ∃ k, w' = w.drewN k := by
  go_enter Try.func42, Try.ntmps42
  go_wp2
  go_quiet (fail)
  go_wp2
  go_ret
  exact ⟨rfl, _, rfl⟩

set_option maxHeartbeats 400000 in
theorem isWord_any (n : Int) (w : World) :
    Calls Try.prog 36 #[.int .i64 n] w fun e w' => e = .returned (.bool (n == 1 || n == 2 || n == 4 || n == 8)) ∧ w' = w := by
  go_enter Try.func36, Try.ntmps36
  go_wp2
  all_goals
    go_ret
    refine ⟨?_, rfl⟩
    first | rfl | (subst_vars; rfl)

set_option maxHeartbeats 400000 in
theorem reaches_any (p bb n c : Nat) (at_ k : Int) (w : World) (_hn : n ≤ 65536) (_hk : 0 ≤ k) (_hk2 : k ≤ 9223372036854775807)
    (h3 : w.cell? ⟨p, 3, none⟩ = some (.slice (some ⟨bb, 0, none⟩) n c)) :
    Calls Try.prog 57 #[.pointer (some ⟨p, 0, none⟩), .int .i64 at_, .int .i64 k] w fun e w' => e = .returned (.bool (decide (at_ ≤ n - k))) ∧ w' = w := by
  go_enter Try.func57, Try.ntmps57
  go_wp2
  go_ret
  exact ⟨rfl, rfl⟩

set_option maxHeartbeats 400000 in
theorem behind_nil (m : Nat) (addr : Int) (w : World) (h0 : w.cell? ⟨m, 0, none⟩ = some (.slice none 0 0)) :
    Calls Try.prog 26 #[.pointer (some ⟨m, 0, none⟩), .int .u64 addr] w fun e w' => e = .returned (.int .i64 0) ∧ ∃ k, w' = w.drewN k := by
  go_enter Try.func26, Try.ntmps26
  go_wp2
  go_quiet (fail)
  go_wp2
  go_loop [5, 6] (fun low high => low = .int .i64 0 ∧ high = .int .i64 0) (fun _ _ => 0)
  case atStart => exact ⟨rfl, rfl⟩
  case round =>
    obtain ⟨rfl, rfl⟩ := hrel
    go_wp2
    go_ret
    exact ⟨rfl, _, rfl⟩

set_option maxHeartbeats 400000 in
theorem behind_some (m g n cap : Nat) (addr : Int) (ps : Nat → Nat) (bs : Nat → Int) (w : World) (hn : n ≤ 4096)
    (h0 : w.cell? ⟨m, 0, none⟩ = some (.slice (some ⟨g, 0, none⟩) n cap))
    (hc : ∀ j, j < n → w.cell? ⟨g, j, none⟩ = some (.pointer (some ⟨ps j, 0, none⟩)))
    (hb : ∀ j, j < n → w.cell? ⟨ps j, 1, none⟩ = some (.int .u64 (bs j)))
    (hs : ∀ i j, i < j → j < n → bs i < bs j) :
    Calls Try.prog 26 #[.pointer (some ⟨m, 0, none⟩), .int .u64 addr] w fun e w' => (∃ i : Nat, i ≤ n ∧ e = .returned (.int .i64 i) ∧ (∀ j, j < i → bs j ≤ addr) ∧ (∀ j, i ≤ j → j < n → addr < bs j)) ∧ ∃ k, w' = w.drewN k := by
  have HS : Hid (∀ i j, i < j → j < n → bs i < bs j) := hs
  have HC : Hid (∀ j, j < n → w.cell? ⟨g, j, none⟩ = some (.pointer (some ⟨ps j, 0, none⟩))) := hc
  have HB : Hid (∀ j, j < n → w.cell? ⟨ps j, 1, none⟩ = some (.int .u64 (bs j))) := hb
  clear hs hc hb
  go_enter Try.func26, Try.ntmps26
  go_wp2
  go_quiet (fail)
  go_wp2
  go_loop [5, 6] (fun low high => ∃ l h : Nat, l ≤ h ∧ h ≤ n ∧ low = .int .i64 l ∧ high = .int .i64 h ∧ Hid ((∀ j, j < l → bs j ≤ addr) ∧ (∀ j, h ≤ j → j < n → addr < bs j))) (fun low high => (intOf high - intOf low).toNat)
  case atStart => exact ⟨0, n, by omega, by omega, rfl, rfl, ⟨fun j hj => by omega, fun j hj hj' => by omega⟩⟩
  case round =>
    obtain ⟨l, h, hlh, hhn, rfl, rfl, HI⟩ := hrel
    by_cases hlt : l < h
    · obtain ⟨k, hk⟩ : ∃ k : Nat, ((l : Int) + h) / 2 = k := ⟨((l + h) / 2), by omega⟩
      have hk1 : l ≤ k := by omega
      have hk2 : k < h := by omega
      have c1 := HC.out k (by omega)
      have c2 := HB.out k (by omega)
      by_cases ha : addr < bs k
      · go_wp2
        go_round
        case rel => exact ⟨l, k, by omega, by omega, rfl, by rw [hk], HI.out.1, fun j hj hj' => by
            have := HS.out k j
            by_cases e : j = k
            · subst e; exact ha
            · have := this (by omega) hj'; omega⟩
        case measure => simp [intOf]; omega
      · go_wp2
        go_round
        case rel => exact ⟨k + 1, h, by omega, by omega, by go_num, rfl, fun j hj => by
            have := HS.out j k
            by_cases e : j = k
            · subst e; omega
            · have := this (by omega) (by omega); omega, HI.out.2⟩
        case measure => simp [intOf]; omega
    · have e : h = l := by omega
      subst e
      go_wp2
      go_ret
      exact ⟨⟨_, hhn, rfl, HI.out⟩, _, rfl⟩

/-- May there be such a region in an empty memory? -/
def mayBeB (b n p : Int) : Bool := decide (1 ≤ n ∧ n ≤ 65536 ∧ 0 ≤ p ∧ p ≤ 7 ∧ b + n ≤ 18446744073709551616)

set_option maxHeartbeats 400000 in
theorem mayBe_any (b n p : Int) (w : World) (hb0 : 0 ≤ b) (hb1 : b ≤ 18446744073709551615) :
    Calls Try.prog 25 #[.int .u64 b, .int .i64 n, .int .i64 p] w fun e w' => e = .returned (.bool (mayBeB b n p)) ∧ w' = w := by
  have hx := u64_not b hb0 hb1
  go_enter Try.func25, Try.ntmps25
  go_wp2
  all_goals
    go_ret
    refine ⟨ret_bool ?_, rfl⟩
    unfold mayBeB
    first
      | (refine (decide_eq_false ?_).symm; omega)
      | (refine decide_eq_decide.2 ?_; omega)

theorem fresh_no (p : Int) (h0 : 0 ≤ p) (h1 : p < 4) : bits .and .i64 p 4 = 0 := by
  have : p = 0 ∨ p = 1 ∨ p = 2 ∨ p = 3 := by omega
  rcases this with rfl | rfl | rfl | rfl <;> decide
theorem fresh_yes (p : Int) (h0 : 4 ≤ p) (h1 : p ≤ 7) : bits .and .i64 p 4 = 4 := by
  have : p = 4 ∨ p = 5 ∨ p = 6 ∨ p = 7 := by omega
  rcases this with rfl | rfl | rfl | rfl <;> decide

set_option maxHeartbeats 400000 in
theorem newRegion_plain (id b p : Int) (n : Nat) (w : World) (hn : n ≤ 65536) (hp0 : 0 ≤ p) (hp1 : p < 4) :
    Calls Try.prog 28 #[.int .i64 id, .int .u64 b, .int .i64 n, .int .i64 p] w fun e w' => e = .returned (.pointer (some ⟨w.heap.size + 1, 0, none⟩)) ∧
      w' = (w.alloc (.cells (List.replicate n (Value.int .u8 0)).toArray 5)).alloc (.cells #[.int .i64 id, .int .u64 b, .int .i64 p, .slice (some ⟨w.heap.size, 0, none⟩) n n, .slice none 0 0] 75) := by
  have hmk := run_make_blk (P := Try.prog) Try.underlying60 info5 rfl n (by omega) (by omega) .i64
  have hf := fresh_no p hp0 hp1
  go_enter Try.func28, Try.ntmps28
  go_wp2
  go_ret
  exact ⟨rfl, rfl⟩

set_option maxHeartbeats 400000 in
theorem newRegion_fresh (id b p : Int) (n : Nat) (w : World) (hn : n ≤ 65536) (hp0 : 4 ≤ p) (hp1 : p ≤ 7) :
    Calls Try.prog 28 #[.int .i64 id, .int .u64 b, .int .i64 n, .int .i64 p] w fun e w' => e = .returned (.pointer (some ⟨w.heap.size + 1, 0, none⟩)) ∧
      w' = ((w.alloc (.cells (List.replicate n (Value.int .u8 0)).toArray 5)).alloc (.cells #[.int .i64 id, .int .u64 b, .int .i64 p, .slice (some ⟨w.heap.size, 0, none⟩) n n, .slice (some ⟨w.heap.size + 1 + 1, 0, none⟩) n n] 75)).alloc (.cells (List.replicate n (Value.bool false)).toArray 4) := by
  have hmk := run_make_blk (P := Try.prog) Try.underlying60 info5 rfl n (by omega) (by omega) .i64
  have hmk2 := run_make_blk (P := Try.prog) Try.underlying73 info4 rfl n (by omega) (by omega) .i64
  have hf := fresh_yes p hp0 hp1
  go_enter Try.func28, Try.ntmps28
  go_wp2
  go_ret
  exact ⟨rfl, by simp⟩
end Go.Proofs.Ytkfmhabplcikiaa.Mem
