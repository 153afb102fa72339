/-
  For every input InsnLongs returns true, and each argument reads afterwards as it read before. No conditions. (The walk.)
-/
import Derived.Test.YtjioemkapmchpaaFirst
import Derived.Test.YtjioemkapmchpaaLong
namespace Go.Proofs.Ytjioemkapmchpaa
open Go.RowKit

set_option maxHeartbeats 4000000 in
set_option maxRecDepth 100000 in
theorem insnLongs_walk (lo hi : In) (v : Int) (w : World) (v0 : 0 ≤ v) (v1 : v ≤ 18446744073709551615) :
    Calls Try.prog 6 #[lo.v, hi.v, .int .u64 v] w fun e w' => e = .returned (.bool true) ∧ Touch [] w w' := by
  have hA : Blk ((w.alloc (.cells #[.int .u8 lo.op, .int .u8 lo.dst, .int .u8 lo.src, .int .i16 lo.off, .int .i32 lo.imm] 30)).alloc (.cells #[.int .u8 hi.op, .int .u8 hi.dst, .int .u8 hi.src, .int .i16 hi.off, .int .i32 hi.imm] 30)) w.heap.size lo.cells 30 :=
    (Blk.newA w _ lo.cells 30 rfl).alloc _
  have hB : Blk ((w.alloc (.cells #[.int .u8 lo.op, .int .u8 lo.dst, .int .u8 lo.src, .int .i16 lo.off, .int .i32 lo.imm] 30)).alloc (.cells #[.int .u8 hi.op, .int .u8 hi.dst, .int .u8 hi.src, .int .i16 hi.off, .int .i32 hi.imm] 30)) (w.heap.size + 1) hi.cells 30 := by
    have := Blk.newA (w.alloc (.cells #[.int .u8 lo.op, .int .u8 lo.dst, .int .u8 lo.src, .int .i16 lo.off, .int .i32 lo.imm] 30)) _ hi.cells 30 rfl
    simpa using this
  have HA := toHid hA
  have HB := toHid hB
  clear hA hB
  simp only [In.v]
  go_enter Try.func6, Try.ntmps6
  go_wp2_with fail
  refine (first_any _).mono ?_
  rintro e w2 ⟨rfl, ht2⟩
  have hA2 := ht2.blk HA.out (by simp)
  have hB2 := ht2.blk HB.out (by simp)
  have a1 : w2.cell? ⟨w.heap.size, 1, none⟩ = some _ := hA2.cell rfl
  have a2 : w2.cell? ⟨w.heap.size, 2, none⟩ = some _ := hA2.cell rfl
  have HA2 := toHid hA2
  have HB2 := toHid hB2
  have HT := toHid ((((Touch.refl [] w).alloc _).alloc _).trans ht2 (by simp))
  clear hA2 hB2 ht2 HA HB
  go_wp2_with fail
  refine (split_any lo.dst lo.src v w2 v0).mono ?_
  rintro e w3 ⟨⟨L, rfl, hL, hLb⟩, ht3⟩
  have hA3 := ht3.blk HA2.out (by simp)
  have hB3 := ht3.blk HB2.out (by simp)
  have HT3 := toHid (HT.out.trans ht3 (by simp))
  clear a1 a2 HT ht3 hL HA2 HB2
  generalize w.heap.size = N at *
  have a0 : w3.cell? ⟨N, 0, none⟩ = some (.int .u8 lo.op) := hA3.cell rfl
  have a1 : w3.cell? ⟨N, 1, none⟩ = some (.int .u8 lo.dst) := hA3.cell rfl
  have a2 : w3.cell? ⟨N, 2, none⟩ = some (.int .u8 lo.src) := hA3.cell rfl
  have a3 : w3.cell? ⟨N, 3, none⟩ = some (.int .i16 lo.off) := hA3.cell rfl
  have a4 : w3.cell? ⟨N, 4, none⟩ = some (.int .i32 lo.imm) := hA3.cell rfl
  have b0 : w3.cell? ⟨N + 1, 0, none⟩ = some (.int .u8 hi.op) := hB3.cell rfl
  have b1 : w3.cell? ⟨N + 1, 1, none⟩ = some (.int .u8 hi.dst) := hB3.cell rfl
  have b2 : w3.cell? ⟨N + 1, 2, none⟩ = some (.int .u8 hi.src) := hB3.cell rfl
  have b3 : w3.cell? ⟨N + 1, 3, none⟩ = some (.int .i16 hi.off) := hB3.cell rfl
  have b4 : w3.cell? ⟨N + 1, 4, none⟩ = some (.int .i32 hi.imm) := hB3.cell rfl
  have l0 : w3.cell? ⟨L, 0, none⟩ = some (.int .u8 24) := hLb.cell rfl
  have l1 : w3.cell? ⟨L, 1, none⟩ = some (.int .u8 lo.dst) := hLb.cell rfl
  have l2 : w3.cell? ⟨L, 2, none⟩ = some (.int .u8 lo.src) := hLb.cell rfl
  have l3 : w3.cell? ⟨L, 3, none⟩ = some (.int .i16 0) := hLb.cell rfl
  have l4 : w3.cell? ⟨L, 4, none⟩ = some (.int .i32 (wrap32 (v % 4294967296))) := hLb.cell rfl
  have l5 : w3.cell? ⟨L, 5, none⟩ = some (.int .u8 0) := hLb.cell rfl
  have l6 : w3.cell? ⟨L, 6, none⟩ = some (.int .u8 0) := hLb.cell rfl
  have l7 : w3.cell? ⟨L, 7, none⟩ = some (.int .u8 0) := hLb.cell rfl
  have l8 : w3.cell? ⟨L, 8, none⟩ = some (.int .i16 0) := hLb.cell rfl
  have l9 : w3.cell? ⟨L, 9, none⟩ = some (.int .i32 (wrap32 (v / 4294967296 % 4294967296))) := hLb.cell rfl
  clear hA3 hB3 hLb
  generalize hy : wrap32 (v % 4294967296) = y4 at *
  generalize hz : wrap32 (v / 4294967296 % 4294967296) = y9 at *
  have hsl := split_long v v0 v1
  rw [hy, hz] at hsl
  clear hy hz
  go_wp2_with fail
  go_region_held3 (fun w' => w'.cell? ⟨N, 0, none⟩ = some (.int .u8 lo.op) ∧ w'.cell? ⟨N, 1, none⟩ = some (.int .u8 lo.dst) ∧ w'.cell? ⟨N, 2, none⟩ = some (.int .u8 lo.src) ∧ w'.cell? ⟨N, 3, none⟩ = some (.int .i16 lo.off) ∧ w'.cell? ⟨N, 4, none⟩ = some (.int .i32 lo.imm) ∧
      w'.cell? ⟨N + 1, 0, none⟩ = some (.int .u8 hi.op) ∧ w'.cell? ⟨N + 1, 1, none⟩ = some (.int .u8 hi.dst) ∧ w'.cell? ⟨N + 1, 2, none⟩ = some (.int .u8 hi.src) ∧ w'.cell? ⟨N + 1, 3, none⟩ = some (.int .i16 hi.off) ∧ w'.cell? ⟨N + 1, 4, none⟩ = some (.int .i32 hi.imm) ∧
      w'.cell? ⟨L, 0, none⟩ = some (.int .u8 24) ∧ w'.cell? ⟨L, 1, none⟩ = some (.int .u8 lo.dst) ∧ w'.cell? ⟨L, 2, none⟩ = some (.int .u8 lo.src) ∧ w'.cell? ⟨L, 3, none⟩ = some (.int .i16 0) ∧ w'.cell? ⟨L, 4, none⟩ = some (.int .i32 y4) ∧
      w'.cell? ⟨L, 5, none⟩ = some (.int .u8 0) ∧ w'.cell? ⟨L, 6, none⟩ = some (.int .u8 0) ∧ w'.cell? ⟨L, 7, none⟩ = some (.int .u8 0) ∧ w'.cell? ⟨L, 8, none⟩ = some (.int .i16 0) ∧ w'.cell? ⟨L, 9, none⟩ = some (.int .i32 y9))
    (first | go_keep | (go_split_ands; refine ⟨?_, ?_, ?_, ?_, ?_, ?_, ?_, ?_, ?_, ?_, ?_, ?_, ?_, ?_, ?_, ?_, ?_, ?_, ?_, ?_⟩ <;> (refine ht.cell ?_ (by simp); assumption)))
    (first | (go_at_call 23; refine (rlong_raw _ _ _ _ _ _ _ _ _ _ _).mono ?_; rintro e w' ⟨rfl, ht⟩) | (go_at_call 22; refine (long_raw _ _ _ _ _ _ _ _ _ _ _).mono ?_; rintro e w' ⟨rfl, ht⟩))
  rename_i w4 ht4 w5 ht5 hh
  have HT6 := toHid (((HT3.out.drew.trans ht4 (by simp)).trans ht5 (by simp)).trans ht (by simp))
  clear ht4 ht5 ht hh
  go_wp2
  go_ret
  exact ⟨rfl, HT6.out⟩
end Go.Proofs.Ytjioemkapmchpaa
