/-
  For every input MemNil returns true, and each argument reads afterwards as it read before. No conditions.
-/
import Derived.Test.YtbidppeelophhaaFirst
import Derived.ProofKit
namespace Go.Proofs.Ytbidppeelophhaa
open Go.ChangeShapes Go.WideShapes Go.ChangeAt Go.RowKit

set_option maxHeartbeats 4000000 in
set_option maxRecDepth 100000 in
theorem memNil_walk (k0 a0 n0 m0 v0 : Int) (sa : Option Addr) (sl sc : Nat) (w : World) :
    Calls Try.prog 7 #[.agg #[.int .i64 k0, .int .u64 a0, .int .i64 n0, .int .i64 m0, .int .u64 v0, .slice sa sl sc]] w fun e w' => e = .returned (.bool true) ∧ Touch [] w w' := by
  go_enter Try.func7, Try.ntmps7
  go_wp2_with fail
  have hB := Blk.newA w #[.int .i64 k0, .int .u64 a0, .int .i64 n0, .int .i64 m0, .int .u64 v0, .slice sa sl sc] _ 33 rfl
  have htw : Touch [] w (w.alloc (.cells #[.int .i64 k0, .int .u64 a0, .int .i64 n0, .int .i64 m0, .int .u64 v0, .slice sa sl sc] 33)) := (Touch.refl _ w).alloc _
  refine (first_any _).mono ?_
  rintro e w2 ⟨rfl, ht2⟩
  have hB2 := ht2.blk hB (by simp)
  have htw2 := htw.trans ht2 (by simp)
  generalize w.heap.size = N at *
  have e1 : w2.cell? ⟨N, 1, none⟩ = some (.int .u64 a0) := hB2.cell rfl
  have e2 : w2.cell? ⟨N, 2, none⟩ = some (.int .i64 n0) := hB2.cell rfl
  have e3 : w2.cell? ⟨N, 3, none⟩ = some (.int .i64 m0) := hB2.cell rfl
  have HB2 := toHid hB2
  have HT2 := toHid htw2
  clear hB2 htw2 hB htw ht2
  go_wp2_with (first
    | (go_at_call 18; refine (nilAdd _ _ _ _).mono ?_; rintro e w2 ⟨rfl, rfl⟩)
    | (go_at_call 20; refine (nilLoad _ _ _).mono ?_; rintro e w2 ⟨rfl, rfl⟩)
    | (go_at_call 21; refine (nilRead _ _ _).mono ?_; rintro e w2 ⟨rfl, rfl⟩)
    | (go_at_call 16; refine (nilBytes _ _).mono ?_; rintro e w2 ⟨rfl, rfl⟩)
    | (go_at_call 25; refine (nilFind _ _).mono ?_; rintro e w2 ⟨rfl, rfl⟩))
  refine (newM_any w2).mono ?_
  rintro e w3 ⟨rfl, hx, ht3⟩
  have HX := toHid hx
  have HT3 := toHid ht3
  clear hx ht3
  go_wp2_with fail
  refine (newM_any w3).mono ?_
  rintro e w4 ⟨rfl, hy, ht4⟩
  have H5 := toHid (addNew_any (HX.out.touch ht4 (by simp)) 5 5 3 (by decide) (by decide) rfl)
  have HY := toHid hy
  have HT4 := toHid ht4
  clear hy ht4 e1 e2 e3
  go_wp2_with fail
  refine H5.out.mono ?_
  rintro e w5 ⟨rfl, ht5, _⟩
  have hs3 : w2.heap.size < w3.heap.size := HX.out.lt w2.heap.size (by simp [MS.blocks, MS.new])
  have hy5 := HY.out.touch ht5 (by simp [MS.blocks, MS.new]; omega)
  have H6 := toHid (load_any hy5 5 1 (by decide) (by decide))
  have hB5 := ht5.blk (HT4.out.blk (HT3.out.blk HB2.out (by simp)) (by simp)) (by have := HB2.out.lt; simp; omega)
  have e1 : w5.cell? ⟨N, 1, none⟩ = some (.int .u64 a0) := hB5.cell rfl
  have e2 : w5.cell? ⟨N, 2, none⟩ = some (.int .i64 n0) := hB5.cell rfl
  have e3 : w5.cell? ⟨N, 3, none⟩ = some (.int .i64 m0) := hB5.cell rfl
  have e4 : w5.cell? ⟨N, 4, none⟩ = some (.int .u64 v0) := hB5.cell rfl
  have e5 : w5.cell? ⟨N, 5, none⟩ = some (.slice sa sl sc) := hB5.cell rfl
  have HF : Hid (Touch [] w w5) := ((HT2.out.trans HT3.out (by simp)).trans HT4.out (by simp)).trans ht5 (fun x hx => Or.inr (by simp at hx; have := HT2.out.size; omega))
  clear hB5 ht5 hy5 H5
  go_wp2_with fail
  refine H6.out.mono ?_
  rintro e w6 ⟨rfl, k6, rfl⟩
  have hv1 : loadE (MS.new w3.heap.size).rs 5 1 = 10 := rfl
  rw [hv1]
  generalize loadV (MS.new w3.heap.size).rs 5 1 = q
  clear H6 hv1
  go_wp2_with (first
    | (go_at_call 23; refine (nilKill _ _).mono ?_; rintro e w5 ⟨rfl, rfl⟩)
    | (go_at_call 19; refine (nilStore _ _ _ _).mono ?_; rintro e w5 ⟨rfl, rfl⟩)
    | (go_at_call 22; refine (nilWrite _ _ _).mono ?_; rintro e w5 ⟨rfl, rfl⟩)
    | (go_at_call 26; refine (nilPoke _ _ _ _).mono ?_; rintro e w5 ⟨rfl, rfl⟩)
    | (go_at_call 14; refine (nilCopy _).mono ?_; rintro e w5 ⟨rfl, rfl⟩)
    | (go_at_call 12; refine (nilCount _).mono ?_; rintro e w5 ⟨rfl, rfl⟩)
    | (go_at_call 24; refine (nilLive _ _).mono ?_; rintro e w5 ⟨rfl, rfl⟩))
  go_ret
  exact ⟨rfl, HF.out.drewN _⟩
end Go.Proofs.Ytbidppeelophhaa
