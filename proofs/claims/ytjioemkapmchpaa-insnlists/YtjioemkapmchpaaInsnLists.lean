/-
  For every input InsnLists returns true, and each argument reads afterwards as it read before. No conditions. (The walk.)
-/
import Derived.Test.YtjioemkapmchpaaLists0
namespace Go.Proofs.Ytjioemkapmchpaa
open Go.RowKit

/-- Where a row of instructions lies, a cell at a time. -/
theorem CameI.at {w : World} {sa : Option Addr} {n : Nat} {f : Nat → In} (h : CameI w sa n f) {k : Nat} (hk : k < n) : ∃ b off, sa = some ⟨b, off, none⟩ ∧ (f k).Ok ∧ w.cell? ⟨b, off + k * 5, none⟩ = some (.int .u8 (f k).op) ∧ w.cell? ⟨b, off + k * 5 + 1, none⟩ = some (.int .u8 (f k).dst) ∧
    w.cell? ⟨b, off + k * 5 + 2, none⟩ = some (.int .u8 (f k).src) ∧ w.cell? ⟨b, off + k * 5 + 3, none⟩ = some (.int .i16 (f k).off) ∧ w.cell? ⟨b, off + k * 5 + 4, none⟩ = some (.int .i32 (f k).imm) := by
  rcases h with h | ⟨b, off, h1, _, h3⟩
  · omega
  · exact ⟨b, off, h1, h3 k hk⟩

set_option maxHeartbeats 4000000 in
set_option maxRecDepth 100000 in
theorem insnLists_walk (sa : Option Addr) (n c : Nat) (f : Nat → In) (w : World) (hc : CameI w sa n f) (hok : ∀ j, j < n → (f j).Ok) (hn : n * 12 ≤ 140737488351232) :
    Calls Try.prog 4 #[.slice sa n c] w fun e w' => e = .returned (.bool true) ∧ Touch [] w w' := by
  have HC := toHid hc
  have HOK := toHid hok
  clear hc hok
  go_enter Try.func4, Try.ntmps4
  go_wp2_with fail
  refine (first_any w).mono ?_
  rintro e w2 ⟨rfl, ht2⟩
  have hta : Touch [] w (w2.alloc (.cells #[] 30)) := ht2.alloc _
  have hE : Blk (w2.alloc (.cells #[] 30)) w2.heap.size [] 30 := Blk.newA w2 #[] [] 30 rfl
  obtain ⟨g, cap, w3, hr3, hrow3, ht3, hg3⟩ := append_was (c := c) hE (HC.out.touch hta) (by omega)
  have hs2 := ht2.size
  have hT3 : Touch [] w w3 := hta.trans ht3 (fun x hx => Or.inr (by simp at hx; omega))
  have HR3 := toHid hr3
  have HW3 := toHid (row_came HOK.out hrow3)
  have HT3 := toHid hT3
  have HE3 := toHid (encode_any sa n c f w3 (HC.out.touch hT3) (by omega))
  clear hr3 hrow3 ht3 hT3 hta hE ht2 hg3 hs2
  go_wp2_with (at_builtin; refine Lib.wpList_append_run _ rfl _ _ _ _ rfl _ _ rfl rfl _ _ HR3.out ?_)
  simp only [slV]
  generalize (g.map fun b => (⟨b, 0, none⟩ : Addr)) = wa at *
  refine HE3.out.mono ?_
  rintro e w4 ⟨ht4, N, rfl, hN, hB4⟩
  have HW4 := toHid (HW3.out.touch ht4)
  have HT4 := toHid (HT3.out.trans ht4 (by simp))
  have HB4 := toHid hB4
  have hnn : n ≤ 11728124029270 := by omega
  clear ht4 hN hB4 HE3 HW3 HT3 HR3
  go_wp2_with fail
  go_loopw [5, 20] (fun v t w' => ∃ k : Nat, k ≤ n ∧ t = .int .i64 k ∧ Hid (OwnAt w4 w' v (rowNums f k) ∧ Touch [] w4 w')) (fun _ t _ => n - (intOf t).toNat)
  case atStart => exact ⟨0, by omega, rfl, OwnAt.nil _ _, Touch.refl _ _⟩
  case round =>
    obtain ⟨k, hk, rfl, HI⟩ := hrel
    by_cases hlt : k < n
    · obtain ⟨wb, woff, hwa, ok, q0, q1, q2, q3, q4⟩ := HW4.out.at hlt
      obtain ⟨lb, loff, hla, _, p0, p1, p2, p3, p4⟩ := (HC.out.touch HT4.out).at hlt
      have d0 := HI.out.2.cell q0 (by simp)
      have d1 := HI.out.2.cell q1 (by simp)
      have d2 := HI.out.2.cell q2 (by simp)
      have d3 := HI.out.2.cell q3 (by simp)
      have d4 := HI.out.2.cell q4 (by simp)
      subst hwa
      subst hla
      have HF := toHid (ribytes_any (f k) wr ok)
      have HL := toHid (rowNums_succ f k)
      have HLL := toHid (rowNums_length f k)
      generalize hi : f k = i at *
      simp only [In.v] at HF
      have hki : (k : Int) < n := by omega
      go_wp2_with fail
      refine HF.out.mono ?_
      rintro e w5 ⟨⟨x5, rfl, ho5⟩, ht5⟩
      have hT5 := HI.out.2.trans ht5 (by simp)
      obtain ⟨v6, w6, hr6, ho6, ht6⟩ := (HI.out.1.touch ht5).cat hT5 ho5 (by simp [In.nums]) (by rw [HLL.out]; simp [In.nums]; omega)
      rw [← HL.out] at ho6
      have HR6 := toHid hr6
      have HO6 := toHid (And.intro ho6 ht6)
      replace q0 := ht6.cell q0 (by simp)
      replace q1 := ht6.cell q1 (by simp)
      replace q2 := ht6.cell q2 (by simp)
      replace q3 := ht6.cell q3 (by simp)
      replace q4 := ht6.cell q4 (by simp)
      replace p0 := ht6.cell p0 (by simp)
      replace p1 := ht6.cell p1 (by simp)
      replace p2 := ht6.cell p2 (by simp)
      replace p3 := ht6.cell p3 (by simp)
      replace p4 := ht6.cell p4 (by simp)
      clear hr6 ho6 ht6 hT5 ho5 ht5 d0 d1 d2 d3 d4 HF HI HL HLL
      go_wp2_with (at_builtin; refine Lib.wpList_append_run _ rfl _ _ _ _ rfl _ _ rfl rfl _ _ HR6.out ?_)
      go_quiet (fail)
      go_wp2
      go_roundw
      case rel => exact ⟨k + 1, by omega, by go_num, HO6.out.1.touch ((Touch.refl [] w6).drewN nq), HO6.out.2.drewN nq⟩
      case measure => simp [intOf]; omega
    · have hkm : k = n := by omega
      subst hkm
      have hok := HOK.out
      have hrow := came_row hok (HI.out.2.blk HB4.out (by simp))
      have HD := toHid (decode_any (some ⟨N, 0, none⟩) (8 * k) (8 * k) (rowByte f) wr hrow (by omega) (Nat.le_refl _) (by omega))
      have HI' := HI.out
      clear hok hrow
      go_wp2_with fail
      refine HD.out.mono ?_
      rintro e w6 ⟨ht6, he⟩
      rw [if_pos (by omega), show 8 * k / 8 = k by omega] at he
      obtain ⟨L, rfl, hL, hBL⟩ := he
      have hT6 := HI.out.2.trans ht6 (by simp)
      have hcv1 := conv_came (came_row HOK.out (hT6.blk HB4.out (by simp))) (Touch.refl [] w6) (8 * k)
      have hcv2 := conv_own (HI.out.1.touch ht6)
      rw [rowNums_eq] at hcv2
      rw [show strOfNums ((List.range (8 * k)).map (rowByte f)) = strN (rowByte f) (8 * k) from rfl] at hcv2
      generalize strN (rowByte f) (8 * k) = Z at *
      have HT6 := toHid hT6
      have HBL := toHid hBL
      clear ht6 hT6 hBL hL HI' HD HI
      go_wp2_with fail
      go_loopw [63] (fun t w' => ∃ j : Nat, j ≤ k ∧ t = .int .i64 j ∧ Hid (Touch [] w6 w')) (fun t _ => k - (intOf t).toNat)
      case atStart => exact ⟨0, by omega, rfl, Touch.refl _ _⟩
      case round =>
        obtain ⟨j, hj, rfl, HJ⟩ := hrel
        by_cases hlt2 : j < k
        · obtain ⟨wb, woff, hwa, ok, q0, q1, q2, q3, q4⟩ := (HW4.out.touch (HT6.out.trans HJ.out (by simp))).at hlt2
          subst hwa
          have hB := HJ.out.blk HBL.out (by simp)
          have hg : (slots (rowByte f) k)[j]? = some (slotAt (rowByte f) j) := by simp [slots, List.getElem?_range hlt2]
          have gg : ∀ r v, r < 5 → (slotAt (rowByte f) j).cells[r]? = some v → wr.cell? ⟨L, j * 5 + r, none⟩ = some v := fun r v hr hv => hB.cell (by rw [flat_get In.cells 5 In.cells_length _ j r _ hr hg]; exact hv)
          rw [slot_row f j ok] at gg
          have d0 := gg 0 _ (by omega) rfl
          have d1 := gg 1 _ (by omega) rfl
          have d2 := gg 2 _ (by omega) rfl
          have d3 := gg 3 _ (by omega) rfl
          have d4 := gg 4 _ (by omega) rfl
          simp only [Nat.add_zero] at d0
          have b1 := ok.dst0
          have b2 := ok.src0
          have hLlt := hB.lt
          have hji : (j : Int) < k := by omega
          generalize f j = i at *
          clear hB hg gg ok
          have HT7 := toHid (HJ.out.alloc (.cells #[.int .u8 i.op, .int .u8 (i.dst % 16), .int .u8 (i.src % 16), .int .i16 i.off, .int .i32 i.imm] 30))
          have hLne : L ≠ wr.heap.size := by omega
          go_wp2_with fail
          go_quiet (fail)
          go_wp2
          go_roundw
          case rel => exact ⟨j + 1, by omega, by go_num, HT7.out.drewN nq⟩
          case measure => simp [intOf]; omega
        · have hjk : j = k := by omega
          subst hjk
          have HTT := toHid ((HT4.out.trans HT6.out (by simp)).trans HJ.out (by simp))
          go_wp2
          go_ret
          exact ⟨rfl, HTT.out⟩
end Go.Proofs.Ytjioemkapmchpaa
