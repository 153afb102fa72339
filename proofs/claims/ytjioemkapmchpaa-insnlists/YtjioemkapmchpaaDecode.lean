/-
  Decode: bytes as instructions.
-/
import Derived.Test.YtjioemkapmchpaaSlot
import Derived.Test.YtjioemkapmchpaaRow5
namespace Go.Proofs.Ytjioemkapmchpaa
open Go.RowKit

/-- The bytes of a slice. -/
def Came (w : World) (sa : Option Addr) (sl : Nat) (z : Nat → Int) : Prop := sl = 0 ∨ ∃ k off, sa = some ⟨k, off, none⟩ ∧ k < w.heap.size ∧ ∀ j, j < sl → w.cell? ⟨k, off + j, none⟩ = some (.int .u8 (z j)) ∧ 0 ≤ z j ∧ z j ≤ 255

theorem In.cells_length (i : In) : i.cells.length = 5 := rfl
def In.zero : In := ⟨0, 0, 0, 0, 0⟩
theorem info30 : (Try.prog.info? 30).map (fun i => (i.zero, i.size, i.bytes)) = some (some (.agg #[.int .u8 0, .int .u8 0, .int .u8 0, .int .i16 0, .int .i32 0]), 5, 12) := by kernel_rfl
theorem info5 : (Try.prog.info? 5).map (fun i => (i.zero, i.size, i.bytes)) = some (some (.int .u8 0), 1, 1) := by kernel_rfl

/-- The slots of bytes. -/
def slotAt (z : Nat → Int) (k : Nat) : In := slotOf (fun j => z (8 * k + j))
/-- The first k of m slots, the others not laid yet. -/
def slotsTo (z : Nat → Int) (m k : Nat) : List In := (List.range m).map (fun i => if i < k then slotAt z i else In.zero)
theorem slotsTo_zero (z : Nat → Int) (m : Nat) : slotsTo z m 0 = List.replicate m In.zero := by
  apply List.ext_getElem
  · simp [slotsTo]
  · intro i h1 h2
    simp [slotsTo]
theorem slotsTo_succ (z : Nat → Int) (m k : Nat) : (slotsTo z m k).set k (slotAt z k) = slotsTo z m (k + 1) := by
  apply List.ext_getElem
  · simp [slotsTo]
  · intro i h1 h2
    rw [List.getElem_set]
    simp only [slotsTo, List.getElem_map, List.getElem_range]
    by_cases h : k = i
    · subst h; simp
    · rw [if_neg h]
      by_cases h' : i < k
      · rw [if_pos h', if_pos (by omega)]
      · rw [if_neg h', if_neg (by omega)]
def slots (z : Nat → Int) (m : Nat) : List In := (List.range m).map (slotAt z)
theorem slotsTo_all (z : Nat → Int) (m : Nat) : slotsTo z m m = slots z m := List.map_congr_left (fun i hi => by rw [if_pos (by simpa using hi)])

/-- What Decode answers. -/
def DecPost (w : World) (n : Nat) (z : Nat → Int) (e : Ending) (w' : World) : Prop :=
  Touch [] w w' ∧ if n % 8 = 0 then ∃ N, e = .returned (.tuple #[.slice (some ⟨N, 0, none⟩) (n / 8) (n / 8), .int .i64 0]) ∧ w.heap.size ≤ N ∧ Blk w' N ((slots z (n / 8)).flatMap In.cells) 30
    else e = .returned (.tuple #[.slice none 0 0, .int .i64 20])

theorem ret_tuple {a b : Value} {c d : Value} (h : a = b) (k : c = d) : Ending.returned (.tuple #[a, c]) = .returned (.tuple #[b, d]) := by rw [h, k]

set_option maxHeartbeats 2000000 in
set_option maxRecDepth 100000 in
theorem decode_any (sa : Option Addr) (n c : Nat) (z : Nat → Int) (w : World) (hc : Came w sa n z) (hn : n ≤ 140737488355328) (hcap : n ≤ c) (_hc63 : c ≤ 9223372036854775807) :
    Calls Try.prog 9 #[.slice sa n c] w (DecPost w n z) := by
  by_cases h8 : n % 8 = 0
  · obtain ⟨m, hm⟩ : ∃ m, n = m * 8 := ⟨n / 8, by omega⟩
    have HC := toHid hc
    clear hc
    have hmk := run_make_flat (P := Try.prog) In.cells In.cells_length (by omega) In.zero rfl Try.underlying24 info30 m (by omega) (by omega) .i64
    rw [← slotsTo_zero z m] at hmk
    have hdiv : (n : Int) / 8 = (m : Int) := by omega
    have hmod : (n : Int) % 8 = 0 := by omega
    have HB : Hid (Blk (w.alloc (.cells ((slotsTo z m 0).flatMap In.cells).toArray 30)) w.heap.size ((slotsTo z m 0).flatMap In.cells) 30) := Blk.new w _ 30
    have HM := toHid hm
    clear hm
    go_enter Try.func9, Try.ntmps9
    go_wp2
    go_loopw [16] (fun t w' => ∃ k : Nat, k ≤ m ∧ t = .int .i64 k ∧ Hid (Blk w' w.heap.size ((slotsTo z m k).flatMap In.cells) 30 ∧ Touch [] w w')) (fun t _ => m - (intOf t).toNat)
    case atStart => exact ⟨0, by omega, rfl, HB.out, (Touch.refl _ w).alloc _⟩
    case round =>
      obtain ⟨k, hk, rfl, HI⟩ := hrel
      by_cases hlt : k < m
      · obtain ⟨b, off, hsa, hbw, hcell⟩ : ∃ b off, sa = some ⟨b, off, none⟩ ∧ b < w.heap.size ∧ ∀ j, j < n → w.cell? ⟨b, off + j, none⟩ = some (.int .u8 (z j)) ∧ 0 ≤ z j ∧ z j ≤ 255 := by
          rcases HC.out with h | h
          · have := HM.out; omega
          · exact h
        have hkn : 8 * k + 8 ≤ n := by have := HM.out; omega
        subst hsa
        have HS := toHid (slot_any b (off + 8 * k) (n - 8 * k) (c - 8 * k) (fun j => z (8 * k + j)) wr (by omega) (by omega) (fun j hj => by
          have := HI.out.2.cell (hcell (8 * k + j) (by omega)).1 (by simp)
          rw [← this, Nat.add_assoc]) (fun j hj => (hcell (8 * k + j) (by omega)).2))
        go_wp2_with fail
        refine HS.out.mono ?_
        rintro e w2 ⟨rfl, ht2⟩
        have hB2 := ht2.blk HI.out.1 (by simp)
        have hlen : ((slotsTo z m k).flatMap In.cells).length = m * 5 := by rw [flat_length In.cells 5 In.cells_length]; simp [slotsTo]
        have hx : ∀ r, r < 5 → ∃ v, w2.cell? ⟨w.heap.size, k * 5 + r, none⟩ = some v := fun r hr => ⟨_, hB2.cellN (by rw [hlen]; omega)⟩
        obtain ⟨x0, d0⟩ := hx 0 (by omega)
        obtain ⟨x1, d1⟩ := hx 1 (by omega)
        obtain ⟨x2, d2⟩ := hx 2 (by omega)
        obtain ⟨x3, d3⟩ := hx 3 (by omega)
        obtain ⟨x4, d4⟩ := hx 4 (by omega)
        simp only [Nat.add_zero] at d0
        have fz := hB2.frozen
        have HB2 := toHid (hB2.set5 (k * 5) (by rw [hlen]; omega) (.int .u8 (slotAt z k).op) (.int .u8 (slotAt z k).dst) (.int .u8 (slotAt z k).src) (.int .i16 (slotAt z k).off) (.int .i32 (slotAt z k).imm))
        have HT2 := toHid (HI.out.2.trans ht2 (by simp))
        have HE := toHid (flat_set In.cells 5 In.cells_length (slotsTo z m k) k (slotAt z k) (by simp [slotsTo]; exact hlt))
        clear hB2 hlen hx ht2 hcell
        simp only [In.v]
        go_wp2
        go_roundw
        case rel =>
          refine ⟨k + 1, by omega, by go_num, ?_, ?_⟩
          · rw [← slotsTo_succ, ← HE.out]
            exact HB2.out
          · exact HT2.out.set5 _ _ _ _ _ _ _ (Or.inr (by simp))
        case measure => simp [intOf]; omega
      · have hkm : k = m := by omega
        subst hkm
        go_wp2
        refine bodyPost_ret (v := .tuple #[.slice (some ⟨w.heap.size, 0, none⟩) k k, .int .i64 0]) (by simp [results, Try.results9, go_sem]) rfl ⟨HI.out.2, ?_⟩
        rw [if_pos h8]
        have := HM.out
        refine ⟨w.heap.size, by rw [show n / 8 = k by omega], Nat.le_refl _, ?_⟩
        rw [show n / 8 = k by omega, ← slotsTo_all]
        exact HI.out.1
  · have hmod : ¬ (n : Int) % 8 = 0 := by omega
    go_enter Try.func9, Try.ntmps9
    go_wp2
    refine bodyPost_ret (v := .tuple #[.slice none 0 0, .int .i64 20]) (by simp [results, Try.results9, go_sem]) rfl ⟨Touch.refl _ _, ?_⟩
    rw [if_neg h8]
end Go.Proofs.Ytjioemkapmchpaa
