/-
  The reference memory: Bytes and Number.
-/
import Derived.Test.YtkfmhabplcikiaaMRef3
import Derived.Test.YtkfmhabplcikiaaMNum
namespace Go.Proofs.Ytkfmhabplcikiaa.Mem
open Go.RowKit

/-- A slice of bytes of a call's own. -/
def OwnAt (w0 w : World) (v : Value) (bs : List Int) : Prop := ∃ g cap, v = slV g bs.length cap ∧ RowAt w 5 1 g bs.length cap (bs.map (Value.int .u8)) ∧ ∀ b, g = some b → w0.heap.size ≤ b

theorem OwnAt.nil (w0 w : World) : OwnAt w0 w (.slice none 0 0) [] := ⟨none, 0, rfl, ⟨rfl, Nat.le_refl _, by unfold maxLen; omega, rfl⟩, fun b hb => by cases hb⟩

/-- One byte appended: a new world. -/
theorem OwnAt.push {w0 w : World} {v : Value} {bs : List Int} (h : OwnAt w0 w v bs) (ht : Touch [] w0 w) (x : Int) (hl : bs.length ≤ 100000) :
    ∃ v' w', (Builtin.append_ #[60, 60] 60 #[v, .slice (some ⟨w.heap.size, 0, none⟩) 1 1]).run Try.prog (w.alloc (.cells #[.int .u8 x] 5)) = .ok v' w' ∧ OwnAt w0 w' v' (bs ++ [x]) ∧ Touch [] w0 w' := by
  obtain ⟨g, cap, rfl, hrow, hg⟩ := h
  obtain ⟨i, hi, hz, hs, hb⟩ := info_of info5
  have hN := Blk.newA w #[.int .u8 x] _ 5 rfl
  have hta : Touch [] w (w.alloc (.cells #[.int .u8 x] 5)) := (Touch.refl _ w).alloc _
  obtain ⟨g', cap', w', hr, h2, h3, h4, _⟩ := run_append_row (P := Try.prog) (w.alloc (.cells #[.int .u8 x] 5)) 60 60 5 i (.int .u8 0) 1 Try.underlying60 hi hz hs rfl (by omega) g bs.length cap _ (hrow.touch hta (by simp)) ⟨w.heap.size, 0, none⟩ 1 1 [.int .u8 x] rfl
    (fun j u hj => by
      have : j = 0 := by have := (List.getElem?_eq_some_iff.1 hj).1; simp at this; exact this
      subst this
      exact hN.cell hj) (fun u hu => by simp at hu; subst hu; rfl) (by rw [hb]; omega) (by omega)
  have hsz := ht.size
  refine ⟨_, w', hr, ⟨g', cap', by simp, by simpa using h2, fun b hb => ?_⟩, (ht.trans hta (by simp)).trans h3 (fun y hy => Or.inr (hg y (by simpa using hy)))⟩
  rcases h4 with rfl | rfl
  · exact hg b hb
  · injection hb with hb
    simp at hb
    omega

set_option maxHeartbeats 2000000 in
set_option maxRecDepth 100000 in
theorem rbytes_any (v : Int) (n : Nat) (w : World) (hv0 : 0 ≤ v) (hv1 : v ≤ 18446744073709551615) (hn : n ≤ 8) :
    Calls Try.prog 40 #[.int .u64 v, .int .i64 n] w fun e w' => (∃ x, e = .returned x ∧ OwnAt w w' x ((List.range n).map (byteOf v))) ∧ Touch [] w w' := by
  have HD : ∀ k : Nat, 0 ≤ v / 256 ^ k ∧ v / 256 ^ k ≤ 18446744073709551615 := fun k => by
    have h1 : 0 ≤ v / 256 ^ k := Int.ediv_nonneg hv0 (Int.pow_nonneg (by omega))
    have h2 : v / 256 ^ k ≤ v := Int.ediv_le_self _ hv0
    omega
  have HDD := toHid HD
  clear HD
  go_enter Try.func40, Try.ntmps40
  go_wp2
  go_loopw [0, 5, 6] (fun x o t w' => ∃ k : Nat, k ≤ n ∧ t = .int .i64 k ∧ x = .int .u64 (v / 256 ^ k) ∧ Hid (OwnAt w w' o ((List.range k).map (byteOf v)) ∧ Touch [] w w')) (fun _ _ t _ => n - (intOf t).toNat)
  case atStart => exact ⟨0, by omega, rfl, by simp, OwnAt.nil _ _, Touch.refl _ _⟩
  case round =>
    rename_i wr
    obtain ⟨k, hk, rfl, rfl, HI⟩ := hrel
    by_cases hlt : k < n
    · have hd := HDD.out k
      obtain ⟨v', w', hr, ho, ht⟩ := HI.out.1.push HI.out.2 (byteOf v k) (by simp; omega)
      have HRR := toHid hr
      have HO := toHid (And.intro ho ht)
      have hby : v / 256 ^ k % 256 = byteOf v k := rfl
      have hbd := byteOf_bd v k
      have HDS : Hid (v / 256 ^ k / 256 = v / 256 ^ (k + 1)) := by
        show v / 256 ^ k / 256 = v / 256 ^ (k + 1)
        rw [Int.pow_succ, Int.ediv_ediv_of_nonneg (Int.pow_nonneg (by omega))]
      generalize hq : v / 256 ^ k = q at *
      generalize hy : byteOf v k = y at *
      have HY := toHid hy
      clear hr ho ht hq hy
      go_wp2_with (at_builtin; refine Lib.wpList_append_run _ rfl _ _ _ _ rfl _ _ rfl rfl _ _ HRR.out ?_)
      refine ⟨⟨k + 1, by omega, by go_num, by rw [HDS.out], ?_⟩, by simp [intOf]; omega⟩
      rw [List.range_succ, List.map_append, List.map_singleton, HY.out]
      exact HO.out
    · obtain rfl : k = n := by omega
      go_wp2
      go_ret
      exact ⟨⟨_, rfl, HI.out.1⟩, HI.out.2⟩

theorem num_shift (bs : Nat → Int) : ∀ m, num bs (m + 1) = bs 0 + 256 * num (fun j => bs (j + 1)) m
  | 0 => by simp [num]
  | m + 1 => by
    have e := num_shift bs m
    show num bs (m + 1) + bs (m + 1) * 256 ^ (m + 1) = _
    rw [e]
    show _ = bs 0 + 256 * (num (fun j => bs (j + 1)) m + bs (m + 1) * 256 ^ m)
    rw [Int.mul_add, Int.pow_succ, Int.add_assoc]
    congr 2
    rw [Int.mul_comm 256, Int.mul_assoc]

end Go.Proofs.Ytkfmhabplcikiaa.Mem
