/-
  The document's own Bytes and New (of an array).
-/
import Derived.Test.YtlkbaconlngmjaaRef4
import Derived.Test.YtlkbaconlngmjaaLe4
namespace Go.Proofs.Ytlkbaconlngmjaa
open Go.RowKit
attribute [local go_sem ↓] Go.wp_at_zero Go.wp_at_succ

/-- A slice of bytes of a call's own. -/
def OwnAt (w0 w : World) (v : Value) (bs : List Int) : Prop := ∃ g cap, v = slV g bs.length cap ∧ RowAt w 5 1 g bs.length cap (bs.map (Value.int .u8)) ∧ ∀ b, g = some b → w0.heap.size ≤ b
theorem OwnAt.nil (w0 w : World) : OwnAt w0 w (.slice none 0 0) [] := ⟨none, 0, rfl, ⟨rfl, Nat.le_refl _, by unfold maxLen; omega, rfl⟩, fun b hb => by cases hb⟩
theorem OwnAt.touch {w0 w w' : World} {v : Value} {bs : List Int} (h : OwnAt w0 w v bs) (ht : Touch [] w w') : OwnAt w0 w' v bs := by
  obtain ⟨g, cap, h1, h2, h3⟩ := h
  exact ⟨g, cap, h1, h2.touch ht (by simp), h3⟩
/-- One byte appended. -/
theorem OwnAt.push {w0 w : World} {v : Value} {bs : List Int} (h : OwnAt w0 w v bs) (ht : Touch [] w0 w) (x : Int) (hl : bs.length ≤ 100000) :
    ∃ v' w', (Builtin.append_ #[32, 32] 32 #[v, .slice (some ⟨w.heap.size, 0, none⟩) 1 1]).run Try.prog (w.alloc (.cells #[.int .u8 x] 5)) = .ok v' w' ∧ OwnAt w0 w' v' (bs ++ [x]) ∧ Touch [] w0 w' := by
  have hN := Blk.newA w #[.int .u8 x] _ 5 rfl
  have hta : Touch [] w (w.alloc (.cells #[.int .u8 x] 5)) := (Touch.refl _ w).alloc _
  obtain ⟨g, cap, rfl, hrow, hg⟩ := h.touch hta
  obtain ⟨i, hi, hz, hs, hb⟩ := info_of info5
  obtain ⟨g', cap', w', hr, h2, h3, h4, _⟩ := run_append_row (P := Try.prog) (w.alloc (.cells #[.int .u8 x] 5)) 32 32 5 i (.int .u8 0) 1 Try.underlying32 hi hz hs rfl (by omega) g bs.length cap _ hrow ⟨w.heap.size, 0, none⟩ 1 1 [.int .u8 x] rfl
    (fun j u hj => by
      rw [Addr.add_lit]
      have : j = 0 := by have := (List.getElem?_eq_some_iff.1 hj).1; simp at this; exact this
      subst this
      exact hN.cell hj) (fun u hu => by
      simp only [List.mem_singleton] at hu
      subst hu
      rfl) (by rw [hb]; omega) (by omega)
  have ht2 := ht.trans hta (by simp)
  have hsz := ht2.size
  refine ⟨_, w', hr, ⟨g', cap', by simp, by simpa using h2, fun b hb => ?_⟩, ht2.trans h3 (fun y hy => Or.inr (hg y (by simpa using hy)))⟩
  rcases h4 with rfl | rfl
  · exact hg b hb
  · injection hb with hb
    omega

set_option maxHeartbeats 2000000 in
set_option maxRecDepth 100000 in
theorem rbytes_any (v : Int) (n : Nat) (w : World) (hv0 : 0 ≤ v) (hv1 : v ≤ 18446744073709551615) (hn : n ≤ 8) :
    Calls Try.prog 20 #[.int .u64 v, .int .i64 n] w fun e w' => (∃ x, e = .returned x ∧ OwnAt w w' x ((List.range n).map (byteOf v))) ∧ Touch [] w w' := by
  have HD : ∀ k : Nat, 0 ≤ v / 256 ^ k ∧ v / 256 ^ k ≤ 18446744073709551615 := fun k => by
    have h1 : 0 ≤ v / 256 ^ k := Int.ediv_nonneg hv0 (Int.pow_nonneg (by omega))
    have h2 : v / 256 ^ k ≤ v := Int.ediv_le_self _ hv0
    omega
  have HDD := toHid HD
  clear HD
  go_enter Try.func20, Try.ntmps20
  go_wp2
  go_loopw [0, 5, 6] (fun x o t w' => ∃ k : Nat, k ≤ n ∧ t = .int .i64 k ∧ x = .int .u64 (v / 256 ^ k) ∧ Hid (OwnAt w w' o ((List.range k).map (byteOf v)) ∧ Touch [] w w')) (fun _ _ t _ => n - (intOf t).toNat)
  case atStart => exact ⟨0, by omega, rfl, by simp, OwnAt.nil _ _, Touch.refl _ _⟩
  case round =>
    obtain ⟨k, hk, rfl, rfl, HI⟩ := hrel
    by_cases hlt : k < n
    · have hd := HDD.out k
      obtain ⟨v', w', hr, ho, ht⟩ := HI.out.1.push HI.out.2 (byteOf v k) (by simp; omega)
      have HRR := toHid hr
      have HO := toHid (And.intro ho ht)
      have hby : v / 256 ^ k % 256 = byteOf v k := rfl
      have hbd := byteOf_bd v k
      have HDS : Hid (v / 256 ^ k / 256 = v / 256 ^ (k + 1)) := by
        show v / 256 ^ k / 256 = v / 256 ^ (k + 1)
        rw [Int.pow_succ, Int.ediv_ediv_of_nonneg (Int.pow_nonneg (by omega))]
      generalize hq : v / 256 ^ k = q at *
      generalize hy : byteOf v k = y at *
      have HY := toHid hy
      clear hr ho ht hq hy
      go_wp2_with (at_builtin; refine Lib.wpList_append_run _ rfl _ _ _ _ rfl _ _ rfl rfl _ _ HRR.out ?_)
      refine ⟨⟨k + 1, by omega, by go_num, by rw [HDS.out], ?_⟩, by simp [intOf]; omega⟩
      rw [List.range_succ, List.map_append, List.map_singleton, HY.out]
      exact HO.out
    · obtain rfl : k = n := by omega
      go_wp2
      go_ret
      exact ⟨⟨_, rfl, HI.out.1⟩, HI.out.2⟩
/-- The key of a number. -/
theorem rkey_any (v : Int) (w : World) (hv0 : 0 ≤ v) (hv1 : v ≤ 18446744073709551615) :
    Calls Try.prog 20 #[.int .u64 v, .int .i64 4] w fun e w' => (∃ b cap, e = .returned (.slice (some ⟨b, 0, none⟩) 4 cap) ∧ (⟨b, cap, le4 v⟩ : KS).At w' ∧ w.heap.size ≤ b) ∧ Touch [] w w' := by
  refine (rbytes_any v 4 w hv0 hv1 (by omega)).mono ?_
  rintro e w' ⟨⟨x, rfl, g, cap, rfl, hrow, hg⟩, ht⟩
  cases g with
  | none =>
    have h1 := hrow.2.1
    have h2 : cap = 0 := hrow.2.2.2
    simp at h1
    omega
  | some b =>
    obtain ⟨_, hcp, _, rest, hB, _⟩ := hrow
    exact ⟨⟨b, cap, rfl, ⟨⟨rest, hB.toF⟩, le4_bd v, by rw [le4_len]; omega, by rw [le4_len]; omega, hcp⟩, hg b rfl⟩, ht⟩

/-- An array's index as New makes it. -/
def RX.arr (R sb wb m : Nat) (l : List KS) (q : Nat) : RX := ⟨R, 0, 4, m, 0, some sb, m, some wb, m, l.map some ++ List.replicate q none, List.replicate m 0⟩
structure NewAt (w w' : World) (R sb wb m k : Nat) (l : List KS) : Prop where
  at_ : RAt w' (RX.arr R sb wb m l (m - k))
  len : l.length = k
  eq : l.map KS.bs = allKeys k
  own : ∀ b ∈ (RX.arr R sb wb m l (m - k)).blocks, w.heap.size ≤ b
  touch : Touch [] w w'

theorem arr_set (R sb wb m : Nat) (l : List KS) (q : Nat) (s : KS) : { RX.arr R sb wb m l (q + 1) with slots := (RX.arr R sb wb m l (q + 1)).slots.set l.length (some s) } = RX.arr R sb wb m (l ++ [s]) q := by
  unfold RX.arr
  simp only [RX.mk.injEq, true_and, and_true]
  rw [List.set_append_right _ _ (by simp)]
  simp [List.replicate_succ]
theorem arr_slots (R sb wb m : Nat) (l : List KS) (q : Nat) : (RX.arr R sb wb m l q).slots.length = l.length + q := by simp [RX.arr]
theorem arr_blocks (R sb wb m : Nat) (l : List KS) (q : Nat) (b : Nat) : b ∈ (RX.arr R sb wb m l q).blocks ↔ b = R ∨ b = sb ∨ b = wb ∨ ∃ k ∈ l, k.b = b := by
  simp [RX.blocks, RX.top, RX.arr, List.filterMap_append]

/-- Where New's parts may lie. -/
theorem newAt_zero {w w' : World} {R sb wb m : Nat} (hR : Blk w' R [.int .i64 0, .int .i64 4, .int .i64 m, .slice (some ⟨sb, 0, none⟩) m m, .slice (some ⟨wb, 0, none⟩) m m, .int .i64 0] 61)
    (hs : Blk w' sb (List.replicate m (.slice none 0 0)) 32) (hw : Blk w' wb (List.replicate m (.int .i64 0)) 3) (h1 : w.heap.size ≤ R) (h2 : w.heap.size ≤ sb) (h3 : w.heap.size ≤ wb) (n1 : R ≠ sb) (n2 : R ≠ wb) (n3 : sb ≠ wb)
    (hm : m ≤ 64) (ht : Touch [] w w') : NewAt w w' R sb wb m 0 [] where
  at_ :=
    { self := by simpa [RX.arr, slV] using hR
      row := ⟨by simp [RX.arr], by simp [RX.arr], by show m ≤ maxLen; unfold maxLen; omega, [], by simpa [RX.arr, slotV] using hs, by simp [RX.arr]⟩
      wrow := ⟨by simp [RX.arr], by simp [RX.arr], by show m ≤ maxLen; unfold maxLen; omega, [], by simpa [RX.arr] using hw, by simp [RX.arr]⟩
      keys := fun k hk => absurd hk (by simp [RX.arr])
      apart := by simp [RX.top, RX.arr, n1, n2, n3]
      apartK := fun k hk => absurd hk (by simp [RX.arr]) }
  len := rfl
  eq := rfl
  own := fun b hb => by
    rw [arr_blocks] at hb
    rcases hb with rfl | rfl | rfl | ⟨k, hk, _⟩
    · exact h1
    · exact h2
    · exact h3
    · cases hk
  touch := ht

theorem NewAt.next {w w1 w2 : World} {R sb wb m k : Nat} {l : List KS} (h : NewAt w w1 R sb wb m k l) (hk : k < m) {b cap : Nat} (hA : (⟨b, cap, le4 (k : Int)⟩ : KS).At w2) (hb : w1.heap.size ≤ b) (ht : Touch [] w1 w2) :
    NewAt w (w2.setCell ⟨sb, k, none⟩ (.slice (some ⟨b, 0, none⟩) 4 cap)) R sb wb m (k + 1) (l ++ [⟨b, cap, le4 (k : Int)⟩]) := by
  obtain ⟨q, hq⟩ : ∃ q, m - k = q + 1 := ⟨m - k - 1, by omega⟩
  have hlt := h.at_.lt
  have h2 := h.at_.touch ht (by simp)
  have hlen := h.len
  have how := h.own
  rw [hq] at h2 hlt how
  have h3 := h2.placed (b := sb) (j := k) rfl (by rw [arr_slots]; omega) (some ⟨b, cap, le4 (k : Int)⟩) (fun y hy => by
    injection hy with hy
    subst hy
    refine ⟨hA, fun hx => ?_⟩
    have := hlt _ (RX.mem_top hx)
    simp at this
    omega)
  rw [← hlen, arr_set, hlen] at h3
  have hsz := h.touch.size
  refine ⟨by rw [show m - (k + 1) = q by omega]; exact h3, by simp [hlen], ?_, fun y hy => ?_, ?_⟩
  · rw [List.map_append, h.eq, allKeys, allKeys, List.range_succ, List.map_append]
    rfl
  · rw [arr_blocks] at hy
    rcases hy with hy | hy | hy | ⟨z, hz, hy⟩
    · exact how y ((arr_blocks ..).2 (Or.inl hy))
    · exact how y ((arr_blocks ..).2 (Or.inr (Or.inl hy)))
    · exact how y ((arr_blocks ..).2 (Or.inr (Or.inr (Or.inl hy))))
    · rcases List.mem_append.1 hz with hz | hz
      · exact how y ((arr_blocks ..).2 (Or.inr (Or.inr (Or.inr ⟨z, hz, hy⟩))))
      · simp only [List.mem_singleton] at hz
        subst hz
        subst hy
        show w.heap.size ≤ b
        omega
  · exact (h.touch.trans ht (by simp)).setCell _ _ (Or.inr (how sb ((arr_blocks ..).2 (Or.inr (Or.inl rfl)))))
end Go.Proofs.Ytlkbaconlngmjaa
