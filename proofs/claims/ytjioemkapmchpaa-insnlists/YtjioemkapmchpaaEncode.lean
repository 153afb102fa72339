/-
  Encode: instructions as bytes.
-/
import Derived.Test.YtjioemkapmchpaaLay
import Derived.Test.YtjioemkapmchpaaPlain
namespace Go.Proofs.Ytjioemkapmchpaa
open Go.RowKit
attribute [local go_sem ↓] Go.wp_at_zero Go.wp_at_succ

/-- The first k of m instructions, the others not laid yet. -/
def laidTo (f : Nat → In) (m k : Nat) : List In := (List.range m).map (fun i => if i < k then f i else In.zero)
theorem laidTo_zero (f : Nat → In) (m : Nat) : laidTo f m 0 = List.replicate m In.zero := by
  apply List.ext_getElem
  · simp [laidTo]
  · intro i h1 h2
    simp [laidTo]
theorem laidTo_succ (f : Nat → In) (m k : Nat) : (laidTo f m k).set k (f k) = laidTo f m (k + 1) := by
  apply List.ext_getElem
  · simp [laidTo]
  · intro i h1 h2
    rw [List.getElem_set]
    simp only [laidTo, List.getElem_map, List.getElem_range]
    by_cases h : k = i
    · subst h; simp
    · rw [if_neg h]
      by_cases h' : i < k
      · rw [if_pos h', if_pos (by omega)]
      · rw [if_neg h', if_neg (by omega)]
theorem laidTo_all (f : Nat → In) (m : Nat) : laidTo f m m = (List.range m).map f := List.map_congr_left (fun i hi => by rw [if_pos (by simpa using hi)])
theorem zeros_flat : ∀ m : Nat, (List.replicate m In.zero).flatMap In.bytes = List.replicate (8 * m) (.int .u8 0)
  | 0 => rfl
  | m + 1 => by
    rw [List.replicate_succ, List.flatMap_cons, zeros_flat m, show 8 * (m + 1) = 8 + 8 * m by omega, ← List.replicate_append_replicate]
    rfl

/-- What Encode answers. -/
def EncPost (w : World) (n : Nat) (f : Nat → In) (e : Ending) (w' : World) : Prop :=
  Touch [] w w' ∧ ∃ N, e = .returned (.slice (some ⟨N, 0, none⟩) (8 * n) (8 * n)) ∧ w.heap.size ≤ N ∧ Blk w' N (((List.range n).map f).flatMap In.bytes) 5

set_option maxHeartbeats 2000000 in
set_option maxRecDepth 100000 in
theorem encode_any (sa : Option Addr) (n c : Nat) (f : Nat → In) (w : World) (hc : CameI w sa n f) (hn : n ≤ 17592186044416) :
    Calls Try.prog 11 #[.slice sa n c] w (EncPost w n f) := by
  have hmk := run_make_blk (P := Try.prog) Try.underlying22 info5 rfl (8 * n) (by omega) (by omega) .i64
  rw [← zeros_flat, ← laidTo_zero f n] at hmk
  have hmul : ((8 * n : Nat) : Int) = 8 * (n : Int) := by omega
  rw [hmul] at hmk
  have HB : Hid (Blk (w.alloc (.cells ((laidTo f n 0).flatMap In.bytes).toArray 5)) w.heap.size ((laidTo f n 0).flatMap In.bytes) 5) := Blk.new w _ 5
  have HC := toHid hc
  clear hc hmul
  go_enter Try.func11, Try.ntmps11
  go_wp2
  go_loopw [12] (fun t w' => ∃ k : Nat, k ≤ n ∧ t = .int .i64 k ∧ Hid (Blk w' w.heap.size ((laidTo f n k).flatMap In.bytes) 5 ∧ Touch [] w w')) (fun t _ => n - (intOf t).toNat)
  case atStart => exact ⟨0, by omega, rfl, HB.out, (Touch.refl _ w).alloc _⟩
  case round =>
    obtain ⟨k, hk, rfl, HI⟩ := hrel
    by_cases hlt : k < n
    · obtain ⟨b, off, hsa, hbw, hx⟩ : ∃ b off, sa = some ⟨b, off, none⟩ ∧ b < w.heap.size ∧ ∀ j, j < n → (f j).Ok ∧ w.cell? ⟨b, off + j * 5, none⟩ = some (.int .u8 (f j).op) ∧ w.cell? ⟨b, off + j * 5 + 1, none⟩ = some (.int .u8 (f j).dst) ∧
          w.cell? ⟨b, off + j * 5 + 2, none⟩ = some (.int .u8 (f j).src) ∧ w.cell? ⟨b, off + j * 5 + 3, none⟩ = some (.int .i16 (f j).off) ∧ w.cell? ⟨b, off + j * 5 + 4, none⟩ = some (.int .i32 (f j).imm) := by
        rcases HC.out with h | h
        · omega
        · exact h
      subst hsa
      obtain ⟨ok, e0, e1, e2, e3, e4⟩ := hx k hlt
      replace e0 := HI.out.2.cell e0 (by simp)
      replace e1 := HI.out.2.cell e1 (by simp)
      replace e2 := HI.out.2.cell e2 (by simp)
      replace e3 := HI.out.2.cell e3 (by simp)
      replace e4 := HI.out.2.cell e4 (by simp)
      clear hx
      generalize hi : f k = i at *
      have hB := Blk.newA wr #[.int .u8 i.op, .int .u8 i.dst, .int .u8 i.src, .int .i16 i.off, .int .i32 i.imm] _ 30 rfl
      have hR := HI.out.1.alloc (.cells #[.int .u8 i.op, .int .u8 i.dst, .int .u8 i.src, .int .i16 i.off, .int .i32 i.imm] 30)
      have hlen : ((laidTo f n k).flatMap In.bytes).length = n * 8 := by rw [flat_length In.bytes 8 In.bytes_length]; simp [laidTo]
      have HT := toHid (HI.out.2.alloc (.cells #[.int .u8 i.op, .int .u8 i.dst, .int .u8 i.src, .int .i16 i.off, .int .i32 i.imm] 30))
      have HL := toHid (lay_any w.heap.size (8 * k) (8 * n - 8 * k) (8 * n - 8 * k) i _ _ ok (by omega) (by omega) hR.drew (by rw [hlen]; omega))
      have hs1 := HI.out.2.size
      have hs2 : w.heap.size < wr.heap.size := HI.out.1.lt
      have d0 := hB.cell (i := 0) rfl
      have d1 := hB.cell (i := 1) rfl
      have d2 := hB.cell (i := 2) rfl
      have d3 := hB.cell (i := 3) rfl
      have d4 := hB.cell (i := 4) rfl
      have hkk : (8 : Int) * k ≤ 8 * n := by omega
      have hk0 : (0 : Int) ≤ 8 * k := by omega
      have hkt : (8 * (k : Int)).toNat = 8 * k := by omega
      have hkn : ¬ 8 * n = 8 * k := by omega
      have hkw : IntKind.i64.wrap (8 * (k : Int)) = 8 * (k : Int) := by rw [IntKind.wrap_i64]; omega
      clear hB hR
      go_wp2_with fail
      generalize wr.alloc (.cells #[.int .u8 i.op, .int .u8 i.dst, .int .u8 i.src, .int .i16 i.off, .int .i32 i.imm] 30) = W at *
      generalize wr.heap.size = M at *
      refine wp_region_held_drew (S := (fun w' => w'.cell? ⟨M, 0, none⟩ = some (.int .u8 i.op) ∧ w'.cell? ⟨M, 1, none⟩ = some (.int .u8 i.dst) ∧ w'.cell? ⟨M, 2, none⟩ = some (.int .u8 i.src) ∧ w'.cell? ⟨M, 3, none⟩ = some (.int .i16 i.off) ∧ w'.cell? ⟨M, 4, none⟩ = some (.int .i32 i.imm))) (by kernel_rfl) ?_ (fun hHeld => ?_)
      · exact ⟨d0, d1, d2, d3, d4⟩
      refine wpAnyH_take (i := 0) (v := ?_) rfl (by kernel_rfl) (by kernel_rfl) (by kernel_rfl) (fun _ _ _ h => h) (Or.inl ⟨by rfl, ?_⟩) (by assumption) ?_
      rotate_left
      · (intro w hSw; (try dsimp only at hSw); go_simp; try with_reducible rfl)
      simp only [Act.put, List.getElem_toArray, List.getElem_cons_zero, List.setIfInBounds_toArray, List.set_cons_zero, List.set_cons_succ]
      refine wpAnyH_take (i := 1) (v := ?_) rfl (by kernel_rfl) (by kernel_rfl) (by kernel_rfl) (fun _ _ _ h => h) (Or.inl ⟨by rfl, ?_⟩) (by assumption) ?_
      rotate_left
      · (intro w hSw; (try dsimp only at hSw); go_simp; try with_reducible rfl)
      simp only [Act.put, List.getElem_toArray, List.getElem_cons_zero, List.getElem_cons_succ, List.setIfInBounds_toArray, List.set_cons_zero, List.set_cons_succ]
      refine wpAnyH_take (i := 2) (v := ?_) rfl (by kernel_rfl) (by kernel_rfl) (by kernel_rfl) (fun _ _ _ h => h) (Or.inl ⟨by rfl, ?_⟩) (by assumption) ?_
      rotate_left
      · (intro w hSw; (try dsimp only at hSw); go_simp; try with_reducible rfl)
      simp only [Act.put, List.getElem_toArray, List.getElem_cons_zero, List.getElem_cons_succ, List.setIfInBounds_toArray, List.set_cons_zero, List.set_cons_succ]
      refine wpAnyH_take (i := 3) (v := ?_) rfl (by kernel_rfl) (by kernel_rfl) (by kernel_rfl) (fun _ _ _ h => h) (Or.inl ⟨by rfl, ?_⟩) (by assumption) ?_
      rotate_left
      · (intro w hSw; (try dsimp only at hSw); go_simp; try with_reducible rfl)
      simp only [Act.put, List.getElem_toArray, List.getElem_cons_zero, List.getElem_cons_succ, List.setIfInBounds_toArray, List.set_cons_zero, List.set_cons_succ]
      refine wpAnyH_take (i := 4) (v := ?_) rfl (by kernel_rfl) (by kernel_rfl) (by kernel_rfl) (fun _ _ _ h => h) (Or.inl ⟨by rfl, ?_⟩) (by assumption) ?_
      rotate_left
      · (intro w hSw; (try dsimp only at hSw); go_simp; try with_reducible rfl)
      simp only [Act.put, List.getElem_toArray, List.getElem_cons_zero, List.getElem_cons_succ, List.setIfInBounds_toArray, List.set_cons_zero, List.set_cons_succ]
      refine wpAnyH_ready (rs := [5]) (by kernel_rfl) (by simp) ?_
      refine AllReadyH.cons rfl (fun K hK => ?_) AllReadyH.nil
      simp only [List.getElem_toArray, List.getElem_cons_zero, List.getElem_cons_succ]
      go_simp
      refine HL.out.mono ?_
      rintro e w2 ⟨rfl, ht2, hB2⟩
      go_wp2_with fail
      refine hK.out _ _ ?_ (fun hHeld => ?_)
      · exact ⟨ht2.cell d0 (by simp; omega), ht2.cell d1 (by simp; omega), ht2.cell d2 (by simp; omega), ht2.cell d3 (by simp; omega), ht2.cell d4 (by simp; omega)⟩
      clear hK K
      have HB2 : Hid (Blk w2 w.heap.size ((laidTo f n (k + 1)).flatMap In.bytes) 5) := by
        have he := flat_set In.bytes 8 In.bytes_length (laidTo f n k) k i (by simp [laidTo]; exact hlt)
        rw [Nat.mul_comm k 8] at he
        rw [he, ← hi, laidTo_succ] at hB2
        exact hB2
      have HT2 := toHid (HT.out.drew.trans ht2 (fun x hx => Or.inr (by simp at hx; omega)))
      clear ht2 hB2 hHeld
      refine wpAnyH_done (by kernel_rfl) ?_ _
      go_wp2
      go_roundw
      case rel => exact ⟨k + 1, by omega, by go_num, HB2.out, HT2.out⟩
      case measure => simp [intOf]; omega
    · have hkm : k = n := by omega
      subst hkm
      go_wp2
      refine bodyPost_ret (v := .slice (some ⟨w.heap.size, 0, none⟩) (8 * k) (8 * k)) (by simp [results, Try.results11, go_sem]) rfl ⟨HI.out.2, w.heap.size, rfl, Nat.le_refl _, ?_⟩
      rw [← laidTo_all]
      exact HI.out.1
end Go.Proofs.Ytjioemkapmchpaa
