/-
  The document's own New, of an array.
-/
import Derived.Test.YtlkbaconlngmjaaRNew0
namespace Go.Proofs.Ytlkbaconlngmjaa
open Go.RowKit
attribute [local go_sem ↓] Go.wp_at_zero Go.wp_at_succ

theorem rnew_bad (w : World) (m : Int) (h1 : ¬ (1 ≤ m ∧ m ≤ 64)) : Calls Try.prog 9 #[.int .i64 0, .int .i64 4, .int .i64 m] w fun e w' => e = .returned (.tuple #[.pointer none, .bool false]) ∧ w' = w := by
  by_cases h : m < 1
  · go_enter Try.func9, Try.ntmps9
    go_wp2
    go_ret2
    exact ⟨rfl, rfl⟩
  · have h2 : 64 < m := by omega
    go_enter Try.func9, Try.ntmps9
    go_wp2
    go_ret2
    exact ⟨rfl, rfl⟩

set_option maxHeartbeats 4000000 in
set_option maxRecDepth 100000 in
theorem rnew_any (w : World) (m : Nat) (h1 : 1 ≤ m) (h2 : m ≤ 64) : Calls Try.prog 9 #[.int .i64 0, .int .i64 4, .int .i64 (m : Int)] w fun e w' => ∃ R sb wb l, e = .returned (.tuple #[.pointer (some ⟨R, 0, none⟩), .bool true]) ∧ NewAt w w' R sb wb m m l := by
  have hmk := run_make_blk (P := Try.prog) Try.underlying38 info32 rfl m (by omega) (by omega) .i64
  have hmk2 := run_make_blk (P := Try.prog) Try.underlying59 info3 rfl m (by omega) (by omega) .i64
  go_enter Try.func9, Try.ntmps9
  go_upto_region 8 with fail
  go_cut [10] from 10 to 40 (fun p wx => ∃ R sb wb, p = .pointer (some ⟨R, 0, none⟩) ∧ Hid (NewAt w wx R sb wb m 0 []))
  case first =>
    go_region
    · go_wp2
      go_meet
      have b1 := Blk.newA w (Array.replicate m (Value.slice none 0 0)) (List.replicate m (.slice none 0 0)) 32 (by simp)
      have b2 := Blk.newA (w.alloc (Obj.cells (Array.replicate m (Value.slice none 0 0)) 32)) (Array.replicate m (Value.int .i64 0)) (List.replicate m (.int .i64 0)) 3 (by simp)
      have b3 := Blk.newA ((w.alloc (Obj.cells (Array.replicate m (Value.slice none 0 0)) 32)).alloc (Obj.cells (Array.replicate m (Value.int .i64 0)) 3)) #[.int .i64 0, .int .i64 4, .int .i64 (m : Int), .slice (some ⟨w.heap.size, 0, none⟩) m m, .slice (some ⟨w.heap.size + 1, 0, none⟩) m m, .int .i64 0] _ 61 rfl
      simp only [World.size_alloc] at b2 b3
      exact ⟨w.heap.size + 1 + 1, w.heap.size, w.heap.size + 1, rfl, newAt_zero b3.drew ((b1.alloc _).alloc _).drew (b2.alloc _).drew (by omega) (by omega) (by omega) (by omega) (by omega) (by omega) h2 ((((Touch.refl [] w).alloc _).alloc _).alloc _).drew⟩
    · go_wp2
      go_meet
      have b1 := Blk.newA w (Array.replicate m (Value.int .i64 0)) (List.replicate m (.int .i64 0)) 3 (by simp)
      have b2 := Blk.newA (w.alloc (Obj.cells (Array.replicate m (Value.int .i64 0)) 3)) (Array.replicate m (Value.slice none 0 0)) (List.replicate m (.slice none 0 0)) 32 (by simp)
      have b3 := Blk.newA ((w.alloc (Obj.cells (Array.replicate m (Value.int .i64 0)) 3)).alloc (Obj.cells (Array.replicate m (Value.slice none 0 0)) 32)) #[.int .i64 0, .int .i64 4, .int .i64 (m : Int), .slice (some ⟨w.heap.size + 1, 0, none⟩) m m, .slice (some ⟨w.heap.size, 0, none⟩) m m, .int .i64 0] _ 61 rfl
      simp only [World.size_alloc] at b2 b3
      exact ⟨w.heap.size + 1 + 1, w.heap.size + 1, w.heap.size, rfl, newAt_zero b3.drew (b2.alloc _).drew ((b1.alloc _).alloc _).drew (by omega) (by omega) (by omega) (by omega) (by omega) (by omega) h2 ((((Touch.refl [] w).alloc _).alloc _).alloc _).drew⟩
  case rest =>
    obtain ⟨R, sb, wb, rfl, HZ⟩ := hcut
    clear hmk hmk2
    go_wp2_with fail
    go_loopw [11] (fun t w' => ∃ k : Nat, k ≤ m ∧ t = .int .i64 k ∧ Hid (∃ l, NewAt w w' R sb wb m k l)) (fun t _ => m - (intOf t).toNat)
    case atStart => exact ⟨0, by omega, rfl, _, HZ.out⟩
    case round =>
      clear HZ
      obtain ⟨k, hk, rfl, HI⟩ := hrel
      by_cases hlt : k < m
      · obtain ⟨l, hI⟩ := HI.out
        have H1 := fun w => toHid (rkey_any (k : Int) w (by omega) (by omega))
        have c3 := (hI.at_.touch ((Touch.refl [] wr).drew) (by simp)).c3
        have e3 : slV (RX.arr R sb wb m l (m - k)).g (RX.arr R sb wb m l (m - k)).slots.length (RX.arr R sb wb m l (m - k)).scap = .slice (some ⟨sb, 0, none⟩) m m := by
          rw [arr_slots, hI.len, show k + (m - k) = m by omega]
          rfl
        rw [e3] at c3
        have c3' : wr.drew.cell? ⟨R, 3, none⟩ = some (.slice (some ⟨sb, 0, none⟩) m m) := c3
        have hwk : IntKind.u64.wrap (k : Int) = k := by rw [IntKind.wrap_u64]; omega
        have HII := toHid hI
        clear hI HI e3 c3
        go_wp2_with fail
        refine wp_region_held_drew (S := (fun w' => w'.cell? ⟨R, 3, none⟩ = some (.slice (some ⟨sb, 0, none⟩) m m))) (by kernel_rfl) ?_ (fun hHeld => ?_)
        · exact c3'
        refine wpAnyH_take (i := 0) (v := ?_) rfl (by kernel_rfl) (by kernel_rfl) (by kernel_rfl) (fun _ _ _ h => h) (Or.inl ⟨by rfl, ?_⟩) (by assumption) ?_
        rotate_left
        · (intro w hSw; (try dsimp only at hSw); go_simp; try with_reducible rfl)
        simp only [Act.put, List.getElem_toArray, List.getElem_cons_zero, List.setIfInBounds_toArray, List.set_cons_zero, List.set_cons_succ]
        refine wpAnyH_take (i := 1) (v := ?_) rfl (by kernel_rfl) (by kernel_rfl) (by kernel_rfl) (fun _ _ _ h => h) (Or.inl ⟨by rfl, ?_⟩) (by assumption) ?_
        rotate_left
        · (intro w hSw; (try dsimp only at hSw); go_simp; try with_reducible rfl)
        simp only [Act.put, List.getElem_toArray, List.getElem_cons_zero, List.getElem_cons_succ, List.setIfInBounds_toArray, List.set_cons_zero, List.set_cons_succ]
        refine wpAnyH_take (i := 2) (v := ?_) rfl (by kernel_rfl) (by kernel_rfl) (by kernel_rfl) (fun _ _ _ h => h) (Or.inl ⟨by rfl, ?_⟩) (by assumption) ?_
        rotate_left
        · (intro w hSw; (try dsimp only at hSw); go_simp; try with_reducible rfl)
        simp only [Act.put, List.getElem_toArray, List.getElem_cons_zero, List.getElem_cons_succ, List.setIfInBounds_toArray, List.set_cons_zero, List.set_cons_succ]
        refine wpAnyH_take (i := 3) (v := ?_) rfl (by kernel_rfl) (by kernel_rfl) (by kernel_rfl) (fun _ _ _ h => h) (Or.inl ⟨by rfl, ?_⟩) (by assumption) ?_
        rotate_left
        · (intro w hSw; (try dsimp only at hSw); go_simp; try with_reducible rfl)
        simp only [Act.put, List.getElem_toArray, List.getElem_cons_zero, List.getElem_cons_succ, List.setIfInBounds_toArray, List.set_cons_zero, List.set_cons_succ]
        refine wpAnyH_take (i := 4) (v := ?_) rfl (by kernel_rfl) (by kernel_rfl) (by kernel_rfl) (fun _ _ _ h => h) (Or.inl ⟨by rfl, ?_⟩) (by assumption) ?_
        rotate_left
        · (intro w hSw; (try dsimp only at hSw); go_simp; try with_reducible rfl)
        simp only [Act.put, List.getElem_toArray, List.getElem_cons_zero, List.getElem_cons_succ, List.setIfInBounds_toArray, List.set_cons_zero, List.set_cons_succ]
        refine wpAnyH_take (i := 5) (v := ?_) rfl (by kernel_rfl) (by kernel_rfl) (by kernel_rfl) (fun _ _ _ h => h) (Or.inl ⟨by rfl, ?_⟩) (by assumption) ?_
        rotate_left
        · (intro w hSw; (try dsimp only at hSw); go_simp; try with_reducible rfl)
        simp only [Act.put, List.getElem_toArray, List.getElem_cons_zero, List.getElem_cons_succ, List.setIfInBounds_toArray, List.set_cons_zero, List.set_cons_succ]
        refine wpAnyH_take (i := 6) (v := ?_) rfl (by kernel_rfl) (by kernel_rfl) (by kernel_rfl) (fun _ _ _ h => h) (Or.inl ⟨by rfl, ?_⟩) (by assumption) ?_
        rotate_left
        · (intro w hSw; (try dsimp only at hSw); go_simp; try with_reducible rfl)
        simp only [Act.put, List.getElem_toArray, List.getElem_cons_zero, List.getElem_cons_succ, List.setIfInBounds_toArray, List.set_cons_zero, List.set_cons_succ]
        refine wpAnyH_ready (rs := [7]) (by kernel_rfl) (by simp) ?_
        refine AllReadyH.cons rfl (fun K hK => ?_) AllReadyH.nil
        simp only [List.getElem_toArray, List.getElem_cons_zero, List.getElem_cons_succ]
        go_simp
        refine Calls.mono (H1 _).out ?_; rintro e w2 ⟨⟨b, cap, rfl, hA, hb⟩, ht2⟩
        go_wp2_with fail
        refine hK.out _ _ ?_ (fun hHeld => ?_)
        · exact ht2.cell hHeld (by simp)
        clear hK K
        try simp only [Act.put, List.getElem_toArray, List.getElem_cons_zero, List.getElem_cons_succ, List.setIfInBounds_toArray, List.set_cons_zero, List.set_cons_succ]
        refine wpAnyH_take (i := 8) (v := ?_) rfl (by kernel_rfl) (by kernel_rfl) (by kernel_rfl) (fun _ _ _ h => h) (Or.inl ⟨by rfl, ?_⟩) (by assumption) ?_
        rotate_left
        · (intro w hSw; (try dsimp only at hSw); go_simp; try with_reducible rfl)
        simp only [Act.put, List.getElem_toArray, List.getElem_cons_zero, List.getElem_cons_succ, List.setIfInBounds_toArray, List.set_cons_zero, List.set_cons_succ]
        have hN := HII.out.next hlt hA (by simpa using hb) (((Touch.refl [] wr).drew).trans ht2 (by simp))
        have hRA := HII.out.at_.touch (((Touch.refl [] wr).drew).trans ht2 (by simp)) (by simp)
        obtain ⟨q, hq⟩ : ∃ q, m - k = q + 1 := ⟨m - k - 1, by omega⟩
        obtain ⟨sb', hsb, hc⟩ := hRA.slot (j := k) (s := none) (by
          show (l.map some ++ List.replicate (m - k) none)[k]? = some none
          rw [List.getElem?_append_right (by simp [HII.out.len]), hq]
          simp [HII.out.len])
        obtain rfl : sb' = sb := by
          have : (some sb : Option Nat) = some sb' := hsb
          injection this with this
          exact this.symm
        have hfz : w2.frozen? ⟨sb', k, none⟩ = false := by
          have := hRA.row.2.2.2
          rw [hsb] at this
          obtain ⟨_, hB, _⟩ := this
          exact hB.frozen k
        have h3' : (w2.setCell ⟨sb', k, none⟩ (.slice (some ⟨b, 0, none⟩) 4 cap)).cell? ⟨R, 3, none⟩ = some (.slice (some ⟨sb', 0, none⟩) m m) := by
          have h1 := hN.at_.c3
          have e3 : slV (RX.arr R sb' wb m (l ++ [⟨b, cap, le4 (k : Int)⟩]) (m - (k + 1))).g (RX.arr R sb' wb m (l ++ [⟨b, cap, le4 (k : Int)⟩]) (m - (k + 1))).slots.length (RX.arr R sb' wb m (l ++ [⟨b, cap, le4 (k : Int)⟩]) (m - (k + 1))).scap = .slice (some ⟨sb', 0, none⟩) m m := by
            rw [arr_slots, List.length_append, HII.out.len, show k + [(⟨b, cap, le4 (k : Int)⟩ : KS)].length + (m - (k + 1)) = m by simp; omega]
            rfl
          rw [e3] at h1
          exact h1
        unfold slotV at hc
        have HN := toHid hN
        clear hN hRA hA hb hq hsb
        refine wpAnyH_ready (rs := [9]) (by kernel_rfl) (by simp) ?_
        refine AllReadyH.cons rfl (fun K hK => ?_) AllReadyH.nil
        simp only [List.getElem_toArray, List.getElem_cons_zero, List.getElem_cons_succ]
        go_simp
        refine hK.out _ _ h3' (fun hHeld => ?_)
        clear hK K
        try simp only [Act.put, List.getElem_toArray, List.getElem_cons_zero, List.getElem_cons_succ, List.setIfInBounds_toArray, List.set_cons_zero, List.set_cons_succ]
        refine wpAnyH_done (by kernel_rfl) ?_ _
        go_wp2
        go_roundw
        case rel => exact ⟨k + 1, by omega, by go_num, _, HN.out⟩
        case measure => simp [intOf]; omega
      · obtain rfl : k = m := by omega
        go_wp2
        go_ret2
        obtain ⟨l, hI⟩ := HI.out
        exact ⟨R, sb, wb, l, rfl, hI⟩
end Go.Proofs.Ytlkbaconlngmjaa
