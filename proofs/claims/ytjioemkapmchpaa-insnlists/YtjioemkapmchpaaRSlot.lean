/-
  The document's own Number and Slot.
-/
import Derived.Test.YtjioemkapmchpaaDecode
import Derived.Deep.DrawnRows
namespace Go.Proofs.Ytjioemkapmchpaa
open Go.RowKit
attribute [local go_sem ↓] Go.wp_at_zero Go.wp_at_succ

/-- The number of the bytes k, k + 1, .., k + m - 1, lowest first. -/
def num (z : Nat → Int) (k : Nat) : Nat → Int
  | 0 => 0
  | m + 1 => num z (k + 1) m * 256 + z k
theorem num_bd (z : Nat → Int) : ∀ m k, (∀ j, j < k + m → 0 ≤ z j ∧ z j ≤ 255) → 0 ≤ num z k m ∧ num z k m < 256 ^ m
  | 0, _, _ => by simp [num]
  | m + 1, k, h => by
    have h1 := num_bd z m (k + 1) (fun j hj => h j (by omega))
    have h2 := h k (by omega)
    unfold num
    rw [Int.pow_succ]
    omega

set_option maxHeartbeats 1000000 in
set_option maxRecDepth 100000 in
theorem rnumber_any (b off n c : Nat) (z : Nat → Int) (w : World) (hn : n ≤ 8) (hc : ∀ j, j < n → w.cell? ⟨b, off + j, none⟩ = some (.int .u8 (z j))) (hz : ∀ j, j < n → 0 ≤ z j ∧ z j ≤ 255) :
    Calls Try.prog 27 #[.slice (some ⟨b, off, none⟩) n c] w fun e w' => e = .returned (.int .u64 (num z 0 n)) ∧ w' = w := by
  have HC := toHid hc
  have HZ := toHid hz
  clear hc hz
  go_enter Try.func27, Try.ntmps27
  go_wp2
  go_loop [3, 4] (fun v t => ∃ k : Nat, k ≤ n ∧ t = .int .i64 ((k : Int) - 1) ∧ v = .int .u64 (num z k (n - k))) (fun _ t => (intOf t + 1).toNat)
  case atStart => exact ⟨n, by omega, rfl, by simp [num]⟩
  case round =>
    obtain ⟨k, hk, rfl, rfl⟩ := hrel
    by_cases h0 : k = 0
    · subst h0
      go_wp2
      go_ret
      exact ⟨rfl, rfl⟩
    · obtain ⟨m, rfl⟩ : ∃ m, k = m + 1 := ⟨k - 1, by omega⟩
      have c1 := HC.out m (by omega)
      have c2 := HZ.out m (by omega)
      have hb := num_bd z (n - (m + 1)) (m + 1) (fun j hj => HZ.out j (by omega))
      have hle : (256 : Int) ^ (n - (m + 1)) ≤ 256 ^ 7 := by
        have : n - (m + 1) ≤ 7 := by omega
        have h2 : (256 : Nat) ^ (n - (m + 1)) ≤ 256 ^ 7 := Nat.pow_le_pow_right (by omega) this
        have h3 : ((256 ^ (n - (m + 1)) : Nat) : Int) ≤ ((256 ^ 7 : Nat) : Int) := by omega
        rw [Int.natCast_pow, Int.natCast_pow] at h3
        exact h3
      have hb1 : num z (m + 1) (n - (m + 1)) < 72057594037927936 := by omega
      have hb0 := hb.1
      have HN : Hid (num z m (n - m) = num z (m + 1) (n - (m + 1)) * 256 + z m) := by
        rw [show n - m = (n - (m + 1)) + 1 by omega]
        rfl
      clear hb hle
      generalize num z (m + 1) (n - (m + 1)) = q at *
      go_wp2
      go_round
      case rel => exact ⟨m, by omega, rfl, by rw [HN.out]⟩
      case measure => simp [intOf]

theorem rslot_dst (z : Nat → Int) (h0 : 0 ≤ z 1) : (z 1).tmod 16 = (slotOf z).dst := Int.tmod_eq_emod_of_nonneg h0
theorem rslot_src (z : Nat → Int) (h0 : 0 ≤ z 1) (h1 : z 1 ≤ 255) : IntKind.u8.wrap ((z 1).tdiv 16) = (slotOf z).src := by
  rw [Int.tdiv_eq_ediv_of_nonneg h0, IntKind.wrap_u8]
  show z 1 / 16 % 256 = z 1 / 16
  omega
theorem rslot_off (z : Nat → Int) (hz : ∀ j, j < 8 → 0 ≤ z j ∧ z j ≤ 255) : IntKind.i16.wrap (IntKind.u16.wrap (num (fun j => z (2 + j)) 0 2)) = (slotOf z).off := by
  have h2 := hz 2 (by omega)
  have h3 := hz 3 (by omega)
  have e : num (fun j => z (2 + j)) 0 2 = z 2 + z 3 * 256 := by
    show (0 * 256 + z 3) * 256 + z 2 = _
    omega
  rw [e, IntKind.wrap_u16, Int.emod_eq_of_lt (by omega) (by omega)]
  rfl
theorem rslot_imm (z : Nat → Int) (hz : ∀ j, j < 8 → 0 ≤ z j ∧ z j ≤ 255) : IntKind.i32.wrap (IntKind.u32.wrap (num (fun j => z (4 + j)) 0 4)) = (slotOf z).imm := by
  have h4 := hz 4 (by omega)
  have h5 := hz 5 (by omega)
  have h6 := hz 6 (by omega)
  have h7 := hz 7 (by omega)
  have e : num (fun j => z (4 + j)) 0 4 = z 4 + z 5 * 256 + z 6 * 65536 + z 7 * 16777216 := by
    show (((0 * 256 + z 7) * 256 + z 6) * 256 + z 5) * 256 + z 4 = _
    omega
  rw [e, IntKind.wrap_u32, Int.emod_eq_of_lt (by omega) (by omega)]
  rfl

set_option maxHeartbeats 1000000 in
set_option maxRecDepth 100000 in
theorem rslot_any (b off c : Nat) (z : Nat → Int) (w : World) (hc : ∀ j, j < 8 → w.cell? ⟨b, off + j, none⟩ = some (.int .u8 (z j))) (hz : ∀ j, j < 8 → 0 ≤ z j ∧ z j ≤ 255) (hcap : 8 ≤ c) (hcap2 : c ≤ 9223372036854775807) :
    Calls Try.prog 10 #[.slice (some ⟨b, off, none⟩) 8 c] w fun e w' => e = .returned (slotOf z).v ∧ Touch [] w w' := by
  have c0 := hc 0 (by omega)
  have c1 := hc 1 (by omega)
  have c2 := hc 2 (by omega)
  have c3 := hc 3 (by omega)
  have c4 := hc 4 (by omega)
  have c5 := hc 5 (by omega)
  have c6 := hc 6 (by omega)
  have c7 := hc 7 (by omega)
  simp only [Nat.add_zero] at c0
  have HZ := toHid hz
  have z1 := hz 1 (by omega)
  clear hc hz
  have q4 : (4 : Int) ≤ c := by omega
  have nc2 : ¬ c = 2 := by omega
  have nc4 : ¬ c = 4 := by omega
  have q8 : (8 : Int) ≤ c := by omega
  have hsz : b < w.heap.size := World.block_lt_of_cell? w _ c0
  go_enter Try.func10, Try.ntmps10
  go_wp2
  have hB := Blk.newA w #[.int .u8 0, .int .u8 0, .int .u8 0, .int .i16 0, .int .i32 0] _ 30 rfl
  have ht := (Touch.refl [] w).alloc (.cells #[.int .u8 0, .int .u8 0, .int .u8 0, .int .i16 0, .int .i32 0] 30)
  replace c0 := ht.cell c0 (by simp)
  replace c1 := ht.cell c1 (by simp)
  replace c2 := ht.cell c2 (by simp)
  replace c3 := ht.cell c3 (by simp)
  replace c4 := ht.cell c4 (by simp)
  replace c5 := ht.cell c5 (by simp)
  replace c6 := ht.cell c6 (by simp)
  replace c7 := ht.cell c7 (by simp)
  have d0 := hB.cell (i := 0) rfl
  have d1 := hB.cell (i := 1) rfl
  have d2 := hB.cell (i := 2) rfl
  have d3 := hB.cell (i := 3) rfl
  have d4 := hB.cell (i := 4) rfl
  have fz := hB.frozen
  have HT := toHid ht
  clear hB ht
  generalize w.alloc (.cells #[.int .u8 0, .int .u8 0, .int .u8 0, .int .i16 0, .int .i32 0] 30) = W at *
  generalize hN : w.heap.size = N at *
  have hN' : w.heap.size ≤ N := by omega
  clear hN
  have hne : b ≠ N := by omega
  have hne' : N ≠ b := by omega
  refine wp_region_held_drew (S := (fun w' => w'.cell? ⟨b, off, none⟩ = some (.int .u8 (z 0)) ∧ w'.cell? ⟨b, off + 1, none⟩ = some (.int .u8 (z 1)) ∧ w'.cell? ⟨b, off + 2, none⟩ = some (.int .u8 (z 2)) ∧ w'.cell? ⟨b, off + 3, none⟩ = some (.int .u8 (z 3)) ∧ w'.cell? ⟨b, off + 4, none⟩ = some (.int .u8 (z 4)) ∧ w'.cell? ⟨b, off + 5, none⟩ = some (.int .u8 (z 5)) ∧ w'.cell? ⟨b, off + 6, none⟩ = some (.int .u8 (z 6)) ∧ w'.cell? ⟨b, off + 7, none⟩ = some (.int .u8 (z 7)))) (by kernel_rfl) ?_ (fun hHeld => ?_)
  · exact ⟨c0, c1, c2, c3, c4, c5, c6, c7⟩
  refine wpAnyH_take (i := 0) (v := ?_) rfl (by kernel_rfl) (by kernel_rfl) (by kernel_rfl) (fun _ _ _ h => h) (Or.inl ⟨by rfl, ?_⟩) (by assumption) ?_
  rotate_left
  · (intro w hSw; (try dsimp only at hSw); go_simp; try with_reducible rfl)
  simp only [Act.put, List.getElem_toArray, List.getElem_cons_zero, List.setIfInBounds_toArray, List.set_cons_zero, List.set_cons_succ]
  refine wpAnyH_take (i := 1) (v := ?_) rfl (by kernel_rfl) (by kernel_rfl) (by kernel_rfl) (fun _ _ _ h => h) (Or.inl ⟨by rfl, ?_⟩) (by assumption) ?_
  rotate_left
  · (intro w hSw; (try dsimp only at hSw); go_simp; try with_reducible rfl)
  simp only [Act.put, List.getElem_toArray, List.getElem_cons_zero, List.getElem_cons_succ, List.setIfInBounds_toArray, List.set_cons_zero, List.set_cons_succ]
  refine wpAnyH_take (i := 2) (v := ?_) rfl (by kernel_rfl) (by kernel_rfl) (by kernel_rfl) (fun _ _ _ h => h) (Or.inl ⟨by rfl, ?_⟩) (by assumption) ?_
  rotate_left
  · (intro w hSw; (try dsimp only at hSw); go_simp; try with_reducible rfl)
  simp only [Act.put, List.getElem_toArray, List.getElem_cons_zero, List.getElem_cons_succ, List.setIfInBounds_toArray, List.set_cons_zero, List.set_cons_succ]
  refine wpAnyH_take (i := 3) (v := ?_) rfl (by kernel_rfl) (by kernel_rfl) (by kernel_rfl) (fun _ _ _ h => h) (Or.inl ⟨by rfl, ?_⟩) (by assumption) ?_
  rotate_left
  · (intro w hSw; (try dsimp only at hSw); go_simp; try with_reducible rfl)
  simp only [Act.put, List.getElem_toArray, List.getElem_cons_zero, List.getElem_cons_succ, List.setIfInBounds_toArray, List.set_cons_zero, List.set_cons_succ]
  refine wpAnyH_take (i := 4) (v := ?_) rfl (by kernel_rfl) (by kernel_rfl) (by kernel_rfl) (fun _ _ _ h => h) (Or.inl ⟨by rfl, ?_⟩) (by assumption) ?_
  rotate_left
  · (intro w hSw; (try dsimp only at hSw); go_simp; try with_reducible rfl)
  simp only [Act.put, List.getElem_toArray, List.getElem_cons_zero, List.getElem_cons_succ, List.setIfInBounds_toArray, List.set_cons_zero, List.set_cons_succ]
  refine wpAnyH_take (i := 5) (v := ?_) rfl (by kernel_rfl) (by kernel_rfl) (by kernel_rfl) (fun _ _ _ h => h) (Or.inl ⟨by rfl, ?_⟩) (by assumption) ?_
  rotate_left
  · (intro w hSw; (try dsimp only at hSw); go_simp; try with_reducible rfl)
  simp only [Act.put, List.getElem_toArray, List.getElem_cons_zero, List.getElem_cons_succ, List.setIfInBounds_toArray, List.set_cons_zero, List.set_cons_succ]
  refine wpAnyH_take (i := 6) (v := ?_) rfl (by kernel_rfl) (by kernel_rfl) (by kernel_rfl) (fun _ _ _ h => h) (Or.inl ⟨by rfl, ?_⟩) (by assumption) ?_
  rotate_left
  · (intro w hSw; (try dsimp only at hSw); go_simp; try with_reducible rfl)
  simp only [Act.put, List.getElem_toArray, List.getElem_cons_zero, List.getElem_cons_succ, List.setIfInBounds_toArray, List.set_cons_zero, List.set_cons_succ]
  refine wpAnyH_take (i := 7) (v := ?_) rfl (by kernel_rfl) (by kernel_rfl) (by kernel_rfl) (fun _ _ _ h => h) (Or.inl ⟨by rfl, ?_⟩) (by assumption) ?_
  rotate_left
  · (intro w hSw; (try dsimp only at hSw); go_simp; try with_reducible rfl)
  simp only [Act.put, List.getElem_toArray, List.getElem_cons_zero, List.getElem_cons_succ, List.setIfInBounds_toArray, List.set_cons_zero, List.set_cons_succ]
  refine wpAnyH_take (i := 8) (v := ?_) rfl (by kernel_rfl) (by kernel_rfl) (by kernel_rfl) (fun _ _ _ h => h) (Or.inl ⟨by rfl, ?_⟩) (by assumption) ?_
  rotate_left
  · (intro w hSw; (try dsimp only at hSw); go_simp; try with_reducible rfl)
  simp only [Act.put, List.getElem_toArray, List.getElem_cons_zero, List.getElem_cons_succ, List.setIfInBounds_toArray, List.set_cons_zero, List.set_cons_succ]
  refine wpAnyH_take (i := 9) (v := ?_) rfl (by kernel_rfl) (by kernel_rfl) (by kernel_rfl) (fun _ _ _ h => h) (Or.inl ⟨by rfl, ?_⟩) (by assumption) ?_
  rotate_left
  · (intro w hSw; (try dsimp only at hSw); go_simp; try with_reducible rfl)
  simp only [Act.put, List.getElem_toArray, List.getElem_cons_zero, List.getElem_cons_succ, List.setIfInBounds_toArray, List.set_cons_zero, List.set_cons_succ]
  refine wpAnyH_take (i := 10) (v := ?_) rfl (by kernel_rfl) (by kernel_rfl) (by kernel_rfl) (fun _ _ _ h => h) (Or.inl ⟨by rfl, ?_⟩) (by assumption) ?_
  rotate_left
  · (intro w hSw; (try dsimp only at hSw); go_simp; try with_reducible rfl)
  simp only [Act.put, List.getElem_toArray, List.getElem_cons_zero, List.getElem_cons_succ, List.setIfInBounds_toArray, List.set_cons_zero, List.set_cons_succ]
  refine wpAnyH_take (i := 11) (v := ?_) rfl (by kernel_rfl) (by kernel_rfl) (by kernel_rfl) (fun _ _ _ h => h) (Or.inl ⟨by rfl, ?_⟩) (by assumption) ?_
  rotate_left
  · (intro w hSw; (try dsimp only at hSw); go_simp; try with_reducible rfl)
  simp only [Act.put, List.getElem_toArray, List.getElem_cons_zero, List.getElem_cons_succ, List.setIfInBounds_toArray, List.set_cons_zero, List.set_cons_succ]
  refine wpAnyH_take (i := 12) (v := ?_) rfl (by kernel_rfl) (by kernel_rfl) (by kernel_rfl) (fun _ _ _ h => h) (Or.inl ⟨by rfl, ?_⟩) (by assumption) ?_
  rotate_left
  · (intro w hSw; (try dsimp only at hSw); go_simp; try with_reducible rfl)
  simp only [Act.put, List.getElem_toArray, List.getElem_cons_zero, List.getElem_cons_succ, List.setIfInBounds_toArray, List.set_cons_zero, List.set_cons_succ]
  refine wpAnyH_take (i := 16) (v := ?_) rfl (by kernel_rfl) (by kernel_rfl) (by kernel_rfl) (fun _ _ _ h => h) (Or.inl ⟨by rfl, ?_⟩) (by assumption) ?_
  rotate_left
  · (intro w hSw; (try dsimp only at hSw); go_simp; try with_reducible rfl)
  simp only [Act.put, List.getElem_toArray, List.getElem_cons_zero, List.getElem_cons_succ, List.setIfInBounds_toArray, List.set_cons_zero, List.set_cons_succ]
  refine wpAnyH_take (i := 17) (v := ?_) rfl (by kernel_rfl) (by kernel_rfl) (by kernel_rfl) (fun _ _ _ h => h) (Or.inl ⟨by rfl, ?_⟩) (by assumption) ?_
  rotate_left
  · (intro w hSw; (try dsimp only at hSw); go_simp; try with_reducible rfl)
  simp only [Act.put, List.getElem_toArray, List.getElem_cons_zero, List.getElem_cons_succ, List.setIfInBounds_toArray, List.set_cons_zero, List.set_cons_succ]
  refine wpAnyH_ready (rs := [13]) (by kernel_rfl) (by simp) ?_
  refine AllReadyH.cons rfl (fun K hK => ?_) AllReadyH.nil
  simp only [List.getElem_toArray, List.getElem_cons_zero, List.getElem_cons_succ]
  go_simp
  refine (rnumber_any b (off + 2) 2 (c - 2) (fun j => z (2 + j)) W.drew (by omega) (fun j hj => ?_) (fun j hj => HZ.out (2 + j) (by omega))).mono ?_
  · have : j = 0 ∨ j = 1 := by omega
    rcases this with rfl | rfl
    · exact c2
    · exact c3
  rintro e w' ⟨rfl, rfl⟩
  go_wp2_with fail
  refine hK.out _ _ ?_ (fun hHeld => ?_)
  · exact hHeld
  clear hK K
  try simp only [Act.put, List.getElem_toArray, List.getElem_cons_zero, List.getElem_cons_succ, List.setIfInBounds_toArray, List.set_cons_zero, List.set_cons_succ]
  refine wpAnyH_take (i := 14) (v := ?_) rfl (by kernel_rfl) (by kernel_rfl) (by kernel_rfl) (fun _ _ _ h => h) (Or.inl ⟨by rfl, ?_⟩) (by assumption) ?_
  rotate_left
  · (intro w hSw; (try dsimp only at hSw); go_simp; try with_reducible rfl)
  simp only [Act.put, List.getElem_toArray, List.getElem_cons_zero, List.getElem_cons_succ, List.setIfInBounds_toArray, List.set_cons_zero, List.set_cons_succ]
  refine wpAnyH_take (i := 15) (v := ?_) rfl (by kernel_rfl) (by kernel_rfl) (by kernel_rfl) (fun _ _ _ h => h) (Or.inl ⟨by rfl, ?_⟩) (by assumption) ?_
  rotate_left
  · (intro w hSw; (try dsimp only at hSw); go_simp; try with_reducible rfl)
  simp only [Act.put, List.getElem_toArray, List.getElem_cons_zero, List.getElem_cons_succ, List.setIfInBounds_toArray, List.set_cons_zero, List.set_cons_succ]
  refine wpAnyH_ready (rs := [18]) (by kernel_rfl) (by simp) ?_
  refine AllReadyH.cons rfl (fun K hK => ?_) AllReadyH.nil
  simp only [List.getElem_toArray, List.getElem_cons_zero, List.getElem_cons_succ]
  go_simp
  refine (rnumber_any b (off + 4) 4 (c - 4) (fun j => z (4 + j)) W.drew (by omega) (fun j hj => ?_) (fun j hj => HZ.out (4 + j) (by omega))).mono ?_
  · have : j = 0 ∨ j = 1 ∨ j = 2 ∨ j = 3 := by omega
    rcases this with rfl | rfl | rfl | rfl
    · exact c4
    · exact c5
    · exact c6
    · exact c7
  rintro e w' ⟨rfl, rfl⟩
  go_wp2_with fail
  refine hK.out _ _ ?_ (fun hHeld => ?_)
  · exact hHeld
  clear hK K
  try simp only [Act.put, List.getElem_toArray, List.getElem_cons_zero, List.getElem_cons_succ, List.setIfInBounds_toArray, List.set_cons_zero, List.set_cons_succ]
  refine wpAnyH_take (i := 19) (v := ?_) rfl (by kernel_rfl) (by kernel_rfl) (by kernel_rfl) (fun _ _ _ h => h) (Or.inl ⟨by rfl, ?_⟩) (by assumption) ?_
  rotate_left
  · (intro w hSw; (try dsimp only at hSw); go_simp; try with_reducible rfl)
  simp only [Act.put, List.getElem_toArray, List.getElem_cons_zero, List.getElem_cons_succ, List.setIfInBounds_toArray, List.set_cons_zero, List.set_cons_succ]
  refine wpAnyH_take (i := 20) (v := ?_) rfl (by kernel_rfl) (by kernel_rfl) (by kernel_rfl) (fun _ _ _ h => h) (Or.inl ⟨by rfl, ?_⟩) (by assumption) ?_
  rotate_left
  · (intro w hSw; (try dsimp only at hSw); go_simp; try with_reducible rfl)
  simp only [Act.put, List.getElem_toArray, List.getElem_cons_zero, List.getElem_cons_succ, List.setIfInBounds_toArray, List.set_cons_zero, List.set_cons_succ]
  refine wpAnyH_take (i := 21) (v := ?_) rfl (by kernel_rfl) (by kernel_rfl) (by kernel_rfl) (fun _ _ _ h => h) (Or.inl ⟨by rfl, ?_⟩) (by assumption) ?_
  rotate_left
  · (intro w hSw; (try dsimp only at hSw); go_simp; try with_reducible rfl)
  simp only [Act.put, List.getElem_toArray, List.getElem_cons_zero, List.getElem_cons_succ, List.setIfInBounds_toArray, List.set_cons_zero, List.set_cons_succ]
  refine wpAnyH_ready (rs := [22]) (by kernel_rfl) (by simp) ?_
  refine AllReadyH.cons rfl (fun K hK => ?_) AllReadyH.nil
  simp only [List.getElem_toArray, List.getElem_cons_zero, List.getElem_cons_succ]
  go_simp
  rw [rslot_dst z z1.1, rslot_src z z1.1 z1.2, rslot_off z HZ.out, rslot_imm z HZ.out]
  refine hK.out _ _ ?_ (fun hHeld => ?_)
  · go_keep
  clear hK K
  refine wpAnyH_done (by kernel_rfl) ?_ _
  go_wp2
  refine bodyPost_ret (v := (slotOf z).v) (by simp [results, Try.results10, go_sem, In.v, d0, d1, d2, d3, d4]; rfl) rfl ⟨rfl, ?_⟩
  exact (((((HT.out.setCell _ _ (Or.inr (by simp; omega))).setCell _ _ (Or.inr (by simp; omega))).setCell _ _ (Or.inr (by simp; omega))).setCell _ _ (Or.inr (by simp; omega))).setCell _ _ (Or.inr (by simp; omega))).drew
end Go.Proofs.Ytjioemkapmchpaa
