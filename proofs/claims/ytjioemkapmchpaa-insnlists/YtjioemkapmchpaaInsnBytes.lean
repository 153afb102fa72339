/-
  For every input InsnBytes returns true, and each argument reads afterwards as it read before. No conditions. (The walk.)
-/
import Derived.Test.YtjioemkapmchpaaStr
import Derived.Test.YtjioemkapmchpaaRSlot
import Derived.Test.YtjioemkapmchpaaFirst
namespace Go.Proofs.Ytjioemkapmchpaa
open Go.RowKit
attribute [local go_sem ↓] Go.wp_at_zero Go.wp_at_succ

theorem Came.touch {w w' : World} {sa : Option Addr} {n : Nat} {z : Nat → Int} (h : Came w sa n z) (ht : Touch [] w w') : Came w' sa n z := by
  rcases h with h | ⟨b, off, h1, h2, h3⟩
  · exact Or.inl h
  · exact Or.inr ⟨b, off, h1, Nat.lt_of_lt_of_le h2 ht.size, fun j hj => ⟨ht.cell (h3 j hj).1 (by simp), (h3 j hj).2⟩⟩

theorem slot_ok (z : Nat → Int) (hz : ∀ j, j < 8 → 0 ≤ z j ∧ z j ≤ 255) : (slotOf z).Ok := by
  have h0 := hz 0 (by omega)
  have h1 := hz 1 (by omega)
  refine ⟨h0.1, h0.2, ?_, ?_, ?_, ?_, ?_, ?_, ?_, ?_⟩
  · show 0 ≤ z 1 % 16
    omega
  · show z 1 % 16 ≤ 255
    omega
  · show 0 ≤ z 1 / 16
    omega
  · show z 1 / 16 ≤ 255
    omega
  · show -32768 ≤ IntKind.i16.wrap (z 2 + z 3 * 256)
    simp only [IntKind.wrap, IntKind.bits, IntKind.signed]
    simp
    omega
  · show IntKind.i16.wrap (z 2 + z 3 * 256) ≤ 32767
    simp only [IntKind.wrap, IntKind.bits, IntKind.signed]
    simp
    omega
  · show -2147483648 ≤ IntKind.i32.wrap (z 4 + z 5 * 256 + z 6 * 65536 + z 7 * 16777216)
    rw [IntKind.wrap_i32]
    omega
  · show IntKind.i32.wrap (z 4 + z 5 * 256 + z 6 * 65536 + z 7 * 16777216) ≤ 2147483647
    rw [IntKind.wrap_i32]
    omega

/-- The slots that Decode has laid, as a slice of instructions. -/
theorem came_slots {w : World} {L m : Nat} {f : Nat → In} (ok : ∀ j, j < m → (f j).Ok) (h : Blk w L (((List.range m).map f).flatMap In.cells) 30) : CameI w (some ⟨L, 0, none⟩) m f := by
  refine Or.inr ⟨L, 0, rfl, h.lt, fun j hj => ?_⟩
  have hg : ((List.range m).map f)[j]? = some (f j) := by simp [List.getElem?_range hj]
  have g : ∀ r v, r < 5 → (f j).cells[r]? = some v → w.cell? ⟨L, 0 + j * 5 + r, none⟩ = some v := fun r v hr hv => h.cell (by rw [Nat.zero_add, flat_get In.cells 5 In.cells_length _ j r (f j) hr hg]; exact hv)
  exact ⟨ok j hj, g 0 _ (by omega) rfl, g 1 _ (by omega) rfl, g 2 _ (by omega) rfl, g 3 _ (by omega) rfl, g 4 _ (by omega) rfl⟩

set_option maxHeartbeats 2000000 in
set_option maxRecDepth 100000 in
theorem insnBytes_walk (sa : Option Addr) (n c : Nat) (z : Nat → Int) (w : World) (hc : Came w sa n z) (hnc : n ≤ c) (hn : c ≤ 140737488351232) :
    Calls Try.prog 3 #[.slice sa n c] w fun e w' => e = .returned (.bool true) ∧ Touch [] w w' := by
  have HC := toHid hc
  clear hc
  go_enter Try.func3, Try.ntmps3
  go_wp2_with fail
  refine (first_any w).mono ?_
  rintro e w2 ⟨rfl, ht2⟩
  have HT2 := toHid ht2
  have HD := toHid (decode_any sa n c z w2 (HC.out.touch ht2) (by omega) hnc (by omega))
  clear ht2
  go_wp2_with fail
  refine HD.out.mono ?_
  rintro e w3 ⟨ht3, he⟩
  have HT3 := toHid (HT2.out.trans ht3 (by simp))
  clear HT2 HD
  by_cases h8 : n % 8 = 0
  · rw [if_pos h8] at he
    obtain ⟨L, rfl, hL, hB⟩ := he
    obtain ⟨m, hm⟩ : ∃ m, n = 8 * m := ⟨n / 8, by omega⟩
    rw [show n / 8 = m by omega] at *
    have HB := toHid hB
    have HM := toHid hm
    have hmod : (n : Int) % 8 = 0 := by omega
    have hdiv : (n : Int) / 8 = m := by omega
    have hmm : m ≤ 17592186043904 := by omega
    have HZ : Hid (∀ j, j < n → 0 ≤ z j ∧ z j ≤ 255) := fun j hj => by
      rcases HC.out with h | ⟨_, _, _, _, h⟩
      · omega
      · exact (h j hj).2
    clear hB hm ht3 hL h8
    go_wp2_with fail
    clear hmod
    go_loopw [36] (fun t w' => ∃ k : Nat, k ≤ m ∧ t = .int .i64 k ∧ Hid (Touch [] w3 w')) (fun t _ => m - (intOf t).toNat)
    case atStart => exact ⟨0, by omega, rfl, Touch.refl _ _⟩
    case round =>
      obtain ⟨k, hk, rfl, HI⟩ := hrel
      by_cases hlt : k < m
      · obtain ⟨b, off, hsa, hbw, hx⟩ : ∃ b off, sa = some ⟨b, off, none⟩ ∧ b < w.heap.size ∧ ∀ j, j < n → w.cell? ⟨b, off + j, none⟩ = some (.int .u8 (z j)) ∧ 0 ≤ z j ∧ z j ≤ 255 := by
          rcases HC.out with h | h
          · have := HM.out; omega
          · exact h
        subst hsa
        have hkn : 8 * k + 8 ≤ n := by have := HM.out; omega
        have htr := HT3.out.trans HI.out (by simp)
        have HSL := toHid (rslot_any b (off + 8 * k) (c - 8 * k) (fun j => z (8 * k + j)) wr.drew (fun j hj => by
          have := htr.cell (hx (8 * k + j) (by omega)).1 (by simp)
          rw [Nat.add_assoc]
          exact this) (fun j hj => (hx (8 * k + j) (by omega)).2) (by omega) (by omega))
        have hB := HI.out.blk HB.out (by simp)
        have hg : (slots z m)[k]? = some (slotAt z k) := by simp [slots, List.getElem?_range hlt]
        have g : ∀ r v, r < 5 → (slotAt z k).cells[r]? = some v → wr.cell? ⟨L, k * 5 + r, none⟩ = some v := fun r v hr hv => hB.cell (by rw [flat_get In.cells 5 In.cells_length _ k r (slotAt z k) hr hg]; exact hv)
        have d0 := g 0 _ (by omega) rfl
        have d1 := g 1 _ (by omega) rfl
        have d2 := g 2 _ (by omega) rfl
        have d3 := g 3 _ (by omega) rfl
        have d4 := g 4 _ (by omega) rfl
        simp only [Nat.add_zero] at d0
        rw [show slotOf (fun j => z (8 * k + j)) = slotAt z k from rfl] at HSL
        clear hB hg g hx htr
        generalize slotAt z k = i at *
        simp only [In.v] at HSL
        have hkk : (8 : Int) * k ≤ n := by omega
        have hkk2 : (8 : Int) * k + 8 ≤ n := by omega
        have hk0 : (0 : Int) ≤ 8 * k := by omega
        have hkt : (8 * (k : Int)).toNat = 8 * k := by omega
        have hkt2 : (8 * (k : Int) + 8).toNat = 8 * k + 8 := by omega
        have hkw : IntKind.i64.wrap (8 * (k : Int)) = 8 * (k : Int) := by rw [IntKind.wrap_i64]; omega
        have hkw2 : IntKind.i64.wrap (8 * (k : Int) + 8) = 8 * (k : Int) + 8 := by rw [IntKind.wrap_i64]; omega
        have hkc : (8 : Int) * k + 8 ≤ c := by omega
        have hk8 : (0 : Int) ≤ 8 * k + 8 := by omega
        have hk88 : (8 : Int) * k ≤ 8 * k + 8 := by omega
        have hkc2 : ¬ c = 8 * k := by omega
        have hkl : (k : Int) < m := by omega
        go_wp2_with fail
        refine wp_region_held_drew (S := (fun w' => w'.cell? ⟨L, k * 5, none⟩ = some (.int .u8 i.op) ∧ w'.cell? ⟨L, k * 5 + 1, none⟩ = some (.int .u8 i.dst) ∧ w'.cell? ⟨L, k * 5 + 2, none⟩ = some (.int .u8 i.src) ∧ w'.cell? ⟨L, k * 5 + 3, none⟩ = some (.int .i16 i.off) ∧ w'.cell? ⟨L, k * 5 + 4, none⟩ = some (.int .i32 i.imm))) (by kernel_rfl) ?_ (fun hHeld => ?_)
        · exact ⟨d0, d1, d2, d3, d4⟩
        refine wpAnyH_take (i := 0) (v := ?_) rfl (by kernel_rfl) (by kernel_rfl) (by kernel_rfl) (fun _ _ _ h => h) (Or.inl ⟨by rfl, ?_⟩) (by assumption) ?_
        rotate_left
        · (intro w hSw; (try dsimp only at hSw); go_simp; try with_reducible rfl)
        simp only [Act.put, List.getElem_toArray, List.getElem_cons_zero, List.setIfInBounds_toArray, List.set_cons_zero, List.set_cons_succ]
        refine wpAnyH_take (i := 1) (v := ?_) rfl (by kernel_rfl) (by kernel_rfl) (by kernel_rfl) (fun _ _ _ h => h) (Or.inl ⟨by rfl, ?_⟩) (by assumption) ?_
        rotate_left
        · (intro w hSw; (try dsimp only at hSw); go_simp; try with_reducible rfl)
        simp only [Act.put, List.getElem_toArray, List.getElem_cons_zero, List.getElem_cons_succ, List.setIfInBounds_toArray, List.set_cons_zero, List.set_cons_succ]
        refine wpAnyH_take (i := 2) (v := ?_) rfl (by kernel_rfl) (by kernel_rfl) (by kernel_rfl) (fun _ _ _ h => h) (Or.inl ⟨by rfl, ?_⟩) (by assumption) ?_
        rotate_left
        · (intro w hSw; (try dsimp only at hSw); go_simp; try with_reducible rfl)
        simp only [Act.put, List.getElem_toArray, List.getElem_cons_zero, List.getElem_cons_succ, List.setIfInBounds_toArray, List.set_cons_zero, List.set_cons_succ]
        refine wpAnyH_take (i := 3) (v := ?_) rfl (by kernel_rfl) (by kernel_rfl) (by kernel_rfl) (fun _ _ _ h => h) (Or.inl ⟨by rfl, ?_⟩) (by assumption) ?_
        rotate_left
        · (intro w hSw; (try dsimp only at hSw); go_simp; try with_reducible rfl)
        simp only [Act.put, List.getElem_toArray, List.getElem_cons_zero, List.getElem_cons_succ, List.setIfInBounds_toArray, List.set_cons_zero, List.set_cons_succ]
        refine wpAnyH_take (i := 4) (v := ?_) rfl (by kernel_rfl) (by kernel_rfl) (by kernel_rfl) (fun _ _ _ h => h) (Or.inl ⟨by rfl, ?_⟩) (by assumption) ?_
        rotate_left
        · (intro w hSw; (try dsimp only at hSw); go_simp; try with_reducible rfl)
        simp only [Act.put, List.getElem_toArray, List.getElem_cons_zero, List.getElem_cons_succ, List.setIfInBounds_toArray, List.set_cons_zero, List.set_cons_succ]
        refine wpAnyH_take (i := 5) (v := ?_) rfl (by kernel_rfl) (by kernel_rfl) (by kernel_rfl) (fun _ _ _ h => h) (Or.inl ⟨by rfl, ?_⟩) (by assumption) ?_
        rotate_left
        · (intro w hSw; (try dsimp only at hSw); go_simp; try with_reducible rfl)
        simp only [Act.put, List.getElem_toArray, List.getElem_cons_zero, List.getElem_cons_succ, List.setIfInBounds_toArray, List.set_cons_zero, List.set_cons_succ]
        refine wpAnyH_take (i := 6) (v := ?_) rfl (by kernel_rfl) (by kernel_rfl) (by kernel_rfl) (fun _ _ _ h => h) (Or.inl ⟨by rfl, ?_⟩) (by assumption) ?_
        rotate_left
        · (intro w hSw; (try dsimp only at hSw); go_simp; try with_reducible rfl)
        simp only [Act.put, List.getElem_toArray, List.getElem_cons_zero, List.getElem_cons_succ, List.setIfInBounds_toArray, List.set_cons_zero, List.set_cons_succ]
        refine wpAnyH_take (i := 7) (v := ?_) rfl (by kernel_rfl) (by kernel_rfl) (by kernel_rfl) (fun _ _ _ h => h) (Or.inl ⟨by rfl, ?_⟩) (by assumption) ?_
        rotate_left
        · (intro w hSw; (try dsimp only at hSw); go_simp; try with_reducible rfl)
        simp only [Act.put, List.getElem_toArray, List.getElem_cons_zero, List.getElem_cons_succ, List.setIfInBounds_toArray, List.set_cons_zero, List.set_cons_succ]
        refine wpAnyH_take (i := 8) (v := ?_) rfl (by kernel_rfl) (by kernel_rfl) (by kernel_rfl) (fun _ _ _ h => h) (Or.inl ⟨by rfl, ?_⟩) (by assumption) ?_
        rotate_left
        · (intro w hSw; (try dsimp only at hSw); go_simp; try with_reducible rfl)
        simp only [Act.put, List.getElem_toArray, List.getElem_cons_zero, List.getElem_cons_succ, List.setIfInBounds_toArray, List.set_cons_zero, List.set_cons_succ]
        refine wpAnyH_take (i := 9) (v := ?_) rfl (by kernel_rfl) (by kernel_rfl) (by kernel_rfl) (fun _ _ _ h => h) (Or.inl ⟨by rfl, ?_⟩) (by assumption) ?_
        rotate_left
        · (intro w hSw; (try dsimp only at hSw); go_simp; try with_reducible rfl)
        simp only [Act.put, List.getElem_toArray, List.getElem_cons_zero, List.getElem_cons_succ, List.setIfInBounds_toArray, List.set_cons_zero, List.set_cons_succ]
        refine wpAnyH_take (i := 10) (v := ?_) rfl (by kernel_rfl) (by kernel_rfl) (by kernel_rfl) (fun _ _ _ h => h) (Or.inl ⟨by rfl, ?_⟩) (by assumption) ?_
        rotate_left
        · (intro w hSw; (try dsimp only at hSw); go_simp; try with_reducible rfl)
        simp only [Act.put, List.getElem_toArray, List.getElem_cons_zero, List.getElem_cons_succ, List.setIfInBounds_toArray, List.set_cons_zero, List.set_cons_succ]
        refine wpAnyH_ready (rs := [11]) (by kernel_rfl) (by simp) ?_
        refine AllReadyH.cons rfl (fun K hK => ?_) AllReadyH.nil
        simp only [List.getElem_toArray, List.getElem_cons_zero, List.getElem_cons_succ]
        go_simp
        refine HSL.out.mono ?_; rintro e w' ⟨rfl, ht⟩
        go_wp2_with fail
        refine hK.out _ _ ?_ (fun hHeld => ?_)
        · exact ⟨ht.cell hHeld.1 (by simp), ht.cell hHeld.2.1 (by simp), ht.cell hHeld.2.2.1 (by simp), ht.cell hHeld.2.2.2.1 (by simp), ht.cell hHeld.2.2.2.2 (by simp)⟩
        clear hK K
        try simp only [Act.put, List.getElem_toArray, List.getElem_cons_zero, List.getElem_cons_succ, List.setIfInBounds_toArray, List.set_cons_zero, List.set_cons_succ]
        refine wpAnyH_take (i := 12) (v := ?_) rfl (by kernel_rfl) (by kernel_rfl) (by kernel_rfl) (fun _ _ _ h => h) (Or.inl ⟨by rfl, ?_⟩) (by assumption) ?_
        rotate_left
        · (intro w hSw; (try dsimp only at hSw); go_simp; try with_reducible rfl)
        simp only [Act.put, List.getElem_toArray, List.getElem_cons_zero, List.getElem_cons_succ, List.setIfInBounds_toArray, List.set_cons_zero, List.set_cons_succ]
        refine wpAnyH_done (by kernel_rfl) ?_ _
        have HT4 := toHid (HI.out.drew.trans ht (by simp))
        clear ht
        go_wp2
        go_roundw
        case rel => exact ⟨k + 1, by omega, by go_num, HT4.out⟩
        case measure => simp [intOf]; omega
      · have hkm : k = m := by omega
        subst hkm
        have HT4 := toHid (HT3.out.trans HI.out (by simp))
        have hok : ∀ j, j < k → (slotAt z j).Ok := fun j hj => slot_ok _ (fun r hr => HZ.out (8 * j + r) (by have := HM.out; omega))
        have HEN := toHid (encode_any (some ⟨L, 0, none⟩) k k (slotAt z) wr.drew (came_slots hok ((HI.out.drew).blk HB.out (by simp))) (by omega))
        have HOK := toHid hok
        have hze : strN (rowByte (slotAt z)) (8 * k) = strN z n := by
          have := HM.out
          rw [← this]
          refine strN_congr (fun j hj => ?_)
          show (slotOf (fun r => z (8 * (j / 8) + r))).byte (j % 8) = z j
          rw [slot_bytes _ (fun r hr => HZ.out (8 * (j / 8) + r) (by omega)) _ (by omega)]
          show z (8 * (j / 8) + j % 8) = z j
          rw [Nat.div_add_mod]
        have hcv := fun w' (ht : Touch [] w w') => conv_came HC.out ht c
        generalize strN z n = Z at *
        have HZE := toHid hze
        clear hok hze
        go_wp2_with fail
        refine wp_region_held_drew (S := (fun w' => (convert 22 9 (.slice sa n c)).run Try.prog w' = .ok (.string Z) w')) (by kernel_rfl) ?_ (fun hHeld => ?_)
        · exact hcv wr.drew (HT4.out.drew)
        refine wpAnyH_take (i := 0) (v := ?_) rfl (by kernel_rfl) (by kernel_rfl) (by kernel_rfl) (fun _ _ _ h => h) (Or.inl ⟨by rfl, ?_⟩) (by assumption) ?_
        rotate_left
        · (intro w hSw; (try dsimp only at hSw); go_simp; try with_reducible rfl)
        simp only [Act.put, List.getElem_toArray, List.getElem_cons_zero, List.setIfInBounds_toArray, List.set_cons_zero, List.set_cons_succ]
        refine wpAnyH_take (i := 3) (v := ?_) rfl (by kernel_rfl) (by kernel_rfl) (by kernel_rfl) (fun _ _ _ h => h) (Or.inl ⟨by rfl, ?_⟩) (by assumption) ?_
        rotate_left
        · (intro w hSw; (try dsimp only at hSw); go_simp; try with_reducible rfl)
        simp only [Act.put, List.getElem_toArray, List.getElem_cons_zero, List.getElem_cons_succ, List.setIfInBounds_toArray, List.set_cons_zero, List.set_cons_succ]
        refine wpAnyH_take (i := 4) (v := ?_) rfl (by kernel_rfl) (by kernel_rfl) (by kernel_rfl) (fun _ _ _ h => h) (Or.inl ⟨by rfl, ?_⟩) (by assumption) ?_
        rotate_left
        · (intro w hSw; (try dsimp only at hSw); go_simp; try with_reducible rfl)
        simp only [Act.put, List.getElem_toArray, List.getElem_cons_zero, List.getElem_cons_succ, List.setIfInBounds_toArray, List.set_cons_zero, List.set_cons_succ]
        refine wpAnyH_ready (rs := [1]) (by kernel_rfl) (by simp) ?_
        refine AllReadyH.cons rfl (fun K hK => ?_) AllReadyH.nil
        simp only [List.getElem_toArray, List.getElem_cons_zero, List.getElem_cons_succ]
        go_simp
        refine HEN.out.mono ?_; rintro e w5 ⟨ht5, N, rfl, hN, hB5⟩
        go_wp2_with fail
        refine hK.out _ _ ?_ (fun hHeld => ?_)
        · exact hcv w5 ((HT4.out.drew).trans ht5 (by simp))
        clear hK K
        try simp only [Act.put, List.getElem_toArray, List.getElem_cons_zero, List.getElem_cons_succ, List.setIfInBounds_toArray, List.set_cons_zero, List.set_cons_succ]
        have HT5 := toHid ((HT4.out.drew).trans ht5 (by simp))
        have hcv2 : (convert 22 9 (.slice (some ⟨N, 0, none⟩) (8 * k) (8 * k))).run Try.prog w5 = .ok (.string Z) w5 := by
          have := conv_came (came_row HOK.out hB5) (Touch.refl [] w5) (8 * k)
          rw [HZE.out] at this
          exact this
        clear ht5 hB5
        refine wpAnyH_ready (rs := [2]) (by kernel_rfl) (by simp) ?_
        refine AllReadyH.cons rfl (fun K hK => ?_) AllReadyH.nil
        simp only [List.getElem_toArray, List.getElem_cons_zero, List.getElem_cons_succ]
        go_simp
        refine hK.out _ _ ?_ (fun hHeld => ?_)
        · exact hHeld
        clear hK K
        try simp only [Act.put, List.getElem_toArray, List.getElem_cons_zero, List.getElem_cons_succ, List.setIfInBounds_toArray, List.set_cons_zero, List.set_cons_succ]
        refine wpAnyH_take (i := 5) (v := ?_) rfl (by kernel_rfl) (by kernel_rfl) (by kernel_rfl) (fun _ _ _ h => h) (Or.inl ⟨by rfl, ?_⟩) (by assumption) ?_
        rotate_left
        · (intro w hSw; (try dsimp only at hSw); go_simp; try with_reducible rfl)
        simp only [Act.put, List.getElem_toArray, List.getElem_cons_zero, List.getElem_cons_succ, List.setIfInBounds_toArray, List.set_cons_zero, List.set_cons_succ]
        refine wpAnyH_ready (rs := [6]) (by kernel_rfl) (by simp) ?_
        refine AllReadyH.cons rfl (fun K hK => ?_) AllReadyH.nil
        simp only [List.getElem_toArray, List.getElem_cons_zero, List.getElem_cons_succ]
        go_simp
        refine hK.out _ _ ?_ (fun hHeld => ?_)
        · exact hHeld
        clear hK K
        refine wpAnyH_done (by kernel_rfl) ?_ _
        go_wp2
        go_ret
        exact ⟨rfl, HT5.out⟩
  · rw [if_neg h8] at he
    subst he
    have hmod : ¬ (n : Int) % 8 = 0 := by omega
    go_wp2
    go_ret
    exact ⟨rfl, HT3.out⟩
end Go.Proofs.Ytjioemkapmchpaa
