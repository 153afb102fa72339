/-
  Package hash: Keys.
-/
import Derived.Test.YtlkppkgfnmlblaaFns3
import Derived.Lib.ConvBytes
namespace Go.Proofs.Ytlkppkgfnmlblaa
open Go.RowKit Go.Maps
attribute [local go_sem ↓] Go.wp_at_zero Go.wp_at_succ

theorem bytes_cells (w : World) {bs : List Int} (hb : ∀ x ∈ bs, 0 ≤ x ∧ x ≤ 255) : Lib.bytesCells w 5 (strOfNums bs) = (bs.map (Value.int .u8) ++ List.replicate (grownCap w bs.length 0 5 - bs.length) (Value.int .u8 0)).toArray := by
  unfold Lib.bytesCells
  rw [strOfNums_size]
  apply Array.toList_inj.1
  simp only [Array.toList_append, Array.toList_map, strOfNums_data, Array.toList_replicate, List.map_map]
  congr 1
  apply List.map_congr_left
  intro x hx
  have := hb x hx
  simp only [Function.comp, UInt8.toNat_ofNat']
  congr 1
  omega
/-- The bytes of a text, as a key of their own. -/
theorem conv_key (w : World) {bs : List Int} (hb : ∀ x ∈ bs, 0 ≤ x ∧ x ≤ 255) (h1 : 1 ≤ bs.length) (h16 : bs.length ≤ 16) :
    ∃ cap w', (convert 9 32 (.string (strOfNums bs))).run Try.prog w = .ok (.slice (some ⟨w.heap.size, 0, none⟩) bs.length cap) w' ∧ (⟨w.heap.size, cap, bs⟩ : KS).At w' ∧ Touch [] w w' := by
  have hr := Lib.run_convert_string_bytes (P := Try.prog) w 9 32 5 (strOfNums bs) Try.underlying9 Try.underlying32 Try.underlying5
  have hn := Lib.bytesWorld_at_new w 5 (strOfNums bs)
  rw [strOfNums_size] at hr
  rw [bytes_cells w hb] at hn
  refine ⟨_, _, hr, ⟨⟨(List.replicate (grownCap w bs.length 0 5 - bs.length) (.int .u8 0)), ⟨_, hn, Or.inr ?_⟩⟩, hb, h16, h1, ?_⟩, ⟨rfl, rfl, rfl, ?_, fun k hk _ => Lib.bytesWorld_at_old w 5 _ k hk⟩⟩
  · simp
  · exact grownCap_ge _ _ _ _
  · rw [Lib.bytesWorld_size]
    omega
set_option maxRecDepth 100000 in
theorem index_row (w : World) {l : List (Option (List Int))} {k : Nat} (hk : k < 64) : (Instr.index 69 (.agg (rowS l fun _ => false).toArray) (.int .i64 k)).run Try.prog w = .ok (.string (slotS (fun _ => false) (l.getD k none))) w := by
  have h1 : (0 : Int) ≤ k ∧ (k : Int) < 64 := by omega
  have hc := row_cell (l := l) hk
  generalize rowS l (fun _ => false) = rs at *
  simp [Instr.index, run_underlying Try.underlying69, part, h1, hc, go_sem]
  intro h2
  omega
def keysP (l : List (Option (List Int))) : List (List Int) := l.filterMap id
theorem keysP_snoc (l : List (Option (List Int))) (k : Nat) : keysP (l.take (k + 1)) = keysP (l.take k) ++ (match l.getD k none with
    | none => []
    | some bs => [bs]) := by
  unfold keysP
  rw [List.take_add_one, List.filterMap_append, List.getD_eq_getElem?_getD]
  cases hq : l[k]? with
  | none => rfl
  | some o => cases o <;> rfl

set_option maxHeartbeats 1000000 in
set_option maxRecDepth 100000 in
theorem keys_any {w : World} {x : HX} (h : HAt w x) :
    Calls Try.prog 24 #[.pointer (some ⟨x.X, 0, none⟩)] w fun e w' => (∃ v, e = .returned v ∧ KL w w' v (keysP x.l)) ∧ Touch [] w w' := by
  have H1 := toHid (bySlot_any h)
  have HH := toHid h
  clear h
  go_enter Try.func24, Try.ntmps24
  go_wp2_with fail
  refine Calls.mono H1.out ?_
  rintro e w2 ⟨rfl, ht2⟩
  have HT2 := toHid ht2
  clear ht2 H1
  go_wp2_with fail
  generalize hRS : (rowS x.l fun _ => false).toArray = rs at *
  have HRS := toHid hRS
  clear hRS
  go_loopw [3, 10] (fun o t w' => ∃ k : Nat, k ≤ 64 ∧ t = .int .i64 k ∧ Hid (∃ g cap l, o = slV g l.length cap ∧ KLs w w' g cap l ∧ l.map KS.bs = keysP (x.l.take k) ∧ l.length ≤ k ∧ Touch [] w w')) (fun _ t _ => 64 - (intOf t).toNat)
  case atStart => exact ⟨0, by omega, rfl, none, 0, [], rfl, ⟨⟨rfl, Nat.le_refl _, by unfold maxLen; omega, rfl⟩, fun b hb => (by cases hb), fun k hk => absurd hk (by simp)⟩, rfl, by simp, HT2.out⟩
  case round =>
    obtain ⟨k, hk, rfl, HI⟩ := hrel
    obtain ⟨g, cap, l, rfl, hKL, hbs, hll, ht⟩ := HI.out
    by_cases hlt : k < 64
    · have hks := keysP_snoc x.l k
      have hix := index_row wr (l := x.l) hlt
      rw [HRS.out] at hix
      cases hs : x.l.getD k none with
      | none =>
        rw [hs] at hix hks
        have hix' : (Instr.index 69 (.agg rs) (.int .i64 k)).run Try.prog wr = .ok (.string ⟨#[]⟩) wr := hix
        have HN : Hid (∃ g' cap' l', slV g l.length cap = slV g' l'.length cap' ∧ KLs w wr g' cap' l' ∧ l'.map KS.bs = keysP (x.l.take (k + 1)) ∧ l'.length ≤ k + 1 ∧ Touch [] w wr) := ⟨g, cap, l, rfl, hKL, by rw [hks, hbs, List.append_nil], by omega, ht⟩
        unfold slV
        clear hs hks hKL hbs ht HI hix
        go_wp2
        go_roundw
        case rel => exact ⟨k + 1, by omega, by go_num, HN⟩
        case measure => simp [intOf]; omega
      | some bs =>
        rw [hs] at hix hks
        have hix' : (Instr.index 69 (.agg rs) (.int .i64 k)).run Try.prog wr = .ok (.string (strOfNums bs)) wr := hix
        have hmem : some bs ∈ x.l := by
          rw [List.getD_eq_getElem?_getD] at hs
          cases hq : x.l[k]? with
          | none => rw [hq] at hs; cases hs
          | some o =>
            rw [hq] at hs
            simp only [Option.getD_some] at hs
            subst hs
            exact List.mem_of_getElem? hq
        have hok := HH.out.map.keys bs hmem
        have hs1 := HH.out.map.s1
        have hs16 := HH.out.map.s16
        have hfull := str_full (bs := bs) (by omega)
        obtain ⟨cap1, w1, hr1, hA1, ht1⟩ := conv_key wr hok.1 (by omega) (by omega)
        have hgl : ∀ b, g = some b → b < wr.heap.size := fun b hb => by
          have := hKL.row.2.2.2
          rw [hb] at this
          obtain ⟨_, hB, _⟩ := this
          exact hB.lt
        obtain ⟨g2, cap2, w2', hr2, hK2, ht2⟩ := (hKL.touch ht1 (by simp)).push (ht.trans ht1 (by simp)) ⟨wr.heap.size, cap1, bs⟩ hA1 (by have := ht.size; show w.heap.size ≤ wr.heap.size; omega) (fun e => by have := hgl _ e; simp at this) (by omega)
        have HN : Hid (∃ g' cap' l', slV g2 (l.length + 1) cap2 = slV g' l'.length cap' ∧ KLs w w2' g' cap' l' ∧ l'.map KS.bs = keysP (x.l.take (k + 1)) ∧ l'.length ≤ k + 1 ∧ Touch [] w w2') := ⟨g2, cap2, l ++ [⟨wr.heap.size, cap1, bs⟩], by simp, hK2, by rw [hks, List.map_append, hbs]; rfl, by simp; omega, ht2⟩
        have HR2 := toHid hr2
        have e1 : (⟨wr.heap.size, cap1, bs⟩ : KS).v = .slice (some ⟨wr.heap.size, 0, none⟩) bs.length cap1 := rfl
        rw [e1] at HR2
        generalize strOfNums bs = A at *
        generalize bs.length = bl at *
        clear hs hks hKL hbs ht HI hr2 hA1 ht1 hK2 ht2 hgl e1 hmem hok hix hs1 hs16
        generalize hv2 : slV g2 (l.length + 1) cap2 = v2 at *
        clear hv2
        unfold slV at HR2 ⊢
        go_wp2_with (first | (at_builtin; refine Lib.wpList_append_run _ rfl _ _ _ _ rfl _ _ rfl rfl _ _ HR2.out ?_))
        go_roundw
        case rel => exact ⟨k + 1, by omega, by go_num, HN⟩
        case measure => simp [intOf]; omega
    · obtain rfl : k = 64 := by omega
      have HII : Hid ((∃ v, slV g l.length cap = v ∧ KL w wr v (keysP x.l)) ∧ Touch [] w wr) := ⟨⟨_, rfl, g, cap, l, rfl, hKL, by rw [hbs, List.take_of_length_le HH.out.map.many]⟩, ht⟩
      generalize slV g l.length cap = v2 at *
      clear hKL hbs ht HI
      go_wp2
      go_ret
      obtain ⟨⟨v, rfl, h1⟩, h2⟩ := HII.out
      exact ⟨⟨_, rfl, h1⟩, h2⟩
end Go.Proofs.Ytlkppkgfnmlblaa
