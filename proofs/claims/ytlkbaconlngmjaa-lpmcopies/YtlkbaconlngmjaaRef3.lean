/-
  The document's own index: Keys; lists of keys that are alike.
-/
import Derived.Test.YtlkbaconlngmjaaRef2
namespace Go.Proofs.Ytlkbaconlngmjaa
open Go.RowKit
attribute [local go_sem ↓] Go.wp_at_zero Go.wp_at_succ

/-- append([]byte{}, k...). -/
theorem key_append {w : World} {k : KS} (h : k.At w) :
    ∃ g cap w', (Builtin.append_ #[32, 32] 32 #[.slice (some ⟨w.heap.size, 0, none⟩) 0 0, k.v]).run Try.prog (w.alloc (.cells #[] 5)) = .ok (.slice (some ⟨g, 0, none⟩) k.bs.length cap) w' ∧ (⟨g, cap, k.bs⟩ : KS).At w' ∧ Touch [] w w' ∧ w.heap.size ≤ g := by
  obtain ⟨i, hi0, hz, hs, hb⟩ := info_of info5
  have hE := Blk.newA w #[] [] 5 rfl
  have hta : Touch [] w (w.alloc (.cells #[] 5)) := (Touch.refl _ w).alloc _
  have hk := h.touch hta (by simp)
  have hrow : RowAt (w.alloc (.cells #[] 5)) 5 1 (some w.heap.size) 0 0 [] := ⟨rfl, Nat.le_refl _, by unfold maxLen; omega, [], by simpa using hE, by simp⟩
  have hl := h.2.2
  obtain ⟨g', cap', w', hr, h2, h3, h4, _⟩ := run_append_row (P := Try.prog) (w.alloc (.cells #[] 5)) 32 32 5 i (.int .u8 0) 1 Try.underlying32 hi0 hz hs rfl (by omega) (some w.heap.size) 0 0 [] hrow ⟨k.b, 0, none⟩ k.bs.length k.cap (k.bs.map (Value.int .u8)) (by simp)
    (fun j v hj => by
      rw [Addr.add_lit, Nat.zero_add]
      obtain ⟨⟨rest, hB⟩, _⟩ := hk
      exact hB.cell (by rw [List.getElem?_append_left (List.getElem?_eq_some_iff.1 hj).1]; exact hj))
    (fun u hu => by
      obtain ⟨x, _, rfl⟩ := List.mem_map.1 hu
      rfl) (by rw [hb]; omega) (by omega)
  simp only [Nat.zero_add, List.nil_append] at hr h2
  cases g' with
  | none =>
    have q1 := h2.2.1
    have q2 : cap' = 0 := h2.2.2.2
    omega
  | some g =>
    obtain ⟨_, hcp, _, rest, hB, _⟩ := h2
    refine ⟨g, cap', w', hr, ⟨⟨rest, hB.toF⟩, h.2.1, h.2.2.1, h.2.2.2.1, hcp⟩, hta.trans h3 (fun y hy => Or.inr (by simp at hy; omega)), ?_⟩
    rcases h4 with h4 | h4
    · injection h4 with h4; omega
    · injection h4 with h4
      rw [h4, World.size_alloc]
      omega

/-- One key put behind a list. -/
theorem KLs.push {w0 w : World} {g : Option Nat} {cap : Nat} {l : List KS} (h : KLs w0 w g cap l) (ht : Touch [] w0 w) (k : KS) (hk : k.At w) (hk0 : w0.heap.size ≤ k.b) (hg : g ≠ some k.b) (hl : l.length ≤ 1000) :
    ∃ g' cap' w', (Builtin.append_ #[38, 38] 38 #[slV g l.length cap, .slice (some ⟨w.heap.size, 0, none⟩) 1 1]).run Try.prog (w.alloc (.cells #[k.v] 32)) = .ok (slV g' (l.length + 1) cap') w' ∧ KLs w0 w' g' cap' (l ++ [k]) ∧ Touch [] w0 w' := by
  obtain ⟨i, hi0, hz, hs, hb⟩ := info_of info32
  have hN := Blk.newA w #[k.v] _ 32 rfl
  have hta : Touch [] w (w.alloc (.cells #[k.v] 32)) := (Touch.refl _ w).alloc _
  have hL := h.touch hta (by simp)
  obtain ⟨g', cap', w', hr, h2, h3, h4, h5⟩ := run_append_row (P := Try.prog) (w.alloc (.cells #[k.v] 32)) 38 38 32 i (.slice none 0 0) 1 Try.underlying38 hi0 hz hs rfl (by omega) g l.length cap _ hL.row ⟨w.heap.size, 0, none⟩ 1 1 [k.v] rfl
    (fun j u hj => by
      rw [Addr.add_lit]
      have : j = 0 := by have := (List.getElem?_eq_some_iff.1 hj).1; simp at this; exact this
      subst this
      exact hN.cell hj) (fun u hu => by
      simp only [List.mem_singleton] at hu
      subst hu
      rfl) (by rw [hb]; omega) (by omega)
  have ht2 := ht.trans hta (by simp)
  have hsz := ht2.size
  have hkeys : ∀ x ∈ l ++ [k], x.At w ∧ w0.heap.size ≤ x.b ∧ g ≠ some x.b := by
    intro x hx
    rcases List.mem_append.1 hx with hx | hx
    · exact h.keys x hx
    · simp only [List.mem_singleton] at hx
      subst hx
      exact ⟨hk, hk0, hg⟩
  refine ⟨g', cap', w', hr, ⟨by simpa using h2, fun b hb => ?_, fun x hx => ?_⟩, ht2.trans h3 (fun y hy => Or.inr (h.own y (by simpa using hy)))⟩
  · rcases h4 with rfl | rfl
    · exact h.own b hb
    · injection hb with hb
      omega
  · obtain ⟨a1, a2, a3⟩ := hkeys x hx
    refine ⟨(a1.touch hta (by simp)).touch h3 (fun hy => a3 (by simpa using hy)), a2, ?_⟩
    rcases h4 with rfl | rfl
    · exact a3
    · intro e
      injection e with e
      have := a1.lt
      rw [World.size_alloc] at e
      omega

/-- The keys that are held, by their slots. -/
def keysOf (l : List (Option KS)) : List (List Int) := l.filterMap (Option.map KS.bs)
theorem keysOf_snoc {l : List (Option KS)} {k : Nat} (hk : k < l.length) : keysOf (l.take (k + 1)) = keysOf (l.take k) ++ (match l.getD k none with
    | none => []
    | some x => [x.bs]) := by
  unfold keysOf
  rw [List.take_add_one, List.filterMap_append, List.getD_eq_getElem?_getD, List.getElem?_eq_getElem hk]
  cases l[k] <;> rfl

set_option maxHeartbeats 1000000 in
set_option maxRecDepth 100000 in
theorem rkeys_any {w : World} {x : RX} (h : RAt w x) (hn : x.slots.length ≤ 1000) :
    Calls Try.prog 13 #[.pointer (some ⟨x.r, 0, none⟩)] w fun e w' => (∃ v, e = .returned v ∧ KL w w' v (keysOf x.slots)) ∧ Touch [] w w' := by
  have c3 := h.c3
  have HH := toHid h
  unfold slV at c3
  generalize hsg : (x.g.map fun b => (⟨b, 0, none⟩ : Addr)) = sg at *
  generalize hln : x.slots.length = n at *
  have HL := toHid hln
  have HG := toHid hsg
  clear h hsg hln
  go_enter Try.func13, Try.ntmps13
  go_wp2_with fail
  clear c3
  go_loopw [3, 11] (fun o t w' => ∃ k : Nat, k ≤ n ∧ t = .int .i64 k ∧ Hid (∃ g cap l, o = slV g l.length cap ∧ KLs w w' g cap l ∧ l.map KS.bs = keysOf (x.slots.take k) ∧ l.length ≤ k ∧ Touch [] w w')) (fun _ t _ => n - (intOf t).toNat)
  case atStart => exact ⟨0, by omega, rfl, none, 0, [], rfl, ⟨⟨rfl, Nat.le_refl _, by unfold maxLen; omega, rfl⟩, fun b hb => (by cases hb), fun k hk => absurd hk (by simp)⟩, rfl, by simp, Touch.refl _ _⟩
  case round =>
    obtain ⟨k, hk, rfl, HI⟩ := hrel
    obtain ⟨g, cap, l, rfl, hKL, hbs, hll, ht⟩ := HI.out
    by_cases hlt : k < n
    · have hkl : k < x.slots.length := by rw [HL.out]; exact hlt
      have hget : x.slots[k]? = some (x.slots.getD k none) := by rw [List.getD_eq_getElem?_getD, List.getElem?_eq_getElem hkl]; rfl
      have hR := HH.out.touch ht (by simp)
      obtain ⟨b, hb, hc⟩ := hR.slot hget
      have hsg := HG.out
      rw [hb, Option.map_some] at hsg
      subst hsg
      have hks := keysOf_snoc hkl
      cases hs : x.slots.getD k none with
      | none =>
        rw [hs] at hc hks
        unfold slotV at hc
        have HN : Hid (∃ g' cap' l', slV g l.length cap = slV g' l'.length cap' ∧ KLs w wr g' cap' l' ∧ l'.map KS.bs = keysOf (x.slots.take (k + 1)) ∧ l'.length ≤ k + 1 ∧ Touch [] w wr) := ⟨g, cap, l, rfl, hKL, by rw [hks, hbs, List.append_nil], by omega, ht⟩
        unfold slV
        clear hget hs hkl hb hks hR hKL hbs ht HI
        go_wp2
        go_roundw
        case rel => exact ⟨k + 1, by omega, by go_num, HN⟩
        case measure => simp [intOf]; omega
      | some ks =>
        rw [hs] at hc hks
        unfold slotV at hc
        have hkA := hR.keys ks (by rw [hs] at hget; exact List.mem_of_getElem? hget)
        obtain ⟨g1, cap1, w1, hr1, hA1, ht1, hg1⟩ := key_append hkA
        have hgl : ∀ b, g = some b → b < wr.heap.size := fun b hb => by
          have := hKL.row.2.2.2
          rw [hb] at this
          obtain ⟨_, hB, _⟩ := this
          exact hB.lt
        obtain ⟨g2, cap2, w2, hr2, hK2, ht2⟩ := (hKL.touch ht1 (by simp)).push (ht.trans ht1 (by simp)) ⟨g1, cap1, ks.bs⟩ hA1 (by have := ht.size; show w.heap.size ≤ g1; omega) (fun e => by have := hgl g1 e; omega) (by omega)
        have HN : Hid (∃ g' cap' l', slV g2 (l.length + 1) cap2 = slV g' l'.length cap' ∧ KLs w w2 g' cap' l' ∧ l'.map KS.bs = keysOf (x.slots.take (k + 1)) ∧ l'.length ≤ k + 1 ∧ Touch [] w w2) := ⟨g2, cap2, l ++ [⟨g1, cap1, ks.bs⟩], by simp, hK2, by rw [hks, List.map_append, hbs]; rfl, by simp; omega, ht2⟩
        have HR1 := toHid hr1
        have HR2 := toHid hr2
        have e1 : (⟨g1, cap1, ks.bs⟩ : KS).v = .slice (some ⟨g1, 0, none⟩) ks.bs.length cap1 := rfl
        rw [e1] at HR2
        unfold KS.v at hc HR1
        clear hget hs hkl hb hks hR hKL hbs ht HI hr1 hr2 hkA hA1 ht1 hK2 ht2 hgl e1 hg1
        generalize hv2 : slV g2 (l.length + 1) cap2 = v2 at *
        clear hv2
        unfold slV at HR2 ⊢
        go_wp2_with (first | (at_builtin; refine Lib.wpList_append_run _ rfl _ _ _ _ rfl _ _ rfl rfl _ _ HR1.out ?_) | (at_builtin; refine Lib.wpList_append_run _ rfl _ _ _ _ rfl _ _ rfl rfl _ _ HR2.out ?_))
        go_roundw
        case rel => exact ⟨k + 1, by omega, by go_num, HN⟩
        case measure => simp [intOf]; omega
    · obtain rfl : k = n := by omega
      have HII : Hid ((∃ v, slV g l.length cap = v ∧ KL w wr v (keysOf x.slots)) ∧ Touch [] w wr) := ⟨⟨_, rfl, g, cap, l, rfl, hKL, by rw [hbs, ← HL.out, List.take_length]⟩, ht⟩
      generalize slV g l.length cap = v2 at *
      clear hKL hbs ht HI
      go_wp2
      go_ret
      obtain ⟨⟨v, rfl, h1⟩, h2⟩ := HII.out
      exact ⟨⟨_, rfl, h1⟩, h2⟩

theorem KLs.at_ {w0 w : World} {g : Option Nat} {cap : Nat} {l : List KS} (h : KLs w0 w g cap l) {j : Nat} (hj : j < l.length) : ∃ b k, g = some b ∧ l[j]? = some k ∧ w.cell? ⟨b, j, none⟩ = some k.v ∧ k.At w := by
  have hget : l[j]? = some l[j] := List.getElem?_eq_getElem hj
  have hr := h.row
  cases hg : g with
  | none =>
    rw [hg] at hr
    have h1 := hr.2.1
    have h2 : cap = 0 := hr.2.2.2
    omega
  | some b =>
    rw [hg] at hr
    obtain ⟨_, _, _, rest, hB, _⟩ := hr
    refine ⟨b, l[j], rfl, hget, hB.cell ?_, (h.keys _ (List.mem_of_getElem? hget)).1⟩
    rw [List.getElem?_append_left (by simpa using hj), List.getElem?_map, hget]
    rfl

set_option maxHeartbeats 1000000 in
set_option maxRecDepth 100000 in
theorem sameKeys_any {w w1 w2 : World} {a b : Value} {ks : List (List Int)} (ha : KL w1 w a ks) (hb : KL w2 w b ks) (hn : ks.length ≤ 1000) :
    Calls Try.prog 11 #[a, b] w fun e w' => e = .returned (.bool true) ∧ Touch [] w w' := by
  obtain ⟨g, cap, l, rfl, hK, hl⟩ := ha
  obtain ⟨g2, cap2, l2, rfl, hK2, hl2⟩ := hb
  have e1 : l.length = ks.length := by rw [← hl, List.length_map]
  have e2 : l2.length = ks.length := by rw [← hl2, List.length_map]
  have HK := toHid (And.intro hK (And.intro hK2 (And.intro hl (And.intro hl2 (And.intro e1 e2)))))
  rw [e1, e2]
  unfold slV
  generalize hsg : (g.map fun b => (⟨b, 0, none⟩ : Addr)) = sg at *
  generalize hsg2 : (g2.map fun b => (⟨b, 0, none⟩ : Addr)) = sg2 at *
  generalize hn2 : ks.length = n at *
  have HG := toHid (And.intro hsg (And.intro hsg2 hn2))
  clear hK hK2 hl hl2 e1 e2 hsg hsg2 hn2
  go_enter Try.func11, Try.ntmps11
  go_wp2_with fail
  go_loopw [13] (fun t w' => ∃ k : Nat, k ≤ n ∧ t = .int .i64 k ∧ Hid (Touch [] w w')) (fun t _ => n - (intOf t).toNat)
  case atStart => exact ⟨0, by omega, rfl, Touch.refl _ _⟩
  case round =>
    obtain ⟨k, hk, rfl, HI⟩ := hrel
    by_cases hlt : k < n
    · obtain ⟨hK, hK2, hl, hl2, e1, e2⟩ := HK.out
      obtain ⟨b1, k1, hb1, hg1, hc1, hA1⟩ := hK.at_ (j := k) (by omega)
      obtain ⟨b2, k2, hb2, hg2, hc2, hA2⟩ := hK2.at_ (j := k) (by omega)
      have hbb : k1.bs = k2.bs := by
        have h1 : (l.map KS.bs)[k]? = some k1.bs := by rw [List.getElem?_map, hg1]; rfl
        have h2 : (l2.map KS.bs)[k]? = some k2.bs := by rw [List.getElem?_map, hg2]; rfl
        rw [hl] at h1
        rw [hl2, h1] at h2
        exact Option.some.inj h2
      obtain ⟨hs1, hs2, _⟩ := HG.out
      rw [hb1, Option.map_some] at hs1
      rw [hb2, Option.map_some] at hs2
      subst hs1
      subst hs2
      have hcv1 := (hA1.touch HI.out.drew (by simp)).key.conv k1.cap
      have hcv2 := (hA2.touch HI.out.drew (by simp)).key.conv k2.cap
      rw [hbb] at hcv1
      replace hc1 := HI.out.drew.cell hc1 (by simp)
      replace hc2 := HI.out.drew.cell hc2 (by simp)
      unfold KS.v at hc1 hc2
      rw [hbb] at hc1
      generalize strOfNums k2.bs = A at *
      generalize k2.bs.length = q at *
      clear hK hK2 hl hl2 e1 e2 hb1 hb2 hg1 hg2 hA1 hA2 hbb
      go_wp2_with fail
      refine wp_region_held_drew (S := (fun w' => w'.cell? ⟨b1, k, none⟩ = some (.slice (some ⟨k1.b, 0, none⟩) q k1.cap) ∧ w'.cell? ⟨b2, k, none⟩ = some (.slice (some ⟨k2.b, 0, none⟩) q k2.cap) ∧ (convert 32 9 (.slice (some ⟨k1.b, 0, none⟩) q k1.cap)).run Try.prog w' = .ok (.string A) w' ∧ (convert 32 9 (.slice (some ⟨k2.b, 0, none⟩) q k2.cap)).run Try.prog w' = .ok (.string A) w')) (by kernel_rfl) ?_ (fun hHeld => ?_)
      · exact ⟨hc1, hc2, hcv1, hcv2⟩
      refine wpAnyH_take (i := 0) (v := ?_) rfl (by kernel_rfl) (by kernel_rfl) (by kernel_rfl) (fun _ _ _ h => h) (Or.inl ⟨by rfl, ?_⟩) (by assumption) ?_
      rotate_left
      · (intro w hSw; (try dsimp only at hSw); go_simp; try with_reducible rfl)
      simp only [Act.put, List.getElem_toArray, List.getElem_cons_zero, List.setIfInBounds_toArray, List.set_cons_zero, List.set_cons_succ]
      refine wpAnyH_take (i := 1) (v := ?_) rfl (by kernel_rfl) (by kernel_rfl) (by kernel_rfl) (fun _ _ _ h => h) (Or.inl ⟨by rfl, ?_⟩) (by assumption) ?_
      rotate_left
      · (intro w hSw; (try dsimp only at hSw); go_simp; try with_reducible rfl)
      simp only [Act.put, List.getElem_toArray, List.getElem_cons_zero, List.getElem_cons_succ, List.setIfInBounds_toArray, List.set_cons_zero, List.set_cons_succ]
      refine wpAnyH_take (i := 2) (v := ?_) rfl (by kernel_rfl) (by kernel_rfl) (by kernel_rfl) (fun _ _ _ h => h) (Or.inl ⟨by rfl, ?_⟩) (by assumption) ?_
      rotate_left
      · (intro w hSw; (try dsimp only at hSw); go_simp; try with_reducible rfl)
      simp only [Act.put, List.getElem_toArray, List.getElem_cons_zero, List.getElem_cons_succ, List.setIfInBounds_toArray, List.set_cons_zero, List.set_cons_succ]
      refine wpAnyH_take (i := 3) (v := ?_) rfl (by kernel_rfl) (by kernel_rfl) (by kernel_rfl) (fun _ _ _ h => h) (Or.inl ⟨by rfl, ?_⟩) (by assumption) ?_
      rotate_left
      · (intro w hSw; (try dsimp only at hSw); go_simp; try with_reducible rfl)
      simp only [Act.put, List.getElem_toArray, List.getElem_cons_zero, List.getElem_cons_succ, List.setIfInBounds_toArray, List.set_cons_zero, List.set_cons_succ]
      refine wpAnyH_take (i := 4) (v := ?_) rfl (by kernel_rfl) (by kernel_rfl) (by kernel_rfl) (fun _ _ _ h => h) (Or.inl ⟨by rfl, ?_⟩) (by assumption) ?_
      rotate_left
      · (intro w hSw; (try dsimp only at hSw); go_simp; try with_reducible rfl)
      simp only [Act.put, List.getElem_toArray, List.getElem_cons_zero, List.getElem_cons_succ, List.setIfInBounds_toArray, List.set_cons_zero, List.set_cons_succ]
      refine wpAnyH_take (i := 5) (v := ?_) rfl (by kernel_rfl) (by kernel_rfl) (by kernel_rfl) (fun _ _ _ h => h) (Or.inl ⟨by rfl, ?_⟩) (by assumption) ?_
      rotate_left
      · (intro w hSw; (try dsimp only at hSw); go_simp; try with_reducible rfl)
      simp only [Act.put, List.getElem_toArray, List.getElem_cons_zero, List.getElem_cons_succ, List.setIfInBounds_toArray, List.set_cons_zero, List.set_cons_succ]
      refine wpAnyH_take (i := 6) (v := ?_) rfl (by kernel_rfl) (by kernel_rfl) (by kernel_rfl) (fun _ _ _ h => h) (Or.inl ⟨by rfl, ?_⟩) (by assumption) ?_
      rotate_left
      · (intro w hSw; (try dsimp only at hSw); go_simp; try with_reducible rfl)
      simp only [Act.put, List.getElem_toArray, List.getElem_cons_zero, List.getElem_cons_succ, List.setIfInBounds_toArray, List.set_cons_zero, List.set_cons_succ]
      refine wpAnyH_take (i := 7) (v := ?_) rfl (by kernel_rfl) (by kernel_rfl) (by kernel_rfl) (fun _ _ _ h => h) (Or.inl ⟨by rfl, ?_⟩) (by assumption) ?_
      rotate_left
      · (intro w hSw; (try dsimp only at hSw); go_simp; try with_reducible rfl)
      simp only [Act.put, List.getElem_toArray, List.getElem_cons_zero, List.getElem_cons_succ, List.setIfInBounds_toArray, List.set_cons_zero, List.set_cons_succ]
      refine wpAnyH_take (i := 8) (v := ?_) rfl (by kernel_rfl) (by kernel_rfl) (by kernel_rfl) (fun _ _ _ h => h) (Or.inl ⟨by rfl, ?_⟩) (by assumption) ?_
      rotate_left
      · (intro w hSw; (try dsimp only at hSw); go_simp; try with_reducible rfl)
      simp only [Act.put, List.getElem_toArray, List.getElem_cons_zero, List.getElem_cons_succ, List.setIfInBounds_toArray, List.set_cons_zero, List.set_cons_succ]
      refine wpAnyH_take (i := 9) (v := ?_) rfl (by kernel_rfl) (by kernel_rfl) (by kernel_rfl) (fun _ _ _ h => h) (Or.inl ⟨by rfl, ?_⟩) (by assumption) ?_
      rotate_left
      · (intro w hSw; (try dsimp only at hSw); go_simp; try with_reducible rfl)
      simp only [Act.put, List.getElem_toArray, List.getElem_cons_zero, List.getElem_cons_succ, List.setIfInBounds_toArray, List.set_cons_zero, List.set_cons_succ]
      refine wpAnyH_take (i := 10) (v := ?_) rfl (by kernel_rfl) (by kernel_rfl) (by kernel_rfl) (fun _ _ _ h => h) (Or.inl ⟨by rfl, ?_⟩) (by assumption) ?_
      rotate_left
      · (intro w hSw; (try dsimp only at hSw); go_simp; try with_reducible rfl)
      simp only [Act.put, List.getElem_toArray, List.getElem_cons_zero, List.getElem_cons_succ, List.setIfInBounds_toArray, List.set_cons_zero, List.set_cons_succ]
      refine wpAnyH_done (by kernel_rfl) ?_ _
      go_wp2
      go_roundw
      case rel => exact ⟨k + 1, by omega, by go_num, HI.out.drew⟩
      case measure => simp [intOf]; omega
    · obtain rfl : k = n := by omega
      go_wp2
      go_ret
      exact ⟨rfl, HI.out⟩
end Go.Proofs.Ytlkbaconlngmjaa
