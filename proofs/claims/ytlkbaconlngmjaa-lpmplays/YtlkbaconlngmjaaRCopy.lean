/-
  The document's own Copy.
-/
import Derived.Test.YtlkbaconlngmjaaRPush
import Derived.Lib.SliceRun
namespace Go.Proofs.Ytlkbaconlngmjaa
open Go.RowKit
attribute [local go_sem ↓] Go.wp_at_zero Go.wp_at_succ

theorem step_append_known {P : Program} {ops : Array Oper} {o : Oper} {a : Act} {w : World} {K : Act → World → Prop} {Q : Exit → Act → World → Prop} {E : Prop}
    (hg : o.guard = none) (d x : Operand) (dT sT : TypeId) (hop : o.op = Op.call { callee := Callee.builtin Builtin.append, args := #[d, x], argTypes := #[dT, sT] })
    (v u : Value) (hd : a.eval d = v) (hx : a.eval x = u) {v' : Value} {w' : World} (hr : (Builtin.append_ #[dT, sT] o.type #[v, u]).run P w = .ok v' w') (hK : K (a.put o.dst v') w') :
    if Region.wanted o (yielded ops a.tmps) = true then Oper.wp P o a w K Q else E := by
  rw [if_pos (by simp [Region.wanted, hg])]
  unfold Oper.wp
  simp only [execOp, hop, resolve, invoke, builtin, Sem.run_bind, Sem.run_pure, Result.andThen_ok, List.map_toArray, List.map_cons, List.map_nil, hd, hx, hr]
  exact hK

/-- What has been copied: i slots, j times. -/
structure CopyAt (w w' : World) (x t : RX) (i j : Nat) : Prop where
  ref : RAt w' t
  kind : t.kind = x.kind
  size : t.size = x.size
  max : t.max = x.max
  clock : t.clock = x.clock
  slots : t.slots.map (Option.map KS.bs) = (x.slots.take i).map (Option.map KS.bs)
  whens : t.whens = x.whens.take j
  own : ∀ b ∈ t.blocks, w.heap.size ≤ b
  touch : Touch [] w w'
theorem CopyAt.len {w w' : World} {x t : RX} {i j : Nat} (h : CopyAt w w' x t i j) (hi : i ≤ x.slots.length) : t.slots.length = i := by
  have := congrArg List.length h.slots
  simp at this
  omega
theorem CopyAt.lenW {w w' : World} {x t : RX} {i j : Nat} (h : CopyAt w w' x t i j) (hj : j ≤ x.whens.length) : t.whens.length = j := by
  rw [h.whens]
  simp
  omega
theorem CopyAt.still {w w' w2 : World} {x t : RX} {i j : Nat} (h : CopyAt w w' x t i j) (ht : Touch [] w' w2) : CopyAt w w2 x t i j :=
  ⟨h.ref.touch ht (by simp), h.kind, h.size, h.max, h.clock, h.slots, h.whens, h.own, h.touch.trans ht (by simp)⟩

set_option maxHeartbeats 8000000 in
set_option maxRecDepth 100000 in
theorem rcopy_any {w : World} {x : RX} (h : RAt w x) (u : RUp x) :
    Calls Try.prog 18 #[.pointer (some ⟨x.r, 0, none⟩)] w fun e w' => ∃ t, e = .returned (.pointer (some ⟨t.r, 0, none⟩)) ∧ CopyAt w w' x t x.slots.length x.slots.length := by
  have c0 := h.c0
  have c1 := h.c1
  have c2 := h.c2
  have c5 := h.c5
  have HH := toHid (And.intro h u)
  have hn := u.many
  have HL := toHid u.lens
  generalize hln : x.slots.length = n at *
  have HN := toHid hln
  clear h u hln
  go_enter Try.func18, Try.ntmps18
  go_upto_region 1 with fail
  go_region
  have hB := Blk.newA w #[.int .i64 x.kind, .int .i64 x.size, .int .i64 x.max, .slice none 0 0, .slice none 0 0, .int .i64 x.clock] _ 61 rfl
  have ht1 := ((Touch.refl [] w).alloc (.cells #[.int .i64 x.kind, .int .i64 x.size, .int .i64 x.max, .slice none 0 0, .slice none 0 0, .int .i64 x.clock] 61)).drew
  have hZ : CopyAt w (w.alloc (.cells #[.int .i64 x.kind, .int .i64 x.size, .int .i64 x.max, .slice none 0 0, .slice none 0 0, .int .i64 x.clock] 61)).drew x ⟨w.heap.size, x.kind, x.size, x.max, x.clock, none, 0, none, 0, [], []⟩ 0 0 :=
    ⟨⟨hB.drew, ⟨rfl, Nat.le_refl _, Nat.zero_le _, rfl⟩, ⟨rfl, Nat.le_refl _, Nat.zero_le _, rfl⟩, fun k hk => absurd hk (by simp), by simp [RX.top], fun k hk => absurd hk (by simp)⟩, rfl, rfl, rfl, rfl, rfl, by simp, fun b hb => by simp [RX.blocks, RX.top] at hb; omega, ht1⟩
  have HZ := toHid hZ
  have c3 := (HH.out.1.touch ht1 (by simp)).c3
  rw [HN.out] at c3
  unfold slV at c3
  generalize hsg : (x.g.map fun b => (⟨b, 0, none⟩ : Addr)) = sg at c3
  have HG := toHid hsg
  clear hsg hB ht1 hZ c0 c1 c2 c5
  go_wp2_with fail
  generalize w.heap.size = O at *
  generalize World.drew _ = w1 at *
  clear c3
  go_loopw [29] (fun i w' => ∃ k : Nat, k ≤ n ∧ i = .int .i64 k ∧ Hid (∃ t, CopyAt w w' x t k k ∧ t.r = O)) (fun i _ => n - (intOf i).toNat)
  case atStart => exact ⟨0, by omega, rfl, _, HZ.out, rfl⟩
  case round =>
    clear HZ
    obtain ⟨k, hk, rfl, HI⟩ := hrel
    by_cases hlt : k < n
    · obtain ⟨t, hC, htO⟩ := HI.out
      have hkl : k < x.slots.length := by rw [HN.out]; exact hlt
      have hget : x.slots[k]? = some (x.slots.getD k none) := by rw [List.getD_eq_getElem?_getD, List.getElem?_eq_getElem hkl]; rfl
      have hxr := HH.out.1.touch hC.touch (by simp)
      obtain ⟨b, hb, hc⟩ := hxr.slot hget
      have hsg := HG.out
      rw [hb, Option.map_some] at hsg
      subst hsg
      have HGET := toHid (And.intro hkl hget)
      generalize hs : x.slots.getD k none = s at *
      have HSS := toHid hs
      -- the time
      have hx0 := hxr.touch ((Touch.refl [] wr).drew) (by simp)
      have hC0 := hC.still ((Touch.refl [] wr).drew)
      obtain ⟨hbk, rest, hhb, hHB⟩ := hx0.when (j := k) (by rw [HL.out]; exact hlt)
      have d4 := hx0.c4
      rw [hhb, HL.out, slV_some] at d4
      have hv := hHB.cell (i := k) (v := .int .i64 (x.whens.getD k 0)) (by
        rw [List.getElem?_append_left (by rw [List.length_map, HL.out]; exact hlt), List.getElem?_map, List.getD_eq_getElem?_getD, List.getElem?_eq_getElem (by rw [HL.out]; exact hlt)]
        rfl)
      have hlw := hC.lenW (by rw [HL.out]; exact hk)
      have hls := hC.len (by rw [HN.out]; exact hk)
      obtain ⟨g1, cap1, w2, hr1, e1, e2, hR2, ht2, ht3, hbl⟩ := hC0.ref.pushW (by rw [hlw]; omega) (x.whens.getD k 0)
      have hapart : ∀ b ∈ x.blocks, b ∉ t.top := fun b hbx hbt => by
        have h1 := HH.out.1.lt b hbx
        have h2 := hC.own b (RX.mem_top hbt)
        omega
      have hta := (Touch.refl [] wr.drew).alloc (.cells #[.int .i64 (x.whens.getD k 0)] 3)
      have HF5 : Hid (∃ t', CopyAt w (w2.setCell ⟨t.r, 4, none⟩ (slV g1 (k + 1) cap1)) x t' k (k + 1) ∧ t'.r = O) := by
        rw [hlw] at hR2 ht3
        refine ⟨_, ⟨hR2, hC.kind, hC.size, hC.max, hC.clock, hC.slots, ?_, ?_, ?_⟩, htO⟩
        · show t.whens ++ [x.whens.getD k 0] = x.whens.take (k + 1)
          rw [hC.whens, List.take_add_one, List.getD_eq_getElem?_getD, List.getElem?_eq_getElem (by rw [HL.out]; exact hlt)]
          rfl
        · intro b hb
          rcases hbl b hb with hb | hb
          · exact hC.own b hb
          · have := hC0.touch.size
            omega
        · exact hC0.touch.trans ht3 (fun b hb => Or.inr (hC.own b (RX.mem_top hb)))
      have HS0 := toHid (And.intro d4 hv)
      have HS1 := toHid (And.intro (hta.cell d4 (by simp)) (hta.cell hv (by simp)))
      have HS2 := toHid (And.intro (ht2.cell d4 (hapart _ (RX.mem_top x.mem_r))) (ht2.cell hv (hapart _ (RX.mem_top (RX.mem_h hhb)))))
      have HS3 := toHid (And.intro (ht3.cell d4 (hapart _ (RX.mem_top x.mem_r))) (ht3.cell hv (hapart _ (RX.mem_top (RX.mem_h hhb)))))
      have o4 := hC0.ref.c4
      have o4' := ((Touch.refl [] wr).alloc (.cells #[.int .i64 (x.whens.getD k 0)] 3)).cell hC.ref.c4 (by simp)
      have hsz : wr.drew.heap.size = wr.heap.size := rfl
      rw [hlw] at hr1 e1 o4 o4' HS3
      rw [htO] at e1 e2 o4 o4' HF5 HS3
      rw [hsz] at hr1
      unfold slV at hr1 e1 o4 o4' HF5 HS3
      generalize (g1.map fun b => (⟨b, 0, none⟩ : Addr)) = gg1 at *
      generalize (t.h.map fun b => (⟨b, 0, none⟩ : Addr)) = th at *
      generalize t.wcap = twc at *
      generalize x.whens.getD k 0 = v at *
      have HR1 := toHid hr1
      clear hr1 hR2 ht2 ht3 hbl hapart hta hC hC0 hx0 hxr htO HI hHB hhb d4 hv hb hget hkl hs hlw hls hsz
      go_upto_region 5 with fail
      go_cut [34] from 34 to 49 (fun _ wx => Hid (∃ t', CopyAt w wx x t' k (k + 1) ∧ t'.r = O))
      case first =>
        refine wp_region_held_drew (S := (fun w' => w'.cell? ⟨x.r, 4, none⟩ = some (.slice (some ⟨hbk, 0, none⟩) n x.wcap) ∧ w'.cell? ⟨hbk, k, none⟩ = some (.int .i64 v))) (by kernel_rfl) ?_ (fun hHeld => ?_)
        · exact HS0.out
        refine wpAnyH_take (i := 0) (v := ?_) rfl (by kernel_rfl) (by kernel_rfl) (by kernel_rfl) (fun _ _ _ h => h) (Or.inl ⟨by rfl, ?_⟩) (by assumption) ?_
        rotate_left
        · (intro w hSw; (try dsimp only at hSw); go_simp; try with_reducible rfl)
        simp only [Act.put, List.getElem_toArray, List.getElem_cons_zero, List.setIfInBounds_toArray, List.set_cons_zero, List.set_cons_succ]
        refine wpAnyH_take (i := 1) (v := ?_) rfl (by kernel_rfl) (by kernel_rfl) (by kernel_rfl) (fun _ _ _ h => h) (Or.inl ⟨by rfl, ?_⟩) (by assumption) ?_
        rotate_left
        · (intro w hSw; (try dsimp only at hSw); go_simp; try with_reducible rfl)
        simp only [Act.put, List.getElem_toArray, List.getElem_cons_zero, List.getElem_cons_succ, List.setIfInBounds_toArray, List.set_cons_zero, List.set_cons_succ]
        refine wpAnyH_take (i := 2) (v := ?_) rfl (by kernel_rfl) (by kernel_rfl) (by kernel_rfl) (fun _ _ _ h => h) (Or.inl ⟨by rfl, ?_⟩) (by assumption) ?_
        rotate_left
        · (intro w hSw; (try dsimp only at hSw); go_simp; try with_reducible rfl)
        simp only [Act.put, List.getElem_toArray, List.getElem_cons_zero, List.getElem_cons_succ, List.setIfInBounds_toArray, List.set_cons_zero, List.set_cons_succ]
        refine wpAnyH_take (i := 3) (v := ?_) rfl (by kernel_rfl) (by kernel_rfl) (by kernel_rfl) (fun _ _ _ h => h) (Or.inl ⟨by rfl, ?_⟩) (by assumption) ?_
        rotate_left
        · (intro w hSw; (try dsimp only at hSw); go_simp; try with_reducible rfl)
        simp only [Act.put, List.getElem_toArray, List.getElem_cons_zero, List.getElem_cons_succ, List.setIfInBounds_toArray, List.set_cons_zero, List.set_cons_succ]
        refine wpAnyH_take (i := 5) (v := ?_) rfl (by kernel_rfl) (by kernel_rfl) (by kernel_rfl) (fun _ _ _ h => h) (Or.inl ⟨by rfl, ?_⟩) (by assumption) ?_
        rotate_left
        · (intro w hSw; (try dsimp only at hSw); go_simp; try with_reducible rfl)
        simp only [Act.put, List.getElem_toArray, List.getElem_cons_zero, List.getElem_cons_succ, List.setIfInBounds_toArray, List.set_cons_zero, List.set_cons_succ]
        refine wpAnyH_take (i := 6) (v := ?_) rfl (by kernel_rfl) (by kernel_rfl) (by kernel_rfl) (fun _ _ _ h => h) (Or.inl ⟨by rfl, ?_⟩) (by assumption) ?_
        rotate_left
        · (intro w hSw; (try dsimp only at hSw); go_simp; try with_reducible rfl)
        simp only [Act.put, List.getElem_toArray, List.getElem_cons_zero, List.getElem_cons_succ, List.setIfInBounds_toArray, List.set_cons_zero, List.set_cons_succ]
        refine wpAnyH_take (i := 7) (v := ?_) rfl (by kernel_rfl) (by kernel_rfl) (by kernel_rfl) (fun _ _ _ h => h) (Or.inl ⟨by rfl, ?_⟩) (by assumption) ?_
        rotate_left
        · (intro w hSw; (try dsimp only at hSw); go_simp; try with_reducible rfl)
        simp only [Act.put, List.getElem_toArray, List.getElem_cons_zero, List.getElem_cons_succ, List.setIfInBounds_toArray, List.set_cons_zero, List.set_cons_succ]
        refine wpAnyH_take (i := 8) (v := ?_) rfl (by kernel_rfl) (by kernel_rfl) (by kernel_rfl) (fun _ _ _ h => h) (Or.inl ⟨by rfl, ?_⟩) (by assumption) ?_
        rotate_left
        · (intro w hSw; (try dsimp only at hSw); go_simp; try with_reducible rfl)
        simp only [Act.put, List.getElem_toArray, List.getElem_cons_zero, List.getElem_cons_succ, List.setIfInBounds_toArray, List.set_cons_zero, List.set_cons_succ]
        refine wpAnyH_take (i := 9) (v := ?_) rfl (by kernel_rfl) (by kernel_rfl) (by kernel_rfl) (fun _ _ _ h => h) (Or.inl ⟨by rfl, ?_⟩) (by assumption) ?_
        rotate_left
        · (intro w hSw; (try dsimp only at hSw); go_simp; try with_reducible rfl)
        simp only [Act.put, List.getElem_toArray, List.getElem_cons_zero, List.getElem_cons_succ, List.setIfInBounds_toArray, List.set_cons_zero, List.set_cons_succ]
        refine wpAnyH_take (i := 10) (v := ?_) rfl (by kernel_rfl) (by kernel_rfl) (by kernel_rfl) (fun _ _ _ h => h) (Or.inl ⟨by rfl, ?_⟩) (by assumption) ?_
        rotate_left
        · (intro w hSw; (try dsimp only at hSw); go_simp; try with_reducible rfl)
        simp only [Act.put, List.getElem_toArray, List.getElem_cons_zero, List.getElem_cons_succ, List.setIfInBounds_toArray, List.set_cons_zero, List.set_cons_succ]
        refine wpAnyH_take (i := 11) (v := ?_) rfl (by kernel_rfl) (by kernel_rfl) (by kernel_rfl) (fun _ _ _ h => h) (Or.inl ⟨by rfl, ?_⟩) (by assumption) ?_
        rotate_left
        · (intro w hSw; (try dsimp only at hSw); go_simp; try with_reducible rfl)
        simp only [Act.put, List.getElem_toArray, List.getElem_cons_zero, List.getElem_cons_succ, List.setIfInBounds_toArray, List.set_cons_zero, List.set_cons_succ]
        refine wpAnyH_ready (rs := [4, 12]) (by kernel_rfl) (by simp) ?_
        refine (AllReadyH.cons rfl (fun K hK => ?_) (AllReadyH.cons rfl (fun K hK => ?_) AllReadyH.nil))
        · simp only [List.getElem_toArray, List.getElem_cons_zero, List.getElem_cons_succ]
          go_simp
          refine hK.out _ _ ?_ (fun hHeld => ?_)
          · exact HS0.out
          clear hK K
          try simp only [Act.put, List.getElem_toArray, List.getElem_cons_zero, List.getElem_cons_succ, List.setIfInBounds_toArray, List.set_cons_zero, List.set_cons_succ]
          refine wpAnyH_ready (rs := [12]) (by kernel_rfl) (by simp) ?_
          refine (AllReadyH.cons rfl (fun K hK => ?_) AllReadyH.nil)
          simp only [List.getElem_toArray, List.getElem_cons_zero, List.getElem_cons_succ]
          go_simp
          refine hK.out _ _ ?_ (fun hHeld => ?_)
          · exact HS1.out
          clear hK K
          try simp only [Act.put, List.getElem_toArray, List.getElem_cons_zero, List.getElem_cons_succ, List.setIfInBounds_toArray, List.set_cons_zero, List.set_cons_succ]
          refine wpAnyH_ready (rs := [13]) (by kernel_rfl) (by simp) ?_
          refine (AllReadyH.cons rfl (fun K hK => ?_) AllReadyH.nil)
          refine step_append_known rfl (.tmp 38) (.tmp 46) 59 59 rfl (.slice th k twc) (.slice (some ⟨wr.heap.size, 0, none⟩) 1 1) (by simp [Act.eval]) (by simp [Act.eval]) HR1.out ?_
          refine hK.out _ _ ?_ (fun hHeld => ?_)
          · exact HS2.out
          clear hK K
          try simp only [Act.put, List.getElem_toArray, List.getElem_cons_zero, List.getElem_cons_succ, List.setIfInBounds_toArray, List.set_cons_zero, List.set_cons_succ]
          refine wpAnyH_take (i := 14) (v := ?_) rfl (by kernel_rfl) (by kernel_rfl) (by kernel_rfl) (fun _ _ _ h => h) (Or.inl ⟨by rfl, ?_⟩) (by assumption) ?_
          rotate_left
          · (intro w hSw; (try dsimp only at hSw); go_simp; try with_reducible rfl)
          simp only [Act.put, List.getElem_toArray, List.getElem_cons_zero, List.getElem_cons_succ, List.setIfInBounds_toArray, List.set_cons_zero, List.set_cons_succ]
          refine wpAnyH_take (i := 15) (v := ?_) rfl (by kernel_rfl) (by kernel_rfl) (by kernel_rfl) (fun _ _ _ h => h) (Or.inl ⟨by rfl, ?_⟩) (by assumption) ?_
          rotate_left
          · (intro w hSw; (try dsimp only at hSw); go_simp; try with_reducible rfl)
          simp only [Act.put, List.getElem_toArray, List.getElem_cons_zero, List.getElem_cons_succ, List.setIfInBounds_toArray, List.set_cons_zero, List.set_cons_succ]
          refine wpAnyH_ready (rs := [16]) (by kernel_rfl) (by simp) ?_
          refine (AllReadyH.cons rfl (fun K hK => ?_) AllReadyH.nil)
          simp only [List.getElem_toArray, List.getElem_cons_zero, List.getElem_cons_succ]
          go_simp
          refine hK.out _ _ ?_ (fun hHeld => ?_)
          · exact HS3.out
          clear hK K
          try simp only [Act.put, List.getElem_toArray, List.getElem_cons_zero, List.getElem_cons_succ, List.setIfInBounds_toArray, List.set_cons_zero, List.set_cons_succ]
          refine wpAnyH_done (by kernel_rfl) ?_ _
          go_wp2
          go_meet
          exact HF5
        · simp only [List.getElem_toArray, List.getElem_cons_zero, List.getElem_cons_succ]
          go_simp
          refine hK.out _ _ ?_ (fun hHeld => ?_)
          · exact HS1.out
          clear hK K
          try simp only [Act.put, List.getElem_toArray, List.getElem_cons_zero, List.getElem_cons_succ, List.setIfInBounds_toArray, List.set_cons_zero, List.set_cons_succ]
          refine wpAnyH_ready (rs := [4]) (by kernel_rfl) (by simp) ?_
          refine (AllReadyH.cons rfl (fun K hK => ?_) AllReadyH.nil)
          simp only [List.getElem_toArray, List.getElem_cons_zero, List.getElem_cons_succ]
          go_simp
          refine hK.out _ _ ?_ (fun hHeld => ?_)
          · exact HS1.out
          clear hK K
          try simp only [Act.put, List.getElem_toArray, List.getElem_cons_zero, List.getElem_cons_succ, List.setIfInBounds_toArray, List.set_cons_zero, List.set_cons_succ]
          refine wpAnyH_ready (rs := [13]) (by kernel_rfl) (by simp) ?_
          refine (AllReadyH.cons rfl (fun K hK => ?_) AllReadyH.nil)
          refine step_append_known rfl (.tmp 38) (.tmp 46) 59 59 rfl (.slice th k twc) (.slice (some ⟨wr.heap.size, 0, none⟩) 1 1) (by simp [Act.eval]) (by simp [Act.eval]) HR1.out ?_
          refine hK.out _ _ ?_ (fun hHeld => ?_)
          · exact HS2.out
          clear hK K
          try simp only [Act.put, List.getElem_toArray, List.getElem_cons_zero, List.getElem_cons_succ, List.setIfInBounds_toArray, List.set_cons_zero, List.set_cons_succ]
          refine wpAnyH_take (i := 14) (v := ?_) rfl (by kernel_rfl) (by kernel_rfl) (by kernel_rfl) (fun _ _ _ h => h) (Or.inl ⟨by rfl, ?_⟩) (by assumption) ?_
          rotate_left
          · (intro w hSw; (try dsimp only at hSw); go_simp; try with_reducible rfl)
          simp only [Act.put, List.getElem_toArray, List.getElem_cons_zero, List.getElem_cons_succ, List.setIfInBounds_toArray, List.set_cons_zero, List.set_cons_succ]
          refine wpAnyH_take (i := 15) (v := ?_) rfl (by kernel_rfl) (by kernel_rfl) (by kernel_rfl) (fun _ _ _ h => h) (Or.inl ⟨by rfl, ?_⟩) (by assumption) ?_
          rotate_left
          · (intro w hSw; (try dsimp only at hSw); go_simp; try with_reducible rfl)
          simp only [Act.put, List.getElem_toArray, List.getElem_cons_zero, List.getElem_cons_succ, List.setIfInBounds_toArray, List.set_cons_zero, List.set_cons_succ]
          refine wpAnyH_ready (rs := [16]) (by kernel_rfl) (by simp) ?_
          refine (AllReadyH.cons rfl (fun K hK => ?_) AllReadyH.nil)
          simp only [List.getElem_toArray, List.getElem_cons_zero, List.getElem_cons_succ]
          go_simp
          refine hK.out _ _ ?_ (fun hHeld => ?_)
          · exact HS3.out
          clear hK K
          try simp only [Act.put, List.getElem_toArray, List.getElem_cons_zero, List.getElem_cons_succ, List.setIfInBounds_toArray, List.set_cons_zero, List.set_cons_succ]
          refine wpAnyH_done (by kernel_rfl) ?_ _
          go_wp2
          go_meet
          exact HF5
      case rest =>
        generalize hw5 : wc = w5 at *
        clear hw5 HS0 HS1 HS2 HS3 HF5 HR1 o4 o4' e1 e2
        obtain ⟨t2, hC, htO⟩ := hcut.out
        have hls := hC.len (by rw [HN.out]; exact hk)
        have htk : x.slots.take (k + 1) = x.slots.take k ++ [s] := by
          rw [List.take_add_one, HGET.out.2]
          rfl
        have hnil : ∀ (w : World) (a : Option Addr) (n c : Nat), (binOp .eql 32 (.slice a n c) (.slice none 0 0)).run Try.prog w = .ok (.bool a.isNone) w := fun w a n c => Lib.run_eql_slice_nil w _ _ a n c 0 0 Try.underlying32
        cases s with
        | none =>
          obtain ⟨g2, cap2, w6, hr2, e1, e2, hR2, _, ht3, hbl⟩ := hC.ref.pushS (by rw [hls]; omega) none (fun k hk => by cases hk)
          have o3 := hC.ref.c3
          have HF8 : Hid (∃ t', CopyAt w (w6.setCell ⟨t2.r, 3, none⟩ (slV g2 (k + 1) cap2)) x t' (k + 1) (k + 1) ∧ t'.r = O) := by
            rw [hls] at hR2 ht3
            refine ⟨_, ⟨hR2, hC.kind, hC.size, hC.max, hC.clock, ?_, hC.whens, ?_, ?_⟩, htO⟩
            · rw [htk, List.map_append, List.map_append, hC.slots]
            · intro b hb
              rcases hbl b hb with hb | hb | ⟨_, hb, _⟩
              · exact hC.own b hb
              · have := hC.touch.size
                omega
              · cases hb
            · exact hC.touch.trans ht3 (fun b hb => Or.inr (hC.own b (RX.mem_top hb)))
          rw [hls] at hr2 e1 o3
          rw [htO] at e1 e2 o3 HF8
          unfold slV at hr2 e1 o3 HF8
          generalize (t2.g.map fun b => (⟨b, 0, none⟩ : Addr)) = tg at *
          generalize (g2.map fun b => (⟨b, 0, none⟩ : Addr)) = gg2 at *
          generalize t2.scap = tsc at *
          unfold slotV at hr2 ⊢
          have HR2 := toHid hr2
          clear hr2 hR2 ht3 hbl hC htO hls htk hcut HSS HGET hc
          go_wp2_with (at_builtin; refine Lib.wpList_append_run _ rfl _ _ _ _ rfl _ _ rfl rfl _ _ HR2.out ?_)
          go_roundw
          case rel => exact ⟨k + 1, by omega, by go_num, HF8.out⟩
          case measure => simp [intOf]; omega
        | some ks =>
          have hkA := (HH.out.1.touch hC.touch (by simp)).keys ks (List.mem_of_getElem? HGET.out.2)
          have hC0 := hC.still ((Touch.refl [] w5).drew)
          obtain ⟨g1, cap1, w6, hr1, hA1, ht1, hg1⟩ := key_append (hkA.touch ((Touch.refl [] w5).drew) (by simp))
          have hC1 := hC0.still ht1
          obtain ⟨g2, cap2, w7, hr2, e1, e2, hR2, _, ht3, hbl⟩ := hC1.ref.pushS (by rw [hls]; omega) (some ⟨g1, cap1, ks.bs⟩) (fun y hy => by
            injection hy with hy
            subst hy
            refine ⟨hA1, fun hx => ?_⟩
            have := hC0.ref.lt _ (RX.mem_top hx)
            have hg1 : w5.drew.heap.size ≤ g1 := hg1
            have this : g1 < w5.drew.heap.size := this
            omega)
          have HF8 : Hid (∃ t', CopyAt w (w7.setCell ⟨t2.r, 3, none⟩ (slV g2 (k + 1) cap2)) x t' (k + 1) (k + 1) ∧ t'.r = O) := by
            rw [hls] at hR2 ht3
            refine ⟨_, ⟨hR2, hC.kind, hC.size, hC.max, hC.clock, ?_, hC.whens, ?_, ?_⟩, htO⟩
            · rw [htk, List.map_append, List.map_append, hC.slots]
              rfl
            · intro b hb
              have hsz := hC1.touch.size
              have hsz0 := hC0.touch.size
              rcases hbl b hb with hb | hb | ⟨y, hy, hb⟩
              · exact hC.own b hb
              · omega
              · injection hy with hy
                subst hy
                subst hb
                exact Nat.le_trans hsz0 hg1
            · exact hC1.touch.trans ht3 (fun b hb => Or.inr (hC.own b (RX.mem_top hb)))
          have o3 := hC.ref.c3
          have o3a := ((Touch.refl [] w5).alloc (.cells #[] 5)).cell o3 (by simp)
          have o3b := hC1.ref.c3
          have o3c := ((Touch.refl [] w6).alloc (.cells #[slotV (some ⟨g1, cap1, ks.bs⟩)] 32)).cell o3b (by simp)
          have hsz : w5.drew.heap.size = w5.heap.size := rfl
          rw [hls] at hr2 e1 o3 o3a o3b o3c
          rw [htO] at e1 e2 o3 o3a o3b o3c HF8
          rw [hsz] at hr1
          have es : slotV (some ⟨g1, cap1, ks.bs⟩) = .slice (some ⟨g1, 0, none⟩) ks.bs.length cap1 := rfl
          rw [es] at hr2 o3c
          unfold slV at hr2 e1 o3 o3a o3b o3c HF8
          unfold KS.v at hr1
          generalize (t2.g.map fun b => (⟨b, 0, none⟩ : Addr)) = tg at *
          generalize (g2.map fun b => (⟨b, 0, none⟩ : Addr)) = gg2 at *
          generalize t2.scap = tsc at *
          unfold slotV KS.v
          have HR1 := toHid hr1
          have HR2 := toHid hr2
          clear hr1 hr2 hR2 ht1 ht3 hbl hC htO hls htk hcut HSS HGET hc hC0 hC1 hA1 hkA hg1 hsz es
          go_upto_region 8 with fail
          refine wp_region_held_drew (S := (fun _ => True)) (by kernel_rfl) ?_ (fun hHeld => ?_)
          · trivial
          refine wpAnyH_take (i := 0) (v := ?_) rfl (by kernel_rfl) (by kernel_rfl) (by kernel_rfl) (fun _ _ _ h => h) (Or.inl ⟨by rfl, ?_⟩) (by assumption) ?_
          rotate_left
          · (intro w hSw; (try dsimp only at hSw); go_simp; try with_reducible rfl)
          simp only [Act.put, List.getElem_toArray, List.getElem_cons_zero, List.setIfInBounds_toArray, List.set_cons_zero, List.set_cons_succ]
          refine wpAnyH_take (i := 1) (v := ?_) rfl (by kernel_rfl) (by kernel_rfl) (by kernel_rfl) (fun _ _ _ h => h) (Or.inl ⟨by rfl, ?_⟩) (by assumption) ?_
          rotate_left
          · (intro w hSw; (try dsimp only at hSw); go_simp; try with_reducible rfl)
          simp only [Act.put, List.getElem_toArray, List.getElem_cons_zero, List.getElem_cons_succ, List.setIfInBounds_toArray, List.set_cons_zero, List.set_cons_succ]
          refine wpAnyH_take (i := 2) (v := ?_) rfl (by kernel_rfl) (by kernel_rfl) (by kernel_rfl) (fun _ _ _ h => h) (Or.inl ⟨by rfl, ?_⟩) (by assumption) ?_
          rotate_left
          · (intro w hSw; (try dsimp only at hSw); go_simp; try with_reducible rfl)
          simp only [Act.put, List.getElem_toArray, List.getElem_cons_zero, List.getElem_cons_succ, List.setIfInBounds_toArray, List.set_cons_zero, List.set_cons_succ]
          refine wpAnyH_take (i := 3) (v := ?_) rfl (by kernel_rfl) (by kernel_rfl) (by kernel_rfl) (fun _ _ _ h => h) (Or.inl ⟨by rfl, ?_⟩) (by assumption) ?_
          rotate_left
          · (intro w hSw; (try dsimp only at hSw); go_simp; try with_reducible rfl)
          simp only [Act.put, List.getElem_toArray, List.getElem_cons_zero, List.getElem_cons_succ, List.setIfInBounds_toArray, List.set_cons_zero, List.set_cons_succ]
          refine wpAnyH_take (i := 6) (v := ?_) rfl (by kernel_rfl) (by kernel_rfl) (by kernel_rfl) (fun _ _ _ h => h) (Or.inl ⟨by rfl, ?_⟩) (by assumption) ?_
          rotate_left
          · (intro w hSw; (try dsimp only at hSw); go_simp; try with_reducible rfl)
          simp only [Act.put, List.getElem_toArray, List.getElem_cons_zero, List.getElem_cons_succ, List.setIfInBounds_toArray, List.set_cons_zero, List.set_cons_succ]
          refine wpAnyH_ready (rs := [4, 5]) (by kernel_rfl) (by simp) ?_
          refine (AllReadyH.cons rfl (fun K hK => ?_) (AllReadyH.cons rfl (fun K hK => ?_) AllReadyH.nil))
          · simp only [List.getElem_toArray, List.getElem_cons_zero, List.getElem_cons_succ]
            go_simp
            refine hK.out _ _ ?_ (fun hHeld => ?_)
            · trivial
            clear hK K
            try simp only [Act.put, List.getElem_toArray, List.getElem_cons_zero, List.getElem_cons_succ, List.setIfInBounds_toArray, List.set_cons_zero, List.set_cons_succ]
            refine wpAnyH_ready (rs := [5]) (by kernel_rfl) (by simp) ?_
            refine (AllReadyH.cons rfl (fun K hK => ?_) AllReadyH.nil)
            simp only [List.getElem_toArray, List.getElem_cons_zero, List.getElem_cons_succ]
            go_simp
            refine hK.out _ _ ?_ (fun hHeld => ?_)
            · trivial
            clear hK K
            try simp only [Act.put, List.getElem_toArray, List.getElem_cons_zero, List.getElem_cons_succ, List.setIfInBounds_toArray, List.set_cons_zero, List.set_cons_succ]
            refine wpAnyH_ready (rs := [7]) (by kernel_rfl) (by simp) ?_
            refine (AllReadyH.cons rfl (fun K hK => ?_) AllReadyH.nil)
            refine step_append_known rfl (.tmp 66) (.tmp 67) 32 32 rfl (.slice (some ⟨w5.heap.size, 0, none⟩) 0 0) (.slice (some ⟨ks.b, 0, none⟩) ks.bs.length ks.cap) (by simp [Act.eval]) (by simp [Act.eval]) HR1.out ?_
            refine hK.out _ _ ?_ (fun hHeld => ?_)
            · trivial
            clear hK K
            try simp only [Act.put, List.getElem_toArray, List.getElem_cons_zero, List.getElem_cons_succ, List.setIfInBounds_toArray, List.set_cons_zero, List.set_cons_succ]
            refine wpAnyH_ready (rs := [8]) (by kernel_rfl) (by simp) ?_
            refine (AllReadyH.cons rfl (fun K hK => ?_) AllReadyH.nil)
            simp only [List.getElem_toArray, List.getElem_cons_zero, List.getElem_cons_succ]
            go_simp
            refine hK.out _ _ ?_ (fun hHeld => ?_)
            · trivial
            clear hK K
            try simp only [Act.put, List.getElem_toArray, List.getElem_cons_zero, List.getElem_cons_succ, List.setIfInBounds_toArray, List.set_cons_zero, List.set_cons_succ]
            refine wpAnyH_ready (rs := [9]) (by kernel_rfl) (by simp) ?_
            refine (AllReadyH.cons rfl (fun K hK => ?_) AllReadyH.nil)
            refine step_append_known rfl (.tmp 65) (.tmp 69) 38 38 rfl (.slice tg k tsc) (.slice (some ⟨w6.heap.size, 0, none⟩) 1 1) (by simp [Act.eval]) (by simp [Act.eval]) HR2.out ?_
            refine hK.out _ _ ?_ (fun hHeld => ?_)
            · trivial
            clear hK K
            try simp only [Act.put, List.getElem_toArray, List.getElem_cons_zero, List.getElem_cons_succ, List.setIfInBounds_toArray, List.set_cons_zero, List.set_cons_succ]
            refine wpAnyH_take (i := 10) (v := ?_) rfl (by kernel_rfl) (by kernel_rfl) (by kernel_rfl) (fun _ _ _ h => h) (Or.inl ⟨by rfl, ?_⟩) (by assumption) ?_
            rotate_left
            · (intro w hSw; (try dsimp only at hSw); go_simp; try with_reducible rfl)
            simp only [Act.put, List.getElem_toArray, List.getElem_cons_zero, List.getElem_cons_succ, List.setIfInBounds_toArray, List.set_cons_zero, List.set_cons_succ]
            refine wpAnyH_take (i := 11) (v := ?_) rfl (by kernel_rfl) (by kernel_rfl) (by kernel_rfl) (fun _ _ _ h => h) (Or.inl ⟨by rfl, ?_⟩) (by assumption) ?_
            rotate_left
            · (intro w hSw; (try dsimp only at hSw); go_simp; try with_reducible rfl)
            simp only [Act.put, List.getElem_toArray, List.getElem_cons_zero, List.getElem_cons_succ, List.setIfInBounds_toArray, List.set_cons_zero, List.set_cons_succ]
            refine wpAnyH_ready (rs := [12]) (by kernel_rfl) (by simp) ?_
            refine (AllReadyH.cons rfl (fun K hK => ?_) AllReadyH.nil)
            simp only [List.getElem_toArray, List.getElem_cons_zero, List.getElem_cons_succ]
            go_simp
            refine hK.out _ _ ?_ (fun hHeld => ?_)
            · trivial
            clear hK K
            try simp only [Act.put, List.getElem_toArray, List.getElem_cons_zero, List.getElem_cons_succ, List.setIfInBounds_toArray, List.set_cons_zero, List.set_cons_succ]
            refine wpAnyH_done (by kernel_rfl) ?_ _
            go_wp2
            go_roundw
            case rel => exact ⟨k + 1, by omega, by go_num, HF8.out⟩
            case measure => simp [intOf]; omega
          · simp only [List.getElem_toArray, List.getElem_cons_zero, List.getElem_cons_succ]
            go_simp
            refine hK.out _ _ ?_ (fun hHeld => ?_)
            · trivial
            clear hK K
            try simp only [Act.put, List.getElem_toArray, List.getElem_cons_zero, List.getElem_cons_succ, List.setIfInBounds_toArray, List.set_cons_zero, List.set_cons_succ]
            refine wpAnyH_ready (rs := [4, 7]) (by kernel_rfl) (by simp) ?_
            refine (AllReadyH.cons rfl (fun K hK => ?_) (AllReadyH.cons rfl (fun K hK => ?_) AllReadyH.nil))
            · simp only [List.getElem_toArray, List.getElem_cons_zero, List.getElem_cons_succ]
              go_simp
              refine hK.out _ _ ?_ (fun hHeld => ?_)
              · trivial
              clear hK K
              try simp only [Act.put, List.getElem_toArray, List.getElem_cons_zero, List.getElem_cons_succ, List.setIfInBounds_toArray, List.set_cons_zero, List.set_cons_succ]
              refine wpAnyH_ready (rs := [7]) (by kernel_rfl) (by simp) ?_
              refine (AllReadyH.cons rfl (fun K hK => ?_) AllReadyH.nil)
              refine step_append_known rfl (.tmp 66) (.tmp 67) 32 32 rfl (.slice (some ⟨w5.heap.size, 0, none⟩) 0 0) (.slice (some ⟨ks.b, 0, none⟩) ks.bs.length ks.cap) (by simp [Act.eval]) (by simp [Act.eval]) HR1.out ?_
              refine hK.out _ _ ?_ (fun hHeld => ?_)
              · trivial
              clear hK K
              try simp only [Act.put, List.getElem_toArray, List.getElem_cons_zero, List.getElem_cons_succ, List.setIfInBounds_toArray, List.set_cons_zero, List.set_cons_succ]
              refine wpAnyH_ready (rs := [8]) (by kernel_rfl) (by simp) ?_
              refine (AllReadyH.cons rfl (fun K hK => ?_) AllReadyH.nil)
              simp only [List.getElem_toArray, List.getElem_cons_zero, List.getElem_cons_succ]
              go_simp
              refine hK.out _ _ ?_ (fun hHeld => ?_)
              · trivial
              clear hK K
              try simp only [Act.put, List.getElem_toArray, List.getElem_cons_zero, List.getElem_cons_succ, List.setIfInBounds_toArray, List.set_cons_zero, List.set_cons_succ]
              refine wpAnyH_ready (rs := [9]) (by kernel_rfl) (by simp) ?_
              refine (AllReadyH.cons rfl (fun K hK => ?_) AllReadyH.nil)
              refine step_append_known rfl (.tmp 65) (.tmp 69) 38 38 rfl (.slice tg k tsc) (.slice (some ⟨w6.heap.size, 0, none⟩) 1 1) (by simp [Act.eval]) (by simp [Act.eval]) HR2.out ?_
              refine hK.out _ _ ?_ (fun hHeld => ?_)
              · trivial
              clear hK K
              try simp only [Act.put, List.getElem_toArray, List.getElem_cons_zero, List.getElem_cons_succ, List.setIfInBounds_toArray, List.set_cons_zero, List.set_cons_succ]
              refine wpAnyH_take (i := 10) (v := ?_) rfl (by kernel_rfl) (by kernel_rfl) (by kernel_rfl) (fun _ _ _ h => h) (Or.inl ⟨by rfl, ?_⟩) (by assumption) ?_
              rotate_left
              · (intro w hSw; (try dsimp only at hSw); go_simp; try with_reducible rfl)
              simp only [Act.put, List.getElem_toArray, List.getElem_cons_zero, List.getElem_cons_succ, List.setIfInBounds_toArray, List.set_cons_zero, List.set_cons_succ]
              refine wpAnyH_take (i := 11) (v := ?_) rfl (by kernel_rfl) (by kernel_rfl) (by kernel_rfl) (fun _ _ _ h => h) (Or.inl ⟨by rfl, ?_⟩) (by assumption) ?_
              rotate_left
              · (intro w hSw; (try dsimp only at hSw); go_simp; try with_reducible rfl)
              simp only [Act.put, List.getElem_toArray, List.getElem_cons_zero, List.getElem_cons_succ, List.setIfInBounds_toArray, List.set_cons_zero, List.set_cons_succ]
              refine wpAnyH_ready (rs := [12]) (by kernel_rfl) (by simp) ?_
              refine (AllReadyH.cons rfl (fun K hK => ?_) AllReadyH.nil)
              simp only [List.getElem_toArray, List.getElem_cons_zero, List.getElem_cons_succ]
              go_simp
              refine hK.out _ _ ?_ (fun hHeld => ?_)
              · trivial
              clear hK K
              try simp only [Act.put, List.getElem_toArray, List.getElem_cons_zero, List.getElem_cons_succ, List.setIfInBounds_toArray, List.set_cons_zero, List.set_cons_succ]
              refine wpAnyH_done (by kernel_rfl) ?_ _
              go_wp2
              go_roundw
              case rel => exact ⟨k + 1, by omega, by go_num, HF8.out⟩
              case measure => simp [intOf]; omega
            · refine step_append_known rfl (.tmp 66) (.tmp 67) 32 32 rfl (.slice (some ⟨w5.heap.size, 0, none⟩) 0 0) (.slice (some ⟨ks.b, 0, none⟩) ks.bs.length ks.cap) (by simp [Act.eval]) (by simp [Act.eval]) HR1.out ?_
              refine hK.out _ _ ?_ (fun hHeld => ?_)
              · trivial
              clear hK K
              try simp only [Act.put, List.getElem_toArray, List.getElem_cons_zero, List.getElem_cons_succ, List.setIfInBounds_toArray, List.set_cons_zero, List.set_cons_succ]
              refine wpAnyH_ready (rs := [4, 8]) (by kernel_rfl) (by simp) ?_
              refine (AllReadyH.cons rfl (fun K hK => ?_) (AllReadyH.cons rfl (fun K hK => ?_) AllReadyH.nil))
              · simp only [List.getElem_toArray, List.getElem_cons_zero, List.getElem_cons_succ]
                go_simp
                refine hK.out _ _ ?_ (fun hHeld => ?_)
                · trivial
                clear hK K
                try simp only [Act.put, List.getElem_toArray, List.getElem_cons_zero, List.getElem_cons_succ, List.setIfInBounds_toArray, List.set_cons_zero, List.set_cons_succ]
                refine wpAnyH_ready (rs := [8]) (by kernel_rfl) (by simp) ?_
                refine (AllReadyH.cons rfl (fun K hK => ?_) AllReadyH.nil)
                simp only [List.getElem_toArray, List.getElem_cons_zero, List.getElem_cons_succ]
                go_simp
                refine hK.out _ _ ?_ (fun hHeld => ?_)
                · trivial
                clear hK K
                try simp only [Act.put, List.getElem_toArray, List.getElem_cons_zero, List.getElem_cons_succ, List.setIfInBounds_toArray, List.set_cons_zero, List.set_cons_succ]
                refine wpAnyH_ready (rs := [9]) (by kernel_rfl) (by simp) ?_
                refine (AllReadyH.cons rfl (fun K hK => ?_) AllReadyH.nil)
                refine step_append_known rfl (.tmp 65) (.tmp 69) 38 38 rfl (.slice tg k tsc) (.slice (some ⟨w6.heap.size, 0, none⟩) 1 1) (by simp [Act.eval]) (by simp [Act.eval]) HR2.out ?_
                refine hK.out _ _ ?_ (fun hHeld => ?_)
                · trivial
                clear hK K
                try simp only [Act.put, List.getElem_toArray, List.getElem_cons_zero, List.getElem_cons_succ, List.setIfInBounds_toArray, List.set_cons_zero, List.set_cons_succ]
                refine wpAnyH_take (i := 10) (v := ?_) rfl (by kernel_rfl) (by kernel_rfl) (by kernel_rfl) (fun _ _ _ h => h) (Or.inl ⟨by rfl, ?_⟩) (by assumption) ?_
                rotate_left
                · (intro w hSw; (try dsimp only at hSw); go_simp; try with_reducible rfl)
                simp only [Act.put, List.getElem_toArray, List.getElem_cons_zero, List.getElem_cons_succ, List.setIfInBounds_toArray, List.set_cons_zero, List.set_cons_succ]
                refine wpAnyH_take (i := 11) (v := ?_) rfl (by kernel_rfl) (by kernel_rfl) (by kernel_rfl) (fun _ _ _ h => h) (Or.inl ⟨by rfl, ?_⟩) (by assumption) ?_
                rotate_left
                · (intro w hSw; (try dsimp only at hSw); go_simp; try with_reducible rfl)
                simp only [Act.put, List.getElem_toArray, List.getElem_cons_zero, List.getElem_cons_succ, List.setIfInBounds_toArray, List.set_cons_zero, List.set_cons_succ]
                refine wpAnyH_ready (rs := [12]) (by kernel_rfl) (by simp) ?_
                refine (AllReadyH.cons rfl (fun K hK => ?_) AllReadyH.nil)
                simp only [List.getElem_toArray, List.getElem_cons_zero, List.getElem_cons_succ]
                go_simp
                refine hK.out _ _ ?_ (fun hHeld => ?_)
                · trivial
                clear hK K
                try simp only [Act.put, List.getElem_toArray, List.getElem_cons_zero, List.getElem_cons_succ, List.setIfInBounds_toArray, List.set_cons_zero, List.set_cons_succ]
                refine wpAnyH_done (by kernel_rfl) ?_ _
                go_wp2
                go_roundw
                case rel => exact ⟨k + 1, by omega, by go_num, HF8.out⟩
                case measure => simp [intOf]; omega
              · simp only [List.getElem_toArray, List.getElem_cons_zero, List.getElem_cons_succ]
                go_simp
                refine hK.out _ _ ?_ (fun hHeld => ?_)
                · trivial
                clear hK K
                try simp only [Act.put, List.getElem_toArray, List.getElem_cons_zero, List.getElem_cons_succ, List.setIfInBounds_toArray, List.set_cons_zero, List.set_cons_succ]
                refine wpAnyH_ready (rs := [4]) (by kernel_rfl) (by simp) ?_
                refine (AllReadyH.cons rfl (fun K hK => ?_) AllReadyH.nil)
                simp only [List.getElem_toArray, List.getElem_cons_zero, List.getElem_cons_succ]
                go_simp
                refine hK.out _ _ ?_ (fun hHeld => ?_)
                · trivial
                clear hK K
                try simp only [Act.put, List.getElem_toArray, List.getElem_cons_zero, List.getElem_cons_succ, List.setIfInBounds_toArray, List.set_cons_zero, List.set_cons_succ]
                refine wpAnyH_ready (rs := [9]) (by kernel_rfl) (by simp) ?_
                refine (AllReadyH.cons rfl (fun K hK => ?_) AllReadyH.nil)
                refine step_append_known rfl (.tmp 65) (.tmp 69) 38 38 rfl (.slice tg k tsc) (.slice (some ⟨w6.heap.size, 0, none⟩) 1 1) (by simp [Act.eval]) (by simp [Act.eval]) HR2.out ?_
                refine hK.out _ _ ?_ (fun hHeld => ?_)
                · trivial
                clear hK K
                try simp only [Act.put, List.getElem_toArray, List.getElem_cons_zero, List.getElem_cons_succ, List.setIfInBounds_toArray, List.set_cons_zero, List.set_cons_succ]
                refine wpAnyH_take (i := 10) (v := ?_) rfl (by kernel_rfl) (by kernel_rfl) (by kernel_rfl) (fun _ _ _ h => h) (Or.inl ⟨by rfl, ?_⟩) (by assumption) ?_
                rotate_left
                · (intro w hSw; (try dsimp only at hSw); go_simp; try with_reducible rfl)
                simp only [Act.put, List.getElem_toArray, List.getElem_cons_zero, List.getElem_cons_succ, List.setIfInBounds_toArray, List.set_cons_zero, List.set_cons_succ]
                refine wpAnyH_take (i := 11) (v := ?_) rfl (by kernel_rfl) (by kernel_rfl) (by kernel_rfl) (fun _ _ _ h => h) (Or.inl ⟨by rfl, ?_⟩) (by assumption) ?_
                rotate_left
                · (intro w hSw; (try dsimp only at hSw); go_simp; try with_reducible rfl)
                simp only [Act.put, List.getElem_toArray, List.getElem_cons_zero, List.getElem_cons_succ, List.setIfInBounds_toArray, List.set_cons_zero, List.set_cons_succ]
                refine wpAnyH_ready (rs := [12]) (by kernel_rfl) (by simp) ?_
                refine (AllReadyH.cons rfl (fun K hK => ?_) AllReadyH.nil)
                simp only [List.getElem_toArray, List.getElem_cons_zero, List.getElem_cons_succ]
                go_simp
                refine hK.out _ _ ?_ (fun hHeld => ?_)
                · trivial
                clear hK K
                try simp only [Act.put, List.getElem_toArray, List.getElem_cons_zero, List.getElem_cons_succ, List.setIfInBounds_toArray, List.set_cons_zero, List.set_cons_succ]
                refine wpAnyH_done (by kernel_rfl) ?_ _
                go_wp2
                go_roundw
                case rel => exact ⟨k + 1, by omega, by go_num, HF8.out⟩
                case measure => simp [intOf]; omega
    · obtain rfl : k = n := by omega
      obtain ⟨t, hC, htO⟩ := HI.out
      have HC := toHid hC
      have HO := toHid htO
      clear hC htO HI
      go_wp2
      go_ret
      exact ⟨t, by rw [HO.out]; rfl, HC.out⟩
end Go.Proofs.Ytlkbaconlngmjaa
