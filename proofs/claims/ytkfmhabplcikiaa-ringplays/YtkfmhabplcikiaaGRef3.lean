/-
  The document's ring: End.
-/
import Derived.Test.YtkfmhabplcikiaaGRef2
import Derived.Deep.RegionHeld3
import Derived.Deep.DrawnRows
namespace Go.Proofs.Ytkfmhabplcikiaa.Ring
open Go.RowKit
attribute [local go_sem ↓] Go.wp_at_zero Go.wp_at_succ

/-- Bytes that lie in a block, copied into a row of their own. -/
theorem copy_at {w : World} {b : Nat} {bs : List Int} (hb : ∃ rest, Blk w b (bs.map (Value.int .u8) ++ rest) 5) (hby : ∀ x ∈ bs, 0 ≤ x ∧ x ≤ 255) (h64 : bs.length ≤ 64) (h1 : 1 ≤ bs.length) (c : Nat) :
    ∃ k' w', (Builtin.append_ #[60, 60] 60 #[.slice (some ⟨w.heap.size, 0, none⟩) 0 0, .slice (some ⟨b, 0, none⟩) bs.length c]).run Try.prog (w.alloc (.cells #[] 5)) = .ok (.slice (some ⟨(KR.b k'), 0, none⟩) bs.length (KR.cap k')) w' ∧ k'.At w' ∧ k'.bs = bs ∧ Touch [] w w' ∧ w.heap.size ≤ k'.b := by
  have h : (⟨b, bs.length, bs⟩ : KR).At w := ⟨hb, hby, h64, h1, Nat.le_refl _⟩
  obtain ⟨i, hi0, hz, hs, hbb⟩ := info_of info5
  have hE := Blk.newA w #[] [] 5 rfl
  have hta : Touch [] w (w.alloc (.cells #[] 5)) := (Touch.refl _ w).alloc _
  have hrow : RowAt (w.alloc (.cells #[] 5)) 5 1 (some w.heap.size) 0 0 [] := ⟨rfl, Nat.le_refl _, by unfold maxLen; omega, [], by simpa using hE, by simp⟩
  have h' := h.touch hta (by simp)
  obtain ⟨g', cap', w', hr, q2, q3, q4, _⟩ := run_append_row (P := Try.prog) (w.alloc (.cells #[] 5)) 60 60 5 i (.int .u8 0) 1 Try.underlying60 hi0 hz hs rfl (by omega) (some w.heap.size) 0 0 [] hrow ⟨b, 0, none⟩ bs.length c (bs.map (Value.int .u8)) (by simp)
    (fun j v hj => by
      rw [Addr.add_lit]
      have hjl : j < bs.length := by have := (List.getElem?_eq_some_iff.1 hj).1; simpa using this
      have := h'.cell j hjl
      rw [List.getElem?_map, List.getElem?_eq_getElem hjl] at hj
      dsimp only at this
      rw [List.getD_eq_getElem?_getD, List.getElem?_eq_getElem hjl] at this
      simp only [Nat.zero_add]
      rw [this]
      exact hj)
    (fun u hu => by
      obtain ⟨x, _, rfl⟩ := List.mem_map.1 hu
      rfl) (by rw [hbb]; omega) (by omega)
  simp only [Nat.zero_add, List.nil_append] at hr q2
  obtain ⟨hn1, hn2, hn3, hn4⟩ := q2
  cases g' with
  | none => have hn4 : cap' = 0 := hn4; omega
  | some b2 =>
    obtain ⟨rest, hB, _⟩ := hn4
    refine ⟨⟨b2, cap', bs⟩, w', hr, ⟨⟨rest, hB⟩, hby, h64, h1, hn2⟩, rfl, hta.trans q3 (fun y hy => Or.inr (by simp at hy; omega)), ?_⟩
    rcases q4 with q4 | q4
    · injection q4 with q4
      show w.heap.size ≤ b2
      omega
    · injection q4 with q4
      show w.heap.size ≤ b2
      rw [q4, World.size_alloc]
      omega
/-- A row put behind what was sent. -/
theorem RGBoth.pushed {w w1 w2 : World} {x : RRG} {s : Mem.RS} (h : RGBoth w x s) (ht : Touch [] w w1) {k : KR} (_hk : k.At w1) (hkf : w.heap.size ≤ k.b) {g' : Option Nat} {cap' : Nat} (hR : Rows w2 g' cap' (x.l ++ [k])) (ht2 : Touch x.g.toList w1 w2) (hg : g' = x.g ∨ ∃ b, g' = some b ∧ w1.heap.size ≤ b) :
    RGStep w (w2.setCell ⟨x.q, 2, none⟩ (slV g' (x.l.length + 1) cap')) x { x with g := g', cap := cap', l := x.l ++ [k] } s s := by
  have hz := ht.size
  have hgx : ∀ b ∈ x.g.toList, b ∈ x.blocks := fun b hb => by
    simp only [Option.mem_toList] at hb
    exact x.mem_rows (mem_g hb)
  have hng : ∀ c, c ∉ rowsBl x.g x.l → c ∉ x.g.toList := fun c hc hx => by
    simp only [Option.mem_toList] at hx
    exact hc (mem_g hx)
  have hset : Touch [x.q] w2 (w2.setCell ⟨x.q, 2, none⟩ (slV g' (x.l.length + 1) cap')) := (Touch.refl _ _).setCell _ _ (Or.inl (by simp))
  have hnew : ∀ b ∈ rowsBl g' (x.l ++ [k]), b ∈ rowsBl x.g x.l ∨ w.heap.size ≤ b := fun b hb => by
    rcases rowsBl_cases hb with hb | ⟨y, hy, rfl⟩
    · rcases hg with rfl | ⟨b', hb', hge⟩
      · exact Or.inl (mem_g hb)
      · rw [hb] at hb'
        injection hb' with hb'
        exact Or.inr (by omega)
    · rcases List.mem_append.1 hy with hy | hy
      · exact Or.inl (mem_k hy)
      · simp only [List.mem_singleton] at hy
        subst hy
        exact Or.inr hkf
  have hlt := h.ring.lt
  have hown : ∀ c, c < w.heap.size → c ∉ rowsBl x.g x.l → c ∉ rowsBl g' (x.l ++ [k]) := fun c hc hn hx => by
    rcases hnew _ hx with h1 | h1
    · exact hn h1
    · omega
  have hbl : ∀ b ∈ ({ x with g := g', cap := cap', l := x.l ++ [k] } : RRG).blocks, b ∈ x.blocks ∨ w.heap.size ≤ b := fun b hb => by
    rcases List.mem_cons.1 hb with rfl | hb
    · exact Or.inl x.mem_q
    · rcases List.mem_cons.1 hb with rfl | hb
      · exact Or.inl x.mem_ig
      · rcases hnew b hb with h1 | h1
        · exact Or.inl (x.mem_rows h1)
        · exact Or.inr h1
  have hq2 := hown _ (hlt _ x.mem_q) h.ring.own2
  refine ⟨⟨⟨?_, h.ring.eight, ?_, h.ring.icap, hR.touch hset (fun b hb hx => ?_), h.ring.own1, hq2, hown _ (hlt _ x.mem_ig) h.ring.own3⟩, (h.mem.touch (ht.nil.trans ht2 (fun y hy => Or.inl hy)) (fun b hb hx => h.apart b (hgx b hx) hb)).touch hset (fun b hb hx => ?_), h.at_, fun b hb hx => ?_⟩, rfl, rfl, ?_, hbl, fun b hb => Or.inl hb⟩
  · exact (ht2.blk (ht.blk h.ring.self (by simp)) (hng _ h.ring.own2)).setCell 2 (slV g' (x.l.length + 1) cap') |> fun h9 => by
      have hc : x.cells.set 2 (slV g' (x.l.length + 1) cap') = ({ x with g := g', cap := cap', l := x.l ++ [k] } : RRG).cells := by
        unfold RRG.cells
        simp
      rw [hc] at h9
      exact h9
  · obtain ⟨r, hr⟩ := h.ring.ids
    exact ⟨r, hset.blk (ht2.blk (ht.blk hr (by simp)) (hng _ h.ring.own3)) (fun hx => h.ring.own1 (List.mem_singleton.1 hx).symm)⟩
  · simp only [List.mem_singleton] at hx
    subst hx
    exact hq2 hb
  · simp only [List.mem_singleton] at hx
    subst hx
    exact h.apart _ x.mem_q hb
  · rcases hbl b hb with h1 | h1
    · exact h.apart b h1 hx
    · have := h.mem.lt b hx
      omega
  · refine ((ht.nil (S := x.blocks ++ s.blocks)).trans ht2 (fun y hy => Or.inl (List.mem_append_left _ (hgx y hy)))).trans hset (fun y hy => ?_)
    simp only [List.mem_singleton] at hy
    subst hy
    exact Or.inl (List.mem_append_left _ x.mem_q)
def REndPost (w : World) (y : RRG) (u : Mem.RS) (addr : Int) (send : Bool) (e : Ending) (w' : World) : Prop :=
  e = .returned (.int .i64 (if numI y.recs addr = -1 then 14 else 0)) ∧
  ((numI y.recs addr = -1 ∧ RGStep w w' y y u u) ∨ ∃ (n i : Nat) (r : Mem.RReg) (g' : Option Nat) (cap' : Nat) (l' : List KR), n < 8 ∧ numI y.recs addr = n ∧ y.recs[n]? = some (some i) ∧ u.all[i]? = some r ∧ l'.map KR.bs = y.l.map KR.bs ++ (if send = true then [r.bytes] else []) ∧
    RGStep w w' y { y with recs := y.recs.set n none, g := g', cap := cap', l := l' } u { u with all := Mem.rkillAll u.all i })
set_option maxHeartbeats 8000000 in
set_option maxRecDepth 100000 in
theorem rgend_any {w : World} {y : RRG} {u : Mem.RS} (h : RGBoth w y u) (hl : y.l.length ≤ 1000) (hheld : ∀ n i : Nat, y.recs[n]? = some (some i) → ∃ r, u.all[i]? = some r ∧ r.bytes.length ≤ 64) (addr : Int) (_a0 : 0 ≤ addr) (send : Bool) :
    Calls Try.prog 16 #[.pointer (some ⟨y.q, 0, none⟩), .int .u64 addr, .bool send] w (REndPost w y u addr send) := by
  have HH := toHid h
  have HHL := toHid (And.intro hl hheld)
  have c1 : w.cell? ⟨y.q, 1, none⟩ = some (.slice (some ⟨y.ig, 0, none⟩) 8 y.icap) := h.ring.self.cell rfl
  clear h hl hheld
  go_enter Try.func16, Try.ntmps16
  go_wp2_with fail
  go_loopw [13] (fun t w' => ∃ k : Nat, k ≤ 8 ∧ t = .int .i64 k ∧ w' = w ∧ Hid (∀ j, j < k → (y.recs.getD j none).isSome = true → placeI j ≠ addr)) (fun t _ => 8 - (intOf t).toNat)
  case atStart => exact ⟨0, by omega, rfl, by trivial, fun j hj => absurd hj (by omega)⟩
  case round =>
    obtain ⟨k, hk, rfl, rfl, HJ⟩ := hrel
    by_cases hlt : k < 8
    · have hk8 : (k : Int) < 8 := by omega
      have hk0 : (0 : Int) ≤ k := by omega
      have hc := HH.out.ring.id_at hlt
      have h8 := HH.out.ring.eight
      have hq : y.recs[k]? = some (y.recs.getD k none) := by
        rw [List.getD_eq_getElem?_getD, List.getElem?_eq_getElem (by omega)]
        rfl
      cases hs : y.recs.getD k none with
      | none =>
        rw [hs] at hc
        have hc' : wr.cell? ⟨y.ig, k, none⟩ = some (.int .i64 (-1)) := hc
        have HN : Hid (∀ j, j < k + 1 → (y.recs.getD j none).isSome = true → placeI j ≠ addr) := fun j hj => by
          by_cases hjk : j = k
          · intro h9
            rw [hjk, hs] at h9
            cases h9
          · exact HJ.out j (by omega)
        clear hs hq HJ hc h8
        go_wp2
        go_roundw
        case rel => exact ⟨k + 1, by omega, by go_num, by trivial, HN⟩
        case measure => simp [intOf]; omega
      | some i =>
        rw [hs] at hc hq
        have hc' : wr.cell? ⟨y.ig, k, none⟩ = some (.int .i64 (i : Int)) := hc
        have hi0 : (0 : Int) ≤ i := by omega
        have hpl : placeI k = 68719476736 + (k : Int) * 4096 := rfl
        by_cases he : placeI k = addr
        · have hf := numI_some hq he
          have heb : (addr == 68719476736 + (k : Int) * 4096) = true := by rw [← hpl, he]; simp
          obtain ⟨r, hr, hr64⟩ := HHL.out.2 k i hq
          cases send with
          | false =>
            have hi := (List.getElem?_eq_some_iff.1 hr).1
            obtain ⟨gb, hgb⟩ := HH.out.mem.some_g hi
            have hrm := List.mem_of_getElem? hr
            have hok := HH.out.mem.ok r hrm
            have HRB := toHid (HH.out.mem.regs r hrm).bytes
            have HBY := toHid (And.intro hok.byte (And.intro hr64 hok.size1))
            have b0 : wr.cell? ⟨y.q, 0, none⟩ = some (.pointer (some ⟨u.m, 0, none⟩)) := by rw [← HH.out.at_]; exact HH.out.ring.self.cell rfl
            have b2 : wr.cell? ⟨y.q, 2, none⟩ = some (slV y.g y.l.length y.cap) := HH.out.ring.self.cell rfl
            have u0 : wr.cell? ⟨u.m, 0, none⟩ = some (slV (some gb) u.all.length u.cap) := by rw [← hgb]; exact HH.out.mem.c0
            have u3 : wr.cell? ⟨gb, i * 5 + 3, none⟩ = some (.slice (some ⟨r.bb, 0, none⟩) r.bytes.length r.bcap) := HH.out.mem.at hgb hr (j := 3) (by omega) rfl
            have hil : (i : Int) < u.all.length := by omega
            have HF : Hid (∀ w1 w2 y1 l', RGStep wr w1 y y1 u u → y1.recs = y.recs → y1.ig = y.ig → y1 = { y with g := y1.g, cap := y1.cap, l := l' } → l'.map KR.bs = y.l.map KR.bs ++ (if false = true then [r.bytes] else []) → Mem.RefStep w1 u (Mem.rkillAll u.all i) w2 → REndPost wr y u addr false (.returned (.int .i64 0)) (w2.setCell ⟨y.ig, k, none⟩ (.int .i64 (-1)))) := fun w1 w2 y1 l' h1 hrec hig hy1 hbs hst => by
              refine ⟨by rw [if_neg (by rw [hf]; omega)], Or.inr ⟨k, i, r, y1.g, y1.cap, l', hlt, hf, hq, hr, hbs, ?_⟩⟩
              have h2 := h1.both.turn (u' := { u with all := Mem.rkillAll u.all i }) hst.1 hst.2.2 rfl (fun b hb => Or.inl (by rw [hst.2.1] at hb; exact hb)) hlt none
              rw [hig] at h2
              have h3 := h1.trans h2
              rw [hy1] at h3
              exact h3
            have HK : Hid (∀ w1 y1, RGStep wr w1 y y1 u u → Calls Try.prog 35 #[.pointer (some ⟨u.m, 0, none⟩), .int .i64 (i : Int)] w1 fun e w' => e = .returned (.int .i64 (Mem.rkillE u.all i)) ∧ Mem.RefStep w1 u (Mem.rkillAll u.all i) w') := fun w1 y1 h1 => Mem.rkill_any h1.both.mem i
            have HST : Hid (∀ w1 y1, RGStep wr w1 y y1 u u → y1.recs = y.recs → y1.ig = y.ig → y1.icap = y.icap → (w1.cell? ⟨y.q, 0, none⟩ = some (.pointer (some ⟨u.m, 0, none⟩)) ∧ w1.cell? ⟨y.q, 1, none⟩ = some (.slice (some ⟨y.ig, 0, none⟩) 8 y.icap) ∧ w1.cell? ⟨y.ig, k, none⟩ = some (.int .i64 (i : Int))) ∧ ∀ w2 S, Touch S w1 w2 → (∀ b ∈ S, b ∈ u.blocks) → (w2.cell? ⟨y.q, 0, none⟩ = some (.pointer (some ⟨u.m, 0, none⟩)) ∧ w2.cell? ⟨y.q, 1, none⟩ = some (.slice (some ⟨y.ig, 0, none⟩) 8 y.icap) ∧ w2.cell? ⟨y.ig, k, none⟩ = some (.int .i64 (i : Int))) ∧ w2.frozen? ⟨y.ig, k, none⟩ = false) := fun w1 y1 h1 hrec hig hic => by
              have g0 : w1.cell? ⟨y.q, 0, none⟩ = some (.pointer (some ⟨u.m, 0, none⟩)) := by rw [← h1.q, ← h1.both.at_]; exact h1.both.ring.self.cell rfl
              have g1 : w1.cell? ⟨y.q, 1, none⟩ = some (.slice (some ⟨y.ig, 0, none⟩) 8 y.icap) := by rw [← h1.q, ← hig, ← hic]; exact h1.both.ring.self.cell rfl
              have g2 : w1.cell? ⟨y.ig, k, none⟩ = some (.int .i64 (i : Int)) := by
                have := h1.both.ring.id_at hlt
                rw [hrec, hs, hig] at this
                exact this
              refine ⟨⟨g0, g1, g2⟩, fun w2 S ht hS => ?_⟩
              have n1 : y.q ∉ S := fun hx => h1.both.apart _ (by rw [← h1.q]; exact y1.mem_q) (hS _ hx)
              have n2 : y.ig ∉ S := fun hx => h1.both.apart _ (by rw [← hig]; exact y1.mem_ig) (hS _ hx)
              obtain ⟨rest, hr9⟩ := h1.both.ring.ids
              have h10 := ht.blk hr9 (by rw [hig]; exact n2)
              rw [hig] at h10
              exact ⟨⟨ht.cell g0 n1, ht.cell g1 n1, ht.cell g2 n2⟩, h10.frozen _⟩
            have hst0 := RGStep.same HH.out (Touch.refl [] wr).drew
            have HSX := toHid (HST.out wr y (RGStep.same HH.out (Touch.refl [] wr)) rfl rfl rfl)
            have HKX := toHid (HK.out wr.drew y hst0)
            have HFX : Hid (∀ w2, Mem.RefStep wr.drew u (Mem.rkillAll u.all i) w2 → REndPost wr y u addr false (.returned (.int .i64 0)) (w2.setCell ⟨y.ig, k, none⟩ (.int .i64 (-1)))) := fun w2 h9 => HF.out wr.drew w2 y y.l hst0 rfl rfl rfl (by simp) h9
            clear HF HK HST hst0 hs hq hc h8 hf he hr hr64 hi hgb hrm hok HRB HBY b2 u0 u3 hil HJ hpl
            generalize hQ : y.q = Q at *
            generalize hIG : y.ig = IG at *
            generalize y.icap = icap at *
            generalize u.m = M at *
            go_wp2_with fail
            refine wp_region_held_drew (S := fun w' => w'.cell? ⟨Q, 0, none⟩ = some (.pointer (some ⟨M, 0, none⟩)) ∧ w'.cell? ⟨Q, 1, none⟩ = some (.slice (some ⟨IG, 0, none⟩) 8 icap) ∧ w'.cell? ⟨IG, k, none⟩ = some (.int .i64 (i : Int))) (by kernel_rfl) ?_ (fun hHeld => ?_)
            · exact (HSX.out.2 _ [] (Touch.refl _ _).drew (by simp)).1
            refine wpAnyH_take (i := 0) (v := ?_) rfl (by kernel_rfl) (by kernel_rfl) (by kernel_rfl) (fun _ _ _ h => h) (Or.inl ⟨by rfl, ?_⟩) (by assumption) ?_
            rotate_left
            · (intro w hSw; (try dsimp only at hSw); go_simp; try with_reducible rfl)
            simp only [Act.put, List.getElem_toArray, List.getElem_cons_zero, List.setIfInBounds_toArray, List.set_cons_zero, List.set_cons_succ]
            refine wpAnyH_take (i := 1) (v := ?_) rfl (by kernel_rfl) (by kernel_rfl) (by kernel_rfl) (fun _ _ _ h => h) (Or.inl ⟨by rfl, ?_⟩) (by assumption) ?_
            rotate_left
            · (intro w hSw; (try dsimp only at hSw); go_simp; try with_reducible rfl)
            simp only [Act.put, List.getElem_toArray, List.getElem_cons_zero, List.getElem_cons_succ, List.setIfInBounds_toArray, List.set_cons_zero, List.set_cons_succ]
            refine wpAnyH_take (i := 2) (v := ?_) rfl (by kernel_rfl) (by kernel_rfl) (by kernel_rfl) (fun _ _ _ h => h) (Or.inl ⟨by rfl, ?_⟩) (by assumption) ?_
            rotate_left
            · (intro w hSw; (try dsimp only at hSw); go_simp; try with_reducible rfl)
            simp only [Act.put, List.getElem_toArray, List.getElem_cons_zero, List.getElem_cons_succ, List.setIfInBounds_toArray, List.set_cons_zero, List.set_cons_succ]
            refine wpAnyH_take (i := 3) (v := ?_) rfl (by kernel_rfl) (by kernel_rfl) (by kernel_rfl) (fun _ _ _ h => h) (Or.inl ⟨by rfl, ?_⟩) (by assumption) ?_
            rotate_left
            · (intro w hSw; (try dsimp only at hSw); go_simp; try with_reducible rfl)
            simp only [Act.put, List.getElem_toArray, List.getElem_cons_zero, List.getElem_cons_succ, List.setIfInBounds_toArray, List.set_cons_zero, List.set_cons_succ]
            refine wpAnyH_take (i := 4) (v := ?_) rfl (by kernel_rfl) (by kernel_rfl) (by kernel_rfl) (fun _ _ _ h => h) (Or.inl ⟨by rfl, ?_⟩) (by assumption) ?_
            rotate_left
            · (intro w hSw; (try dsimp only at hSw); go_simp; try with_reducible rfl)
            simp only [Act.put, List.getElem_toArray, List.getElem_cons_zero, List.getElem_cons_succ, List.setIfInBounds_toArray, List.set_cons_zero, List.set_cons_succ]
            refine wpAnyH_take (i := 5) (v := ?_) rfl (by kernel_rfl) (by kernel_rfl) (by kernel_rfl) (fun _ _ _ h => h) (Or.inl ⟨by rfl, ?_⟩) (by assumption) ?_
            rotate_left
            · (intro w hSw; (try dsimp only at hSw); go_simp; try with_reducible rfl)
            simp only [Act.put, List.getElem_toArray, List.getElem_cons_zero, List.getElem_cons_succ, List.setIfInBounds_toArray, List.set_cons_zero, List.set_cons_succ]
            refine wpAnyH_take (i := 6) (v := ?_) rfl (by kernel_rfl) (by kernel_rfl) (by kernel_rfl) (fun _ _ _ h => h) (Or.inl ⟨by rfl, ?_⟩) (by assumption) ?_
            rotate_left
            · (intro w hSw; (try dsimp only at hSw); go_simp; try with_reducible rfl)
            simp only [Act.put, List.getElem_toArray, List.getElem_cons_zero, List.getElem_cons_succ, List.setIfInBounds_toArray, List.set_cons_zero, List.set_cons_succ]
            refine wpAnyH_take (i := 7) (v := ?_) rfl (by kernel_rfl) (by kernel_rfl) (by kernel_rfl) (fun _ _ _ h => h) (Or.inl ⟨by rfl, ?_⟩) (by assumption) ?_
            rotate_left
            · (intro w hSw; (try dsimp only at hSw); go_simp; try with_reducible rfl)
            simp only [Act.put, List.getElem_toArray, List.getElem_cons_zero, List.getElem_cons_succ, List.setIfInBounds_toArray, List.set_cons_zero, List.set_cons_succ]
            refine wpAnyH_take (i := 8) (v := ?_) rfl (by kernel_rfl) (by kernel_rfl) (by kernel_rfl) (fun _ _ _ h => h) (Or.inl ⟨by rfl, ?_⟩) (by assumption) ?_
            rotate_left
            · (intro w hSw; (try dsimp only at hSw); go_simp; try with_reducible rfl)
            simp only [Act.put, List.getElem_toArray, List.getElem_cons_zero, List.getElem_cons_succ, List.setIfInBounds_toArray, List.set_cons_zero, List.set_cons_succ]
            refine wpAnyH_take (i := 9) (v := ?_) rfl (by kernel_rfl) (by kernel_rfl) (by kernel_rfl) (fun _ _ _ h => h) (Or.inl ⟨by rfl, ?_⟩) (by assumption) ?_
            rotate_left
            · (intro w hSw; (try dsimp only at hSw); go_simp; try with_reducible rfl)
            simp only [Act.put, List.getElem_toArray, List.getElem_cons_zero, List.getElem_cons_succ, List.setIfInBounds_toArray, List.set_cons_zero, List.set_cons_succ]
            refine wpAnyH_take (i := 10) (v := ?_) rfl (by kernel_rfl) (by kernel_rfl) (by kernel_rfl) (fun _ _ _ h => h) (Or.inl ⟨by rfl, ?_⟩) (by assumption) ?_
            rotate_left
            · (intro w hSw; (try dsimp only at hSw); go_simp; try with_reducible rfl)
            simp only [Act.put, List.getElem_toArray, List.getElem_cons_zero, List.getElem_cons_succ, List.setIfInBounds_toArray, List.set_cons_zero, List.set_cons_succ]
            refine wpAnyH_ready (rs := [11]) (by kernel_rfl) (by simp) ?_
            refine AllReadyH.cons rfl (fun K hK => ?_) AllReadyH.nil
            simp only [List.getElem_toArray, List.getElem_cons_zero, List.getElem_cons_succ]
            go_simp
            refine Calls.mono HKX.out ?_; rintro e w9 ⟨rfl, hst⟩; have HST9 := toHid hst; clear hst
            go_wp2_with fail
            refine hK.out _ _ ?_ (fun hHeld => ?_)
            · exact (HSX.out.2 _ _ ((Touch.refl _ _).drew.nil.trans HST9.out.2.2 (fun b hb => Or.inl hb)) (fun b hb => hb)).1
            clear hK K
            try simp only [Act.put, List.getElem_toArray, List.getElem_cons_zero, List.getElem_cons_succ, List.setIfInBounds_toArray, List.set_cons_zero, List.set_cons_succ]
            refine wpAnyH_done (by kernel_rfl) ?_ _
            obtain ⟨⟨d0, d1, d2⟩, d3⟩ := HSX.out.2 _ _ ((Touch.refl _ _).drew.nil.trans HST9.out.2.2 (fun b hb => Or.inl hb)) (fun b hb => hb)
            have HFF := toHid (HFX.out w9 HST9.out)
            clear hHeld
            go_wp2
            go_ret
            exact HFF.out
          | true =>
            have hi := (List.getElem?_eq_some_iff.1 hr).1
            obtain ⟨gb, hgb⟩ := HH.out.mem.some_g hi
            have hrm := List.mem_of_getElem? hr
            have hok := HH.out.mem.ok r hrm
            have HRB := toHid (HH.out.mem.regs r hrm).bytes
            have HBY := toHid (And.intro hok.byte (And.intro hr64 hok.size1))
            have b0 : wr.cell? ⟨y.q, 0, none⟩ = some (.pointer (some ⟨u.m, 0, none⟩)) := by rw [← HH.out.at_]; exact HH.out.ring.self.cell rfl
            have b2 : wr.cell? ⟨y.q, 2, none⟩ = some (slV y.g y.l.length y.cap) := HH.out.ring.self.cell rfl
            have u0 : wr.cell? ⟨u.m, 0, none⟩ = some (slV (some gb) u.all.length u.cap) := by rw [← hgb]; exact HH.out.mem.c0
            have u3 : wr.cell? ⟨gb, i * 5 + 3, none⟩ = some (.slice (some ⟨r.bb, 0, none⟩) r.bytes.length r.bcap) := HH.out.mem.at hgb hr (j := 3) (by omega) rfl
            have hil : (i : Int) < u.all.length := by omega
            have HF : Hid (∀ w1 w2 y1 l', RGStep wr w1 y y1 u u → y1.recs = y.recs → y1.ig = y.ig → y1 = { y with g := y1.g, cap := y1.cap, l := l' } → l'.map KR.bs = y.l.map KR.bs ++ (if true = true then [r.bytes] else []) → Mem.RefStep w1 u (Mem.rkillAll u.all i) w2 → REndPost wr y u addr true (.returned (.int .i64 0)) (w2.setCell ⟨y.ig, k, none⟩ (.int .i64 (-1)))) := fun w1 w2 y1 l' h1 hrec hig hy1 hbs hst => by
              refine ⟨by rw [if_neg (by rw [hf]; omega)], Or.inr ⟨k, i, r, y1.g, y1.cap, l', hlt, hf, hq, hr, hbs, ?_⟩⟩
              have h2 := h1.both.turn (u' := { u with all := Mem.rkillAll u.all i }) hst.1 hst.2.2 rfl (fun b hb => Or.inl (by rw [hst.2.1] at hb; exact hb)) hlt none
              rw [hig] at h2
              have h3 := h1.trans h2
              rw [hy1] at h3
              exact h3
            have HK : Hid (∀ w1 y1, RGStep wr w1 y y1 u u → Calls Try.prog 35 #[.pointer (some ⟨u.m, 0, none⟩), .int .i64 (i : Int)] w1 fun e w' => e = .returned (.int .i64 (Mem.rkillE u.all i)) ∧ Mem.RefStep w1 u (Mem.rkillAll u.all i) w') := fun w1 y1 h1 => Mem.rkill_any h1.both.mem i
            have HST : Hid (∀ w1 y1, RGStep wr w1 y y1 u u → y1.recs = y.recs → y1.ig = y.ig → y1.icap = y.icap → (w1.cell? ⟨y.q, 0, none⟩ = some (.pointer (some ⟨u.m, 0, none⟩)) ∧ w1.cell? ⟨y.q, 1, none⟩ = some (.slice (some ⟨y.ig, 0, none⟩) 8 y.icap) ∧ w1.cell? ⟨y.ig, k, none⟩ = some (.int .i64 (i : Int))) ∧ ∀ w2 S, Touch S w1 w2 → (∀ b ∈ S, b ∈ u.blocks) → (w2.cell? ⟨y.q, 0, none⟩ = some (.pointer (some ⟨u.m, 0, none⟩)) ∧ w2.cell? ⟨y.q, 1, none⟩ = some (.slice (some ⟨y.ig, 0, none⟩) 8 y.icap) ∧ w2.cell? ⟨y.ig, k, none⟩ = some (.int .i64 (i : Int))) ∧ w2.frozen? ⟨y.ig, k, none⟩ = false) := fun w1 y1 h1 hrec hig hic => by
              have g0 : w1.cell? ⟨y.q, 0, none⟩ = some (.pointer (some ⟨u.m, 0, none⟩)) := by rw [← h1.q, ← h1.both.at_]; exact h1.both.ring.self.cell rfl
              have g1 : w1.cell? ⟨y.q, 1, none⟩ = some (.slice (some ⟨y.ig, 0, none⟩) 8 y.icap) := by rw [← h1.q, ← hig, ← hic]; exact h1.both.ring.self.cell rfl
              have g2 : w1.cell? ⟨y.ig, k, none⟩ = some (.int .i64 (i : Int)) := by
                have := h1.both.ring.id_at hlt
                rw [hrec, hs, hig] at this
                exact this
              refine ⟨⟨g0, g1, g2⟩, fun w2 S ht hS => ?_⟩
              have n1 : y.q ∉ S := fun hx => h1.both.apart _ (by rw [← h1.q]; exact y1.mem_q) (hS _ hx)
              have n2 : y.ig ∉ S := fun hx => h1.both.apart _ (by rw [← hig]; exact y1.mem_ig) (hS _ hx)
              obtain ⟨rest, hr9⟩ := h1.both.ring.ids
              have h10 := ht.blk hr9 (by rw [hig]; exact n2)
              rw [hig] at h10
              exact ⟨⟨ht.cell g0 n1, ht.cell g1 n1, ht.cell g2 n2⟩, h10.frozen _⟩
            have hst0 := HH.out.still (Touch.refl [] wr).drew
            have HS6 : Hid (∀ w1, Touch y.g.toList wr w1 → w1.cell? ⟨y.q, 0, none⟩ = some (.pointer (some ⟨u.m, 0, none⟩)) ∧ w1.cell? ⟨y.q, 1, none⟩ = some (.slice (some ⟨y.ig, 0, none⟩) 8 y.icap) ∧ w1.cell? ⟨y.ig, k, none⟩ = some (.int .i64 (i : Int)) ∧ w1.cell? ⟨u.m, 0, none⟩ = some (slV (some gb) u.all.length u.cap) ∧ w1.cell? ⟨gb, i * 5 + 3, none⟩ = some (.slice (some ⟨r.bb, 0, none⟩) r.bytes.length r.bcap)) := fun w1 ht => by
              have n1 : y.q ∉ y.g.toList := fun hx => HH.out.ring.own2 (mem_g (by simpa using hx))
              have n2 : y.ig ∉ y.g.toList := fun hx => HH.out.ring.own3 (mem_g (by simpa using hx))
              have n3 : ∀ b ∈ u.blocks, b ∉ y.g.toList := fun b hb hx => HH.out.apart b (y.mem_rows (mem_g (by simpa using hx))) hb
              exact ⟨ht.cell b0 n1, ht.cell c1 n1, ht.cell hc' n2, ht.cell u0 (n3 _ u.mem_m), ht.cell u3 (n3 _ (u.mem_g hgb))⟩
            have HQ2 : Hid (∀ w1, Touch [] wr w1 → w1.cell? ⟨y.q, 2, none⟩ = some (slV y.g y.l.length y.cap)) := fun w1 ht => ht.cell b2 (by simp)
            have HC6 : Hid (∀ w1, Touch [] wr w1 → ∃ k' w', (Builtin.append_ #[60, 60] 60 #[.slice (some ⟨w1.heap.size, 0, none⟩) 0 0, .slice (some ⟨r.bb, 0, none⟩) r.bytes.length r.bcap]).run Try.prog (w1.alloc (.cells #[] 5)) = .ok (.slice (some ⟨(KR.b k'), 0, none⟩) r.bytes.length (KR.cap k')) w' ∧ k'.At w' ∧ k'.bs = r.bytes ∧ Touch [] w1 w' ∧ w1.heap.size ≤ k'.b) := fun w1 ht => by
              obtain ⟨rest, hb9⟩ := HRB.out
              exact copy_at ⟨rest, ht.blk hb9 (by simp)⟩ HBY.out.1 HBY.out.2.1 HBY.out.2.2 r.bcap
            have HP6 : Hid (∀ (w1 : World) (k' : KR), Touch [] wr w1 → k'.At w1 → k'.bs = r.bytes → wr.heap.size ≤ k'.b → ∃ g' cap' w2, (Builtin.append_ #[55, 55] 55 #[slV y.g y.l.length y.cap, .slice (some ⟨w1.heap.size, 0, none⟩) 1 1]).run Try.prog (w1.alloc (.cells #[.slice (some ⟨k'.b, 0, none⟩) r.bytes.length k'.cap] 60)) = .ok (slV g' (y.l.length + 1) cap') w2 ∧ Touch y.g.toList wr w2 ∧ w2.cell? ⟨y.q, 2, none⟩ = some (slV y.g y.l.length y.cap) ∧ w2.frozen? ⟨y.q, 2, none⟩ = false ∧ RGStep wr (w2.setCell ⟨y.q, 2, none⟩ (slV g' (y.l.length + 1) cap')) y { y with g := g', cap := cap', l := y.l ++ [k'] } u u ∧ (w2.setCell ⟨y.q, 2, none⟩ (slV g' (y.l.length + 1) cap')).cell? ⟨u.m, 0, none⟩ = some (slV (some gb) u.all.length u.cap) ∧ (w2.setCell ⟨y.q, 2, none⟩ (slV g' (y.l.length + 1) cap')).cell? ⟨gb, i * 5 + 3, none⟩ = some (.slice (some ⟨r.bb, 0, none⟩) r.bytes.length r.bcap)) := fun w1 k' ht hA hbs hkf => by
              obtain ⟨g', cap', w2, hr9, hR, ht2, hg⟩ := (HH.out.ring.rows.still ht).push k' hA (fun e => by have := HH.out.ring.rows.lt _ (mem_g e); omega) HHL.out.1
              have n1 : y.q ∉ y.g.toList := fun hx => HH.out.ring.own2 (mem_g (by simpa using hx))
              have hB := ht2.blk (ht.blk HH.out.ring.self (by simp)) n1
              unfold KR.v at hr9
              rw [hbs] at hr9
              have hst := HH.out.pushed ht hA hkf hR ht2 hg
              exact ⟨g', cap', w2, hr9, ht.nil.trans ht2 (fun b hb => Or.inl hb), hB.cell rfl, hB.frozen _, hst, by rw [← hgb]; exact hst.both.mem.c0, hst.both.mem.at hgb hr (j := 3) (by omega) rfl⟩
            have HFX : Hid (∀ w1 w2 g' cap' k', k'.bs = r.bytes → RGStep wr w1 y { y with g := g', cap := cap', l := y.l ++ [k'] } u u → Mem.RefStep w1.drew u (Mem.rkillAll u.all i) w2 → REndPost wr y u addr true (.returned (.int .i64 0)) (w2.setCell ⟨y.ig, k, none⟩ (.int .i64 (-1)))) := fun w1 w2 g' cap' k' hbs h1 h9 => by
              have h1' : RGStep wr w1.drew y { y with g := g', cap := cap', l := y.l ++ [k'] } u u := h1.trans (RGStep.same h1.both (Touch.refl [] w1).drew)
              exact HF.out w1.drew w2 _ (y.l ++ [k']) h1' rfl rfl rfl (by rw [List.map_append]; simp [hbs]) h9
            have HKX : Hid (∀ w1 g' cap' k', RGStep wr w1 y { y with g := g', cap := cap', l := y.l ++ [k'] } u u → Calls Try.prog 35 #[.pointer (some ⟨u.m, 0, none⟩), .int .i64 (i : Int)] w1.drew fun e w' => e = .returned (.int .i64 (Mem.rkillE u.all i)) ∧ Mem.RefStep w1.drew u (Mem.rkillAll u.all i) w') := fun w1 g' cap' k' h1 => HK.out w1.drew _ (h1.trans (RGStep.same h1.both (Touch.refl [] w1).drew))
            have HSXX := toHid (fun (w1 : World) (g' : Option Nat) (cap' : Nat) (k' : KR) (h1 : RGStep wr w1 y { y with g := g', cap := cap', l := y.l ++ [k'] } u u) => HST.out w1 _ h1 rfl rfl rfl)
            clear HF HK HST hst0 hs hq hc h8 hf he hr hr64 hi hgb hrm hok HRB HBY b0 b2 u0 u3 HJ hpl
            unfold slV at HS6 HQ2 HP6
            simp only [Option.map_some] at HS6 HP6
            generalize hQ : y.q = Q at *
            generalize hIG : y.ig = IG at *
            generalize y.icap = icap at *
            generalize u.m = M at *
            generalize hll : y.l.length = ll at *
            generalize (Option.map (fun b => (⟨b, 0, none⟩ : Addr)) y.g) = ga at *
            generalize hgL : y.g.toList = gL at *
            generalize hrl : r.bytes.length = rl at *
            generalize u.all.length = ul at *
            generalize u.cap = uc at *
            go_wp2_with fail
            refine wp_region_held_drew (S := fun w' => w'.cell? ⟨Q, 0, none⟩ = some (.pointer (some ⟨M, 0, none⟩)) ∧ w'.cell? ⟨Q, 1, none⟩ = some (.slice (some ⟨IG, 0, none⟩) 8 icap) ∧ w'.cell? ⟨IG, k, none⟩ = some (.int .i64 (i : Int)) ∧ w'.cell? ⟨M, 0, none⟩ = some (.slice (some ⟨gb, 0, none⟩) ul uc) ∧ w'.cell? ⟨gb, i * 5 + 3, none⟩ = some (.slice (some ⟨r.bb, 0, none⟩) rl r.bcap)) (by kernel_rfl) ?_ (fun hHeld => ?_)
            · exact HS6.out _ (Touch.refl gL wr).drew
            refine wpAnyH_take (i := 0) (v := ?_) rfl (by kernel_rfl) (by kernel_rfl) (by kernel_rfl) (fun _ _ _ h => h) (Or.inl ⟨by rfl, ?_⟩) (by assumption) ?_
            rotate_left
            · (intro w hSw; (try dsimp only at hSw); go_simp; try with_reducible rfl)
            simp only [Act.put, List.getElem_toArray, List.getElem_cons_zero, List.setIfInBounds_toArray, List.set_cons_zero, List.set_cons_succ]
            refine wpAnyH_take (i := 1) (v := ?_) rfl (by kernel_rfl) (by kernel_rfl) (by kernel_rfl) (fun _ _ _ h => h) (Or.inl ⟨by rfl, ?_⟩) (by assumption) ?_
            rotate_left
            · (intro w hSw; (try dsimp only at hSw); go_simp; try with_reducible rfl)
            simp only [Act.put, List.getElem_toArray, List.getElem_cons_zero, List.getElem_cons_succ, List.setIfInBounds_toArray, List.set_cons_zero, List.set_cons_succ]
            refine wpAnyH_take (i := 2) (v := ?_) rfl (by kernel_rfl) (by kernel_rfl) (by kernel_rfl) (fun _ _ _ h => h) (Or.inl ⟨by rfl, ?_⟩) (by assumption) ?_
            rotate_left
            · (intro w hSw; (try dsimp only at hSw); go_simp; try with_reducible rfl)
            simp only [Act.put, List.getElem_toArray, List.getElem_cons_zero, List.getElem_cons_succ, List.setIfInBounds_toArray, List.set_cons_zero, List.set_cons_succ]
            refine wpAnyH_take (i := 3) (v := ?_) rfl (by kernel_rfl) (by kernel_rfl) (by kernel_rfl) (fun _ _ _ h => h) (Or.inl ⟨by rfl, ?_⟩) (by assumption) ?_
            rotate_left
            · (intro w hSw; (try dsimp only at hSw); go_simp; try with_reducible rfl)
            simp only [Act.put, List.getElem_toArray, List.getElem_cons_zero, List.getElem_cons_succ, List.setIfInBounds_toArray, List.set_cons_zero, List.set_cons_succ]
            refine wpAnyH_take (i := 6) (v := ?_) rfl (by kernel_rfl) (by kernel_rfl) (by kernel_rfl) (fun _ _ _ h => h) (Or.inl ⟨by rfl, ?_⟩) (by assumption) ?_
            rotate_left
            · (intro w hSw; (try dsimp only at hSw); go_simp; try with_reducible rfl)
            simp only [Act.put, List.getElem_toArray, List.getElem_cons_zero, List.getElem_cons_succ, List.setIfInBounds_toArray, List.set_cons_zero, List.set_cons_succ]
            refine wpAnyH_take (i := 7) (v := ?_) rfl (by kernel_rfl) (by kernel_rfl) (by kernel_rfl) (fun _ _ _ h => h) (Or.inl ⟨by rfl, ?_⟩) (by assumption) ?_
            rotate_left
            · (intro w hSw; (try dsimp only at hSw); go_simp; try with_reducible rfl)
            simp only [Act.put, List.getElem_toArray, List.getElem_cons_zero, List.getElem_cons_succ, List.setIfInBounds_toArray, List.set_cons_zero, List.set_cons_succ]
            refine wpAnyH_take (i := 8) (v := ?_) rfl (by kernel_rfl) (by kernel_rfl) (by kernel_rfl) (fun _ _ _ h => h) (Or.inl ⟨by rfl, ?_⟩) (by assumption) ?_
            rotate_left
            · (intro w hSw; (try dsimp only at hSw); go_simp; try with_reducible rfl)
            simp only [Act.put, List.getElem_toArray, List.getElem_cons_zero, List.getElem_cons_succ, List.setIfInBounds_toArray, List.set_cons_zero, List.set_cons_succ]
            refine wpAnyH_take (i := 9) (v := ?_) rfl (by kernel_rfl) (by kernel_rfl) (by kernel_rfl) (fun _ _ _ h => h) (Or.inl ⟨by rfl, ?_⟩) (by assumption) ?_
            rotate_left
            · (intro w hSw; (try dsimp only at hSw); go_simp; try with_reducible rfl)
            simp only [Act.put, List.getElem_toArray, List.getElem_cons_zero, List.getElem_cons_succ, List.setIfInBounds_toArray, List.set_cons_zero, List.set_cons_succ]
            refine wpAnyH_take (i := 10) (v := ?_) rfl (by kernel_rfl) (by kernel_rfl) (by kernel_rfl) (fun _ _ _ h => h) (Or.inl ⟨by rfl, ?_⟩) (by assumption) ?_
            rotate_left
            · (intro w hSw; (try dsimp only at hSw); go_simp; try with_reducible rfl)
            simp only [Act.put, List.getElem_toArray, List.getElem_cons_zero, List.getElem_cons_succ, List.setIfInBounds_toArray, List.set_cons_zero, List.set_cons_succ]
            refine wpAnyH_take (i := 11) (v := ?_) rfl (by kernel_rfl) (by kernel_rfl) (by kernel_rfl) (fun _ _ _ h => h) (Or.inl ⟨by rfl, ?_⟩) (by assumption) ?_
            rotate_left
            · (intro w hSw; (try dsimp only at hSw); go_simp; try with_reducible rfl)
            simp only [Act.put, List.getElem_toArray, List.getElem_cons_zero, List.getElem_cons_succ, List.setIfInBounds_toArray, List.set_cons_zero, List.set_cons_succ]
            refine wpAnyH_take (i := 12) (v := ?_) rfl (by kernel_rfl) (by kernel_rfl) (by kernel_rfl) (fun _ _ _ h => h) (Or.inl ⟨by rfl, ?_⟩) (by assumption) ?_
            rotate_left
            · (intro w hSw; (try dsimp only at hSw); go_simp; try with_reducible rfl)
            simp only [Act.put, List.getElem_toArray, List.getElem_cons_zero, List.getElem_cons_succ, List.setIfInBounds_toArray, List.set_cons_zero, List.set_cons_succ]
            refine wpAnyH_take (i := 13) (v := ?_) rfl (by kernel_rfl) (by kernel_rfl) (by kernel_rfl) (fun _ _ _ h => h) (Or.inl ⟨by rfl, ?_⟩) (by assumption) ?_
            rotate_left
            · (intro w hSw; (try dsimp only at hSw); go_simp; try with_reducible rfl)
            simp only [Act.put, List.getElem_toArray, List.getElem_cons_zero, List.getElem_cons_succ, List.setIfInBounds_toArray, List.set_cons_zero, List.set_cons_succ]
            refine wpAnyH_take (i := 14) (v := ?_) rfl (by kernel_rfl) (by kernel_rfl) (by kernel_rfl) (fun _ _ _ h => h) (Or.inl ⟨by rfl, ?_⟩) (by assumption) ?_
            rotate_left
            · (intro w hSw; (try dsimp only at hSw); go_simp; try with_reducible rfl)
            simp only [Act.put, List.getElem_toArray, List.getElem_cons_zero, List.getElem_cons_succ, List.setIfInBounds_toArray, List.set_cons_zero, List.set_cons_succ]
            refine wpAnyH_take (i := 15) (v := ?_) rfl (by kernel_rfl) (by kernel_rfl) (by kernel_rfl) (fun _ _ _ h => h) (Or.inl ⟨by rfl, ?_⟩) (by assumption) ?_
            rotate_left
            · (intro w hSw; (try dsimp only at hSw); go_simp; try with_reducible rfl)
            simp only [Act.put, List.getElem_toArray, List.getElem_cons_zero, List.getElem_cons_succ, List.setIfInBounds_toArray, List.set_cons_zero, List.set_cons_succ]
            refine wpAnyH_take (i := 16) (v := ?_) rfl (by kernel_rfl) (by kernel_rfl) (by kernel_rfl) (fun _ _ _ h => h) (Or.inl ⟨by rfl, ?_⟩) (by assumption) ?_
            rotate_left
            · (intro w hSw; (try dsimp only at hSw); go_simp; try with_reducible rfl)
            simp only [Act.put, List.getElem_toArray, List.getElem_cons_zero, List.getElem_cons_succ, List.setIfInBounds_toArray, List.set_cons_zero, List.set_cons_succ]
            refine wpAnyH_take (i := 17) (v := ?_) rfl (by kernel_rfl) (by kernel_rfl) (by kernel_rfl) (fun _ _ _ h => h) (Or.inl ⟨by rfl, ?_⟩) (by assumption) ?_
            rotate_left
            · (intro w hSw; (try dsimp only at hSw); go_simp; try with_reducible rfl)
            simp only [Act.put, List.getElem_toArray, List.getElem_cons_zero, List.getElem_cons_succ, List.setIfInBounds_toArray, List.set_cons_zero, List.set_cons_succ]
            refine wpAnyH_take (i := 18) (v := ?_) rfl (by kernel_rfl) (by kernel_rfl) (by kernel_rfl) (fun _ _ _ h => h) (Or.inl ⟨by rfl, ?_⟩) (by assumption) ?_
            rotate_left
            · (intro w hSw; (try dsimp only at hSw); go_simp; try with_reducible rfl)
            simp only [Act.put, List.getElem_toArray, List.getElem_cons_zero, List.getElem_cons_succ, List.setIfInBounds_toArray, List.set_cons_zero, List.set_cons_succ]
            refine wpAnyH_take (i := 19) (v := ?_) rfl (by kernel_rfl) (by kernel_rfl) (by kernel_rfl) (fun _ _ _ h => h) (Or.inl ⟨by rfl, ?_⟩) (by assumption) ?_
            rotate_left
            · (intro w hSw; (try dsimp only at hSw); go_simp; try with_reducible rfl)
            simp only [Act.put, List.getElem_toArray, List.getElem_cons_zero, List.getElem_cons_succ, List.setIfInBounds_toArray, List.set_cons_zero, List.set_cons_succ]
            refine wpAnyH_take (i := 20) (v := ?_) rfl (by kernel_rfl) (by kernel_rfl) (by kernel_rfl) (fun _ _ _ h => h) (Or.inl ⟨by rfl, ?_⟩) (by assumption) ?_
            rotate_left
            · (intro w hSw; (try dsimp only at hSw); go_simp; try with_reducible rfl)
            simp only [Act.put, List.getElem_toArray, List.getElem_cons_zero, List.getElem_cons_succ, List.setIfInBounds_toArray, List.set_cons_zero, List.set_cons_succ]
            refine wpAnyH_take (i := 21) (v := ?_) rfl (by kernel_rfl) (by kernel_rfl) (by kernel_rfl) (fun _ _ _ h => h) (Or.inl ⟨by rfl, ?_⟩) (by assumption) ?_
            rotate_left
            · (intro w hSw; (try dsimp only at hSw); go_simp; try with_reducible rfl)
            simp only [Act.put, List.getElem_toArray, List.getElem_cons_zero, List.getElem_cons_succ, List.setIfInBounds_toArray, List.set_cons_zero, List.set_cons_succ]
            refine wpAnyH_take (i := 22) (v := ?_) rfl (by kernel_rfl) (by kernel_rfl) (by kernel_rfl) (fun _ _ _ h => h) (Or.inl ⟨by rfl, ?_⟩) (by assumption) ?_
            rotate_left
            · (intro w hSw; (try dsimp only at hSw); go_simp; try with_reducible rfl)
            simp only [Act.put, List.getElem_toArray, List.getElem_cons_zero, List.getElem_cons_succ, List.setIfInBounds_toArray, List.set_cons_zero, List.set_cons_succ]
            refine wpAnyH_ready (rs := [4, 5]) (by kernel_rfl) (by simp) ?_
            refine (AllReadyH.cons rfl (fun K hK => ?_) (AllReadyH.cons rfl (fun K hK => ?_) AllReadyH.nil))
            · have hq := HQ2.out (wr.drew) ((Touch.refl [] wr).drew)
              simp only [List.getElem_toArray, List.getElem_cons_zero, List.getElem_cons_succ]
              go_simp
              refine hK.out _ _ ?_ (fun hHeld => ?_)
              · exact HS6.out _ ((Touch.refl [] wr).drew).nil
              clear hK K
              try simp only [Act.put, List.getElem_toArray, List.getElem_cons_zero, List.getElem_cons_succ, List.setIfInBounds_toArray, List.set_cons_zero, List.set_cons_succ]
              clear hq
              refine wpAnyH_ready (rs := [5]) (by kernel_rfl) (by simp) ?_
              refine (AllReadyH.cons rfl (fun K hK => ?_) AllReadyH.nil)
              simp only [List.getElem_toArray, List.getElem_cons_zero, List.getElem_cons_succ]
              go_simp
              refine hK.out _ _ ?_ (fun hHeld => ?_)
              · exact HS6.out _ (((Touch.refl [] wr).drew).alloc _).nil
              clear hK K
              try simp only [Act.put, List.getElem_toArray, List.getElem_cons_zero, List.getElem_cons_succ, List.setIfInBounds_toArray, List.set_cons_zero, List.set_cons_succ]
              refine wpAnyH_ready (rs := [23]) (by kernel_rfl) (by simp) ?_
              refine (AllReadyH.cons rfl (fun K hK => ?_) AllReadyH.nil)
              obtain ⟨k5, w5, hr5, hA5, hbs5, ht5, hf5⟩ := HC6.out wr.drew ((Touch.refl [] wr).drew)
              have T5 : Touch [] wr w5 := ((Touch.refl [] wr).drew).trans ht5 (by simp)
              obtain ⟨g6, cap6, w6, hr6, ht6, e1, e2, hG6, z1, z2⟩ := HP6.out w5 k5 T5 hA5 hbs5 hf5
              have HR5 := toHid hr5
              have HR6 := toHid hr6
              have HT5 := toHid T5
              have HT6 := toHid (And.intro ht6 (And.intro e1 e2))
              have HG6 := toHid (And.intro hG6 (And.intro z1 z2))
              have hsx := HSXX.out _ _ _ _ hG6
              have HSZ := toHid (And.intro hsx.1.1 (And.intro hsx.1.2.1 (And.intro hsx.1.2.2 (And.intro z1 z2))))
              have HSX := toHid hsx
              have HKX2 := toHid (HKX.out _ _ _ _ hG6)
              have HFX2 := toHid (fun w2 h9 => HFX.out _ w2 _ _ _ hbs5 hG6 h9)
              clear hr5 hr6 T5 ht6 e1 e2 hG6 hA5 ht5 hf5 z1 z2 hsx hbs5
              refine Mem.step_append_known rfl (.tmp 38) (.tmp 55) 60 60 rfl (.slice (some ⟨wr.drew.heap.size, 0, none⟩) 0 0) (.slice (some ⟨r.bb, 0, none⟩) rl r.bcap) (by simp [Act.eval]) (by simp [Act.eval]) HR5.out ?_
              refine hK.out _ _ ?_ (fun hHeld => ?_)
              · exact HS6.out _ HT5.out.nil
              clear hK K
              try simp only [Act.put, List.getElem_toArray, List.getElem_cons_zero, List.getElem_cons_succ, List.setIfInBounds_toArray, List.set_cons_zero, List.set_cons_succ]
              refine wpAnyH_ready (rs := [24]) (by kernel_rfl) (by simp) ?_
              refine (AllReadyH.cons rfl (fun K hK => ?_) AllReadyH.nil)
              simp only [List.getElem_toArray, List.getElem_cons_zero, List.getElem_cons_succ]
              go_simp
              refine hK.out _ _ ?_ (fun hHeld => ?_)
              · exact HS6.out _ (HT5.out.alloc _).nil
              clear hK K
              try simp only [Act.put, List.getElem_toArray, List.getElem_cons_zero, List.getElem_cons_succ, List.setIfInBounds_toArray, List.set_cons_zero, List.set_cons_succ]
              refine wpAnyH_ready (rs := [25]) (by kernel_rfl) (by simp) ?_
              refine (AllReadyH.cons rfl (fun K hK => ?_) AllReadyH.nil)
              refine Mem.step_append_known rfl (.tmp 37) (.tmp 57) 55 55 rfl (.slice ga ll y.cap) (.slice (some ⟨w5.heap.size, 0, none⟩) 1 1) (by simp [Act.eval]) (by simp [Act.eval]) HR6.out ?_
              refine hK.out _ _ ?_ (fun hHeld => ?_)
              · exact HS6.out _ HT6.out.1
              clear hK K
              try simp only [Act.put, List.getElem_toArray, List.getElem_cons_zero, List.getElem_cons_succ, List.setIfInBounds_toArray, List.set_cons_zero, List.set_cons_succ]
              refine wpAnyH_take (i := 26) (v := ?_) rfl (by kernel_rfl) (by kernel_rfl) (by kernel_rfl) (fun _ _ _ h => h) (Or.inl ⟨by rfl, ?_⟩) (by assumption) ?_
              rotate_left
              · (intro w hSw; (try dsimp only at hSw); go_simp; try with_reducible rfl)
              simp only [Act.put, List.getElem_toArray, List.getElem_cons_zero, List.getElem_cons_succ, List.setIfInBounds_toArray, List.set_cons_zero, List.set_cons_succ]
              refine wpAnyH_take (i := 27) (v := ?_) rfl (by kernel_rfl) (by kernel_rfl) (by kernel_rfl) (fun _ _ _ h => h) (Or.inl ⟨by rfl, ?_⟩) (by assumption) ?_
              rotate_left
              · (intro w hSw; (try dsimp only at hSw); go_simp; try with_reducible rfl)
              simp only [Act.put, List.getElem_toArray, List.getElem_cons_zero, List.getElem_cons_succ, List.setIfInBounds_toArray, List.set_cons_zero, List.set_cons_succ]
              obtain ⟨e1, e2⟩ := HT6.out.2
              refine wpAnyH_ready (rs := [28]) (by kernel_rfl) (by simp) ?_
              refine (AllReadyH.cons rfl (fun K hK => ?_) AllReadyH.nil)
              simp only [List.getElem_toArray, List.getElem_cons_zero, List.getElem_cons_succ]
              go_simp
              refine hK.out _ _ ?_ (fun hHeld => ?_)
              · exact HSZ.out
              clear hK K
              try simp only [Act.put, List.getElem_toArray, List.getElem_cons_zero, List.getElem_cons_succ, List.setIfInBounds_toArray, List.set_cons_zero, List.set_cons_succ]
              refine wpAnyH_done (by kernel_rfl) ?_ _
              clear e1 e2
              go_wp2_with fail
              refine wp_region_held_drew (S := fun w' => w'.cell? ⟨Q, 0, none⟩ = some (.pointer (some ⟨M, 0, none⟩)) ∧ w'.cell? ⟨Q, 1, none⟩ = some (.slice (some ⟨IG, 0, none⟩) 8 icap) ∧ w'.cell? ⟨IG, k, none⟩ = some (.int .i64 (i : Int))) (by kernel_rfl) ?_ (fun hHeld => ?_)
              · exact (HSX.out.2 _ [] (Touch.refl _ _).drew (by simp)).1
              refine wpAnyH_take (i := 0) (v := ?_) rfl (by kernel_rfl) (by kernel_rfl) (by kernel_rfl) (fun _ _ _ h => h) (Or.inl ⟨by rfl, ?_⟩) (by assumption) ?_
              rotate_left
              · (intro w hSw; (try dsimp only at hSw); go_simp; try with_reducible rfl)
              simp only [Act.put, List.getElem_toArray, List.getElem_cons_zero, List.setIfInBounds_toArray, List.set_cons_zero, List.set_cons_succ]
              refine wpAnyH_take (i := 1) (v := ?_) rfl (by kernel_rfl) (by kernel_rfl) (by kernel_rfl) (fun _ _ _ h => h) (Or.inl ⟨by rfl, ?_⟩) (by assumption) ?_
              rotate_left
              · (intro w hSw; (try dsimp only at hSw); go_simp; try with_reducible rfl)
              simp only [Act.put, List.getElem_toArray, List.getElem_cons_zero, List.getElem_cons_succ, List.setIfInBounds_toArray, List.set_cons_zero, List.set_cons_succ]
              refine wpAnyH_take (i := 2) (v := ?_) rfl (by kernel_rfl) (by kernel_rfl) (by kernel_rfl) (fun _ _ _ h => h) (Or.inl ⟨by rfl, ?_⟩) (by assumption) ?_
              rotate_left
              · (intro w hSw; (try dsimp only at hSw); go_simp; try with_reducible rfl)
              simp only [Act.put, List.getElem_toArray, List.getElem_cons_zero, List.getElem_cons_succ, List.setIfInBounds_toArray, List.set_cons_zero, List.set_cons_succ]
              refine wpAnyH_take (i := 3) (v := ?_) rfl (by kernel_rfl) (by kernel_rfl) (by kernel_rfl) (fun _ _ _ h => h) (Or.inl ⟨by rfl, ?_⟩) (by assumption) ?_
              rotate_left
              · (intro w hSw; (try dsimp only at hSw); go_simp; try with_reducible rfl)
              simp only [Act.put, List.getElem_toArray, List.getElem_cons_zero, List.getElem_cons_succ, List.setIfInBounds_toArray, List.set_cons_zero, List.set_cons_succ]
              refine wpAnyH_take (i := 4) (v := ?_) rfl (by kernel_rfl) (by kernel_rfl) (by kernel_rfl) (fun _ _ _ h => h) (Or.inl ⟨by rfl, ?_⟩) (by assumption) ?_
              rotate_left
              · (intro w hSw; (try dsimp only at hSw); go_simp; try with_reducible rfl)
              simp only [Act.put, List.getElem_toArray, List.getElem_cons_zero, List.getElem_cons_succ, List.setIfInBounds_toArray, List.set_cons_zero, List.set_cons_succ]
              refine wpAnyH_take (i := 5) (v := ?_) rfl (by kernel_rfl) (by kernel_rfl) (by kernel_rfl) (fun _ _ _ h => h) (Or.inl ⟨by rfl, ?_⟩) (by assumption) ?_
              rotate_left
              · (intro w hSw; (try dsimp only at hSw); go_simp; try with_reducible rfl)
              simp only [Act.put, List.getElem_toArray, List.getElem_cons_zero, List.getElem_cons_succ, List.setIfInBounds_toArray, List.set_cons_zero, List.set_cons_succ]
              refine wpAnyH_take (i := 6) (v := ?_) rfl (by kernel_rfl) (by kernel_rfl) (by kernel_rfl) (fun _ _ _ h => h) (Or.inl ⟨by rfl, ?_⟩) (by assumption) ?_
              rotate_left
              · (intro w hSw; (try dsimp only at hSw); go_simp; try with_reducible rfl)
              simp only [Act.put, List.getElem_toArray, List.getElem_cons_zero, List.getElem_cons_succ, List.setIfInBounds_toArray, List.set_cons_zero, List.set_cons_succ]
              refine wpAnyH_take (i := 7) (v := ?_) rfl (by kernel_rfl) (by kernel_rfl) (by kernel_rfl) (fun _ _ _ h => h) (Or.inl ⟨by rfl, ?_⟩) (by assumption) ?_
              rotate_left
              · (intro w hSw; (try dsimp only at hSw); go_simp; try with_reducible rfl)
              simp only [Act.put, List.getElem_toArray, List.getElem_cons_zero, List.getElem_cons_succ, List.setIfInBounds_toArray, List.set_cons_zero, List.set_cons_succ]
              refine wpAnyH_take (i := 8) (v := ?_) rfl (by kernel_rfl) (by kernel_rfl) (by kernel_rfl) (fun _ _ _ h => h) (Or.inl ⟨by rfl, ?_⟩) (by assumption) ?_
              rotate_left
              · (intro w hSw; (try dsimp only at hSw); go_simp; try with_reducible rfl)
              simp only [Act.put, List.getElem_toArray, List.getElem_cons_zero, List.getElem_cons_succ, List.setIfInBounds_toArray, List.set_cons_zero, List.set_cons_succ]
              refine wpAnyH_take (i := 9) (v := ?_) rfl (by kernel_rfl) (by kernel_rfl) (by kernel_rfl) (fun _ _ _ h => h) (Or.inl ⟨by rfl, ?_⟩) (by assumption) ?_
              rotate_left
              · (intro w hSw; (try dsimp only at hSw); go_simp; try with_reducible rfl)
              simp only [Act.put, List.getElem_toArray, List.getElem_cons_zero, List.getElem_cons_succ, List.setIfInBounds_toArray, List.set_cons_zero, List.set_cons_succ]
              refine wpAnyH_take (i := 10) (v := ?_) rfl (by kernel_rfl) (by kernel_rfl) (by kernel_rfl) (fun _ _ _ h => h) (Or.inl ⟨by rfl, ?_⟩) (by assumption) ?_
              rotate_left
              · (intro w hSw; (try dsimp only at hSw); go_simp; try with_reducible rfl)
              simp only [Act.put, List.getElem_toArray, List.getElem_cons_zero, List.getElem_cons_succ, List.setIfInBounds_toArray, List.set_cons_zero, List.set_cons_succ]
              refine wpAnyH_ready (rs := [11]) (by kernel_rfl) (by simp) ?_
              refine AllReadyH.cons rfl (fun K hK => ?_) AllReadyH.nil
              simp only [List.getElem_toArray, List.getElem_cons_zero, List.getElem_cons_succ]
              go_simp
              refine Calls.mono HKX2.out ?_; rintro e w9 ⟨rfl, hst⟩; have HST9 := toHid hst; clear hst
              go_wp2_with fail
              refine hK.out _ _ ?_ (fun hHeld => ?_)
              · exact (HSX.out.2 _ _ ((Touch.refl _ _).drew.nil.trans HST9.out.2.2 (fun b hb => Or.inl hb)) (fun b hb => hb)).1
              clear hK K
              try simp only [Act.put, List.getElem_toArray, List.getElem_cons_zero, List.getElem_cons_succ, List.setIfInBounds_toArray, List.set_cons_zero, List.set_cons_succ]
              refine wpAnyH_done (by kernel_rfl) ?_ _
              obtain ⟨⟨d0, d1, d2⟩, d3⟩ := HSX.out.2 _ _ ((Touch.refl _ _).drew.nil.trans HST9.out.2.2 (fun b hb => Or.inl hb)) (fun b hb => hb)
              have HFF := toHid (HFX2.out w9 HST9.out)
              clear hHeld
              go_wp2
              go_ret
              exact HFF.out
            · simp only [List.getElem_toArray, List.getElem_cons_zero, List.getElem_cons_succ]
              go_simp
              refine hK.out _ _ ?_ (fun hHeld => ?_)
              · exact HS6.out _ (((Touch.refl [] wr).drew).alloc _).nil
              clear hK K
              try simp only [Act.put, List.getElem_toArray, List.getElem_cons_zero, List.getElem_cons_succ, List.setIfInBounds_toArray, List.set_cons_zero, List.set_cons_succ]
              refine wpAnyH_ready (rs := [4, 23]) (by kernel_rfl) (by simp) ?_
              refine (AllReadyH.cons rfl (fun K hK => ?_) (AllReadyH.cons rfl (fun K hK => ?_) AllReadyH.nil))
              · have hq := HQ2.out (((wr.alloc (.cells #[] 5)).drew)) (((Touch.refl [] wr).alloc _).drew)
                simp only [List.getElem_toArray, List.getElem_cons_zero, List.getElem_cons_succ]
                go_simp
                refine hK.out _ _ ?_ (fun hHeld => ?_)
                · exact HS6.out _ (((Touch.refl [] wr).alloc _).drew).nil
                clear hK K
                try simp only [Act.put, List.getElem_toArray, List.getElem_cons_zero, List.getElem_cons_succ, List.setIfInBounds_toArray, List.set_cons_zero, List.set_cons_succ]
                clear hq
                refine wpAnyH_ready (rs := [23]) (by kernel_rfl) (by simp) ?_
                refine (AllReadyH.cons rfl (fun K hK => ?_) AllReadyH.nil)
                obtain ⟨k5, w5, hr5, hA5, hbs5, ht5, hf5⟩ := HC6.out wr.drew ((Touch.refl [] wr).drew)
                have T5 : Touch [] wr w5 := ((Touch.refl [] wr).drew).trans ht5 (by simp)
                obtain ⟨g6, cap6, w6, hr6, ht6, e1, e2, hG6, z1, z2⟩ := HP6.out w5 k5 T5 hA5 hbs5 hf5
                have HR5 := toHid hr5
                have HR6 := toHid hr6
                have HT5 := toHid T5
                have HT6 := toHid (And.intro ht6 (And.intro e1 e2))
                have HG6 := toHid (And.intro hG6 (And.intro z1 z2))
                have hsx := HSXX.out _ _ _ _ hG6
                have HSZ := toHid (And.intro hsx.1.1 (And.intro hsx.1.2.1 (And.intro hsx.1.2.2 (And.intro z1 z2))))
                have HSX := toHid hsx
                have HKX2 := toHid (HKX.out _ _ _ _ hG6)
                have HFX2 := toHid (fun w2 h9 => HFX.out _ w2 _ _ _ hbs5 hG6 h9)
                clear hr5 hr6 T5 ht6 e1 e2 hG6 hA5 ht5 hf5 z1 z2 hsx hbs5
                refine Mem.step_append_known rfl (.tmp 38) (.tmp 55) 60 60 rfl (.slice (some ⟨wr.drew.heap.size, 0, none⟩) 0 0) (.slice (some ⟨r.bb, 0, none⟩) rl r.bcap) (by simp [Act.eval]) (by simp [Act.eval]) HR5.out ?_
                refine hK.out _ _ ?_ (fun hHeld => ?_)
                · exact HS6.out _ HT5.out.nil
                clear hK K
                try simp only [Act.put, List.getElem_toArray, List.getElem_cons_zero, List.getElem_cons_succ, List.setIfInBounds_toArray, List.set_cons_zero, List.set_cons_succ]
                refine wpAnyH_ready (rs := [24]) (by kernel_rfl) (by simp) ?_
                refine (AllReadyH.cons rfl (fun K hK => ?_) AllReadyH.nil)
                simp only [List.getElem_toArray, List.getElem_cons_zero, List.getElem_cons_succ]
                go_simp
                refine hK.out _ _ ?_ (fun hHeld => ?_)
                · exact HS6.out _ (HT5.out.alloc _).nil
                clear hK K
                try simp only [Act.put, List.getElem_toArray, List.getElem_cons_zero, List.getElem_cons_succ, List.setIfInBounds_toArray, List.set_cons_zero, List.set_cons_succ]
                refine wpAnyH_ready (rs := [25]) (by kernel_rfl) (by simp) ?_
                refine (AllReadyH.cons rfl (fun K hK => ?_) AllReadyH.nil)
                refine Mem.step_append_known rfl (.tmp 37) (.tmp 57) 55 55 rfl (.slice ga ll y.cap) (.slice (some ⟨w5.heap.size, 0, none⟩) 1 1) (by simp [Act.eval]) (by simp [Act.eval]) HR6.out ?_
                refine hK.out _ _ ?_ (fun hHeld => ?_)
                · exact HS6.out _ HT6.out.1
                clear hK K
                try simp only [Act.put, List.getElem_toArray, List.getElem_cons_zero, List.getElem_cons_succ, List.setIfInBounds_toArray, List.set_cons_zero, List.set_cons_succ]
                refine wpAnyH_take (i := 26) (v := ?_) rfl (by kernel_rfl) (by kernel_rfl) (by kernel_rfl) (fun _ _ _ h => h) (Or.inl ⟨by rfl, ?_⟩) (by assumption) ?_
                rotate_left
                · (intro w hSw; (try dsimp only at hSw); go_simp; try with_reducible rfl)
                simp only [Act.put, List.getElem_toArray, List.getElem_cons_zero, List.getElem_cons_succ, List.setIfInBounds_toArray, List.set_cons_zero, List.set_cons_succ]
                refine wpAnyH_take (i := 27) (v := ?_) rfl (by kernel_rfl) (by kernel_rfl) (by kernel_rfl) (fun _ _ _ h => h) (Or.inl ⟨by rfl, ?_⟩) (by assumption) ?_
                rotate_left
                · (intro w hSw; (try dsimp only at hSw); go_simp; try with_reducible rfl)
                simp only [Act.put, List.getElem_toArray, List.getElem_cons_zero, List.getElem_cons_succ, List.setIfInBounds_toArray, List.set_cons_zero, List.set_cons_succ]
                obtain ⟨e1, e2⟩ := HT6.out.2
                refine wpAnyH_ready (rs := [28]) (by kernel_rfl) (by simp) ?_
                refine (AllReadyH.cons rfl (fun K hK => ?_) AllReadyH.nil)
                simp only [List.getElem_toArray, List.getElem_cons_zero, List.getElem_cons_succ]
                go_simp
                refine hK.out _ _ ?_ (fun hHeld => ?_)
                · exact HSZ.out
                clear hK K
                try simp only [Act.put, List.getElem_toArray, List.getElem_cons_zero, List.getElem_cons_succ, List.setIfInBounds_toArray, List.set_cons_zero, List.set_cons_succ]
                refine wpAnyH_done (by kernel_rfl) ?_ _
                clear e1 e2
                go_wp2_with fail
                refine wp_region_held_drew (S := fun w' => w'.cell? ⟨Q, 0, none⟩ = some (.pointer (some ⟨M, 0, none⟩)) ∧ w'.cell? ⟨Q, 1, none⟩ = some (.slice (some ⟨IG, 0, none⟩) 8 icap) ∧ w'.cell? ⟨IG, k, none⟩ = some (.int .i64 (i : Int))) (by kernel_rfl) ?_ (fun hHeld => ?_)
                · exact (HSX.out.2 _ [] (Touch.refl _ _).drew (by simp)).1
                refine wpAnyH_take (i := 0) (v := ?_) rfl (by kernel_rfl) (by kernel_rfl) (by kernel_rfl) (fun _ _ _ h => h) (Or.inl ⟨by rfl, ?_⟩) (by assumption) ?_
                rotate_left
                · (intro w hSw; (try dsimp only at hSw); go_simp; try with_reducible rfl)
                simp only [Act.put, List.getElem_toArray, List.getElem_cons_zero, List.setIfInBounds_toArray, List.set_cons_zero, List.set_cons_succ]
                refine wpAnyH_take (i := 1) (v := ?_) rfl (by kernel_rfl) (by kernel_rfl) (by kernel_rfl) (fun _ _ _ h => h) (Or.inl ⟨by rfl, ?_⟩) (by assumption) ?_
                rotate_left
                · (intro w hSw; (try dsimp only at hSw); go_simp; try with_reducible rfl)
                simp only [Act.put, List.getElem_toArray, List.getElem_cons_zero, List.getElem_cons_succ, List.setIfInBounds_toArray, List.set_cons_zero, List.set_cons_succ]
                refine wpAnyH_take (i := 2) (v := ?_) rfl (by kernel_rfl) (by kernel_rfl) (by kernel_rfl) (fun _ _ _ h => h) (Or.inl ⟨by rfl, ?_⟩) (by assumption) ?_
                rotate_left
                · (intro w hSw; (try dsimp only at hSw); go_simp; try with_reducible rfl)
                simp only [Act.put, List.getElem_toArray, List.getElem_cons_zero, List.getElem_cons_succ, List.setIfInBounds_toArray, List.set_cons_zero, List.set_cons_succ]
                refine wpAnyH_take (i := 3) (v := ?_) rfl (by kernel_rfl) (by kernel_rfl) (by kernel_rfl) (fun _ _ _ h => h) (Or.inl ⟨by rfl, ?_⟩) (by assumption) ?_
                rotate_left
                · (intro w hSw; (try dsimp only at hSw); go_simp; try with_reducible rfl)
                simp only [Act.put, List.getElem_toArray, List.getElem_cons_zero, List.getElem_cons_succ, List.setIfInBounds_toArray, List.set_cons_zero, List.set_cons_succ]
                refine wpAnyH_take (i := 4) (v := ?_) rfl (by kernel_rfl) (by kernel_rfl) (by kernel_rfl) (fun _ _ _ h => h) (Or.inl ⟨by rfl, ?_⟩) (by assumption) ?_
                rotate_left
                · (intro w hSw; (try dsimp only at hSw); go_simp; try with_reducible rfl)
                simp only [Act.put, List.getElem_toArray, List.getElem_cons_zero, List.getElem_cons_succ, List.setIfInBounds_toArray, List.set_cons_zero, List.set_cons_succ]
                refine wpAnyH_take (i := 5) (v := ?_) rfl (by kernel_rfl) (by kernel_rfl) (by kernel_rfl) (fun _ _ _ h => h) (Or.inl ⟨by rfl, ?_⟩) (by assumption) ?_
                rotate_left
                · (intro w hSw; (try dsimp only at hSw); go_simp; try with_reducible rfl)
                simp only [Act.put, List.getElem_toArray, List.getElem_cons_zero, List.getElem_cons_succ, List.setIfInBounds_toArray, List.set_cons_zero, List.set_cons_succ]
                refine wpAnyH_take (i := 6) (v := ?_) rfl (by kernel_rfl) (by kernel_rfl) (by kernel_rfl) (fun _ _ _ h => h) (Or.inl ⟨by rfl, ?_⟩) (by assumption) ?_
                rotate_left
                · (intro w hSw; (try dsimp only at hSw); go_simp; try with_reducible rfl)
                simp only [Act.put, List.getElem_toArray, List.getElem_cons_zero, List.getElem_cons_succ, List.setIfInBounds_toArray, List.set_cons_zero, List.set_cons_succ]
                refine wpAnyH_take (i := 7) (v := ?_) rfl (by kernel_rfl) (by kernel_rfl) (by kernel_rfl) (fun _ _ _ h => h) (Or.inl ⟨by rfl, ?_⟩) (by assumption) ?_
                rotate_left
                · (intro w hSw; (try dsimp only at hSw); go_simp; try with_reducible rfl)
                simp only [Act.put, List.getElem_toArray, List.getElem_cons_zero, List.getElem_cons_succ, List.setIfInBounds_toArray, List.set_cons_zero, List.set_cons_succ]
                refine wpAnyH_take (i := 8) (v := ?_) rfl (by kernel_rfl) (by kernel_rfl) (by kernel_rfl) (fun _ _ _ h => h) (Or.inl ⟨by rfl, ?_⟩) (by assumption) ?_
                rotate_left
                · (intro w hSw; (try dsimp only at hSw); go_simp; try with_reducible rfl)
                simp only [Act.put, List.getElem_toArray, List.getElem_cons_zero, List.getElem_cons_succ, List.setIfInBounds_toArray, List.set_cons_zero, List.set_cons_succ]
                refine wpAnyH_take (i := 9) (v := ?_) rfl (by kernel_rfl) (by kernel_rfl) (by kernel_rfl) (fun _ _ _ h => h) (Or.inl ⟨by rfl, ?_⟩) (by assumption) ?_
                rotate_left
                · (intro w hSw; (try dsimp only at hSw); go_simp; try with_reducible rfl)
                simp only [Act.put, List.getElem_toArray, List.getElem_cons_zero, List.getElem_cons_succ, List.setIfInBounds_toArray, List.set_cons_zero, List.set_cons_succ]
                refine wpAnyH_take (i := 10) (v := ?_) rfl (by kernel_rfl) (by kernel_rfl) (by kernel_rfl) (fun _ _ _ h => h) (Or.inl ⟨by rfl, ?_⟩) (by assumption) ?_
                rotate_left
                · (intro w hSw; (try dsimp only at hSw); go_simp; try with_reducible rfl)
                simp only [Act.put, List.getElem_toArray, List.getElem_cons_zero, List.getElem_cons_succ, List.setIfInBounds_toArray, List.set_cons_zero, List.set_cons_succ]
                refine wpAnyH_ready (rs := [11]) (by kernel_rfl) (by simp) ?_
                refine AllReadyH.cons rfl (fun K hK => ?_) AllReadyH.nil
                simp only [List.getElem_toArray, List.getElem_cons_zero, List.getElem_cons_succ]
                go_simp
                refine Calls.mono HKX2.out ?_; rintro e w9 ⟨rfl, hst⟩; have HST9 := toHid hst; clear hst
                go_wp2_with fail
                refine hK.out _ _ ?_ (fun hHeld => ?_)
                · exact (HSX.out.2 _ _ ((Touch.refl _ _).drew.nil.trans HST9.out.2.2 (fun b hb => Or.inl hb)) (fun b hb => hb)).1
                clear hK K
                try simp only [Act.put, List.getElem_toArray, List.getElem_cons_zero, List.getElem_cons_succ, List.setIfInBounds_toArray, List.set_cons_zero, List.set_cons_succ]
                refine wpAnyH_done (by kernel_rfl) ?_ _
                obtain ⟨⟨d0, d1, d2⟩, d3⟩ := HSX.out.2 _ _ ((Touch.refl _ _).drew.nil.trans HST9.out.2.2 (fun b hb => Or.inl hb)) (fun b hb => hb)
                have HFF := toHid (HFX2.out w9 HST9.out)
                clear hHeld
                go_wp2
                go_ret
                exact HFF.out
              · obtain ⟨k5, w5, hr5, hA5, hbs5, ht5, hf5⟩ := HC6.out wr.drew ((Touch.refl [] wr).drew)
                have T5 : Touch [] wr w5 := ((Touch.refl [] wr).drew).trans ht5 (by simp)
                obtain ⟨g6, cap6, w6, hr6, ht6, e1, e2, hG6, z1, z2⟩ := HP6.out w5 k5 T5 hA5 hbs5 hf5
                have HR5 := toHid hr5
                have HR6 := toHid hr6
                have HT5 := toHid T5
                have HT6 := toHid (And.intro ht6 (And.intro e1 e2))
                have HG6 := toHid (And.intro hG6 (And.intro z1 z2))
                have hsx := HSXX.out _ _ _ _ hG6
                have HSZ := toHid (And.intro hsx.1.1 (And.intro hsx.1.2.1 (And.intro hsx.1.2.2 (And.intro z1 z2))))
                have HSX := toHid hsx
                have HKX2 := toHid (HKX.out _ _ _ _ hG6)
                have HFX2 := toHid (fun w2 h9 => HFX.out _ w2 _ _ _ hbs5 hG6 h9)
                clear hr5 hr6 T5 ht6 e1 e2 hG6 hA5 ht5 hf5 z1 z2 hsx hbs5
                refine Mem.step_append_known rfl (.tmp 38) (.tmp 55) 60 60 rfl (.slice (some ⟨wr.drew.heap.size, 0, none⟩) 0 0) (.slice (some ⟨r.bb, 0, none⟩) rl r.bcap) (by simp [Act.eval]) (by simp [Act.eval]) HR5.out ?_
                refine hK.out _ _ ?_ (fun hHeld => ?_)
                · exact HS6.out _ HT5.out.nil
                clear hK K
                try simp only [Act.put, List.getElem_toArray, List.getElem_cons_zero, List.getElem_cons_succ, List.setIfInBounds_toArray, List.set_cons_zero, List.set_cons_succ]
                refine wpAnyH_ready (rs := [4, 24]) (by kernel_rfl) (by simp) ?_
                refine (AllReadyH.cons rfl (fun K hK => ?_) (AllReadyH.cons rfl (fun K hK => ?_) AllReadyH.nil))
                · have hq := HQ2.out (w5) (HT5.out)
                  simp only [List.getElem_toArray, List.getElem_cons_zero, List.getElem_cons_succ]
                  go_simp
                  refine hK.out _ _ ?_ (fun hHeld => ?_)
                  · exact HS6.out _ (HT5.out).nil
                  clear hK K
                  try simp only [Act.put, List.getElem_toArray, List.getElem_cons_zero, List.getElem_cons_succ, List.setIfInBounds_toArray, List.set_cons_zero, List.set_cons_succ]
                  clear hq
                  refine wpAnyH_ready (rs := [24]) (by kernel_rfl) (by simp) ?_
                  refine (AllReadyH.cons rfl (fun K hK => ?_) AllReadyH.nil)
                  simp only [List.getElem_toArray, List.getElem_cons_zero, List.getElem_cons_succ]
                  go_simp
                  refine hK.out _ _ ?_ (fun hHeld => ?_)
                  · exact HS6.out _ (HT5.out.alloc _).nil
                  clear hK K
                  try simp only [Act.put, List.getElem_toArray, List.getElem_cons_zero, List.getElem_cons_succ, List.setIfInBounds_toArray, List.set_cons_zero, List.set_cons_succ]
                  refine wpAnyH_ready (rs := [25]) (by kernel_rfl) (by simp) ?_
                  refine (AllReadyH.cons rfl (fun K hK => ?_) AllReadyH.nil)
                  refine Mem.step_append_known rfl (.tmp 37) (.tmp 57) 55 55 rfl (.slice ga ll y.cap) (.slice (some ⟨w5.heap.size, 0, none⟩) 1 1) (by simp [Act.eval]) (by simp [Act.eval]) HR6.out ?_
                  refine hK.out _ _ ?_ (fun hHeld => ?_)
                  · exact HS6.out _ HT6.out.1
                  clear hK K
                  try simp only [Act.put, List.getElem_toArray, List.getElem_cons_zero, List.getElem_cons_succ, List.setIfInBounds_toArray, List.set_cons_zero, List.set_cons_succ]
                  refine wpAnyH_take (i := 26) (v := ?_) rfl (by kernel_rfl) (by kernel_rfl) (by kernel_rfl) (fun _ _ _ h => h) (Or.inl ⟨by rfl, ?_⟩) (by assumption) ?_
                  rotate_left
                  · (intro w hSw; (try dsimp only at hSw); go_simp; try with_reducible rfl)
                  simp only [Act.put, List.getElem_toArray, List.getElem_cons_zero, List.getElem_cons_succ, List.setIfInBounds_toArray, List.set_cons_zero, List.set_cons_succ]
                  refine wpAnyH_take (i := 27) (v := ?_) rfl (by kernel_rfl) (by kernel_rfl) (by kernel_rfl) (fun _ _ _ h => h) (Or.inl ⟨by rfl, ?_⟩) (by assumption) ?_
                  rotate_left
                  · (intro w hSw; (try dsimp only at hSw); go_simp; try with_reducible rfl)
                  simp only [Act.put, List.getElem_toArray, List.getElem_cons_zero, List.getElem_cons_succ, List.setIfInBounds_toArray, List.set_cons_zero, List.set_cons_succ]
                  obtain ⟨e1, e2⟩ := HT6.out.2
                  refine wpAnyH_ready (rs := [28]) (by kernel_rfl) (by simp) ?_
                  refine (AllReadyH.cons rfl (fun K hK => ?_) AllReadyH.nil)
                  simp only [List.getElem_toArray, List.getElem_cons_zero, List.getElem_cons_succ]
                  go_simp
                  refine hK.out _ _ ?_ (fun hHeld => ?_)
                  · exact HSZ.out
                  clear hK K
                  try simp only [Act.put, List.getElem_toArray, List.getElem_cons_zero, List.getElem_cons_succ, List.setIfInBounds_toArray, List.set_cons_zero, List.set_cons_succ]
                  refine wpAnyH_done (by kernel_rfl) ?_ _
                  clear e1 e2
                  go_wp2_with fail
                  refine wp_region_held_drew (S := fun w' => w'.cell? ⟨Q, 0, none⟩ = some (.pointer (some ⟨M, 0, none⟩)) ∧ w'.cell? ⟨Q, 1, none⟩ = some (.slice (some ⟨IG, 0, none⟩) 8 icap) ∧ w'.cell? ⟨IG, k, none⟩ = some (.int .i64 (i : Int))) (by kernel_rfl) ?_ (fun hHeld => ?_)
                  · exact (HSX.out.2 _ [] (Touch.refl _ _).drew (by simp)).1
                  refine wpAnyH_take (i := 0) (v := ?_) rfl (by kernel_rfl) (by kernel_rfl) (by kernel_rfl) (fun _ _ _ h => h) (Or.inl ⟨by rfl, ?_⟩) (by assumption) ?_
                  rotate_left
                  · (intro w hSw; (try dsimp only at hSw); go_simp; try with_reducible rfl)
                  simp only [Act.put, List.getElem_toArray, List.getElem_cons_zero, List.setIfInBounds_toArray, List.set_cons_zero, List.set_cons_succ]
                  refine wpAnyH_take (i := 1) (v := ?_) rfl (by kernel_rfl) (by kernel_rfl) (by kernel_rfl) (fun _ _ _ h => h) (Or.inl ⟨by rfl, ?_⟩) (by assumption) ?_
                  rotate_left
                  · (intro w hSw; (try dsimp only at hSw); go_simp; try with_reducible rfl)
                  simp only [Act.put, List.getElem_toArray, List.getElem_cons_zero, List.getElem_cons_succ, List.setIfInBounds_toArray, List.set_cons_zero, List.set_cons_succ]
                  refine wpAnyH_take (i := 2) (v := ?_) rfl (by kernel_rfl) (by kernel_rfl) (by kernel_rfl) (fun _ _ _ h => h) (Or.inl ⟨by rfl, ?_⟩) (by assumption) ?_
                  rotate_left
                  · (intro w hSw; (try dsimp only at hSw); go_simp; try with_reducible rfl)
                  simp only [Act.put, List.getElem_toArray, List.getElem_cons_zero, List.getElem_cons_succ, List.setIfInBounds_toArray, List.set_cons_zero, List.set_cons_succ]
                  refine wpAnyH_take (i := 3) (v := ?_) rfl (by kernel_rfl) (by kernel_rfl) (by kernel_rfl) (fun _ _ _ h => h) (Or.inl ⟨by rfl, ?_⟩) (by assumption) ?_
                  rotate_left
                  · (intro w hSw; (try dsimp only at hSw); go_simp; try with_reducible rfl)
                  simp only [Act.put, List.getElem_toArray, List.getElem_cons_zero, List.getElem_cons_succ, List.setIfInBounds_toArray, List.set_cons_zero, List.set_cons_succ]
                  refine wpAnyH_take (i := 4) (v := ?_) rfl (by kernel_rfl) (by kernel_rfl) (by kernel_rfl) (fun _ _ _ h => h) (Or.inl ⟨by rfl, ?_⟩) (by assumption) ?_
                  rotate_left
                  · (intro w hSw; (try dsimp only at hSw); go_simp; try with_reducible rfl)
                  simp only [Act.put, List.getElem_toArray, List.getElem_cons_zero, List.getElem_cons_succ, List.setIfInBounds_toArray, List.set_cons_zero, List.set_cons_succ]
                  refine wpAnyH_take (i := 5) (v := ?_) rfl (by kernel_rfl) (by kernel_rfl) (by kernel_rfl) (fun _ _ _ h => h) (Or.inl ⟨by rfl, ?_⟩) (by assumption) ?_
                  rotate_left
                  · (intro w hSw; (try dsimp only at hSw); go_simp; try with_reducible rfl)
                  simp only [Act.put, List.getElem_toArray, List.getElem_cons_zero, List.getElem_cons_succ, List.setIfInBounds_toArray, List.set_cons_zero, List.set_cons_succ]
                  refine wpAnyH_take (i := 6) (v := ?_) rfl (by kernel_rfl) (by kernel_rfl) (by kernel_rfl) (fun _ _ _ h => h) (Or.inl ⟨by rfl, ?_⟩) (by assumption) ?_
                  rotate_left
                  · (intro w hSw; (try dsimp only at hSw); go_simp; try with_reducible rfl)
                  simp only [Act.put, List.getElem_toArray, List.getElem_cons_zero, List.getElem_cons_succ, List.setIfInBounds_toArray, List.set_cons_zero, List.set_cons_succ]
                  refine wpAnyH_take (i := 7) (v := ?_) rfl (by kernel_rfl) (by kernel_rfl) (by kernel_rfl) (fun _ _ _ h => h) (Or.inl ⟨by rfl, ?_⟩) (by assumption) ?_
                  rotate_left
                  · (intro w hSw; (try dsimp only at hSw); go_simp; try with_reducible rfl)
                  simp only [Act.put, List.getElem_toArray, List.getElem_cons_zero, List.getElem_cons_succ, List.setIfInBounds_toArray, List.set_cons_zero, List.set_cons_succ]
                  refine wpAnyH_take (i := 8) (v := ?_) rfl (by kernel_rfl) (by kernel_rfl) (by kernel_rfl) (fun _ _ _ h => h) (Or.inl ⟨by rfl, ?_⟩) (by assumption) ?_
                  rotate_left
                  · (intro w hSw; (try dsimp only at hSw); go_simp; try with_reducible rfl)
                  simp only [Act.put, List.getElem_toArray, List.getElem_cons_zero, List.getElem_cons_succ, List.setIfInBounds_toArray, List.set_cons_zero, List.set_cons_succ]
                  refine wpAnyH_take (i := 9) (v := ?_) rfl (by kernel_rfl) (by kernel_rfl) (by kernel_rfl) (fun _ _ _ h => h) (Or.inl ⟨by rfl, ?_⟩) (by assumption) ?_
                  rotate_left
                  · (intro w hSw; (try dsimp only at hSw); go_simp; try with_reducible rfl)
                  simp only [Act.put, List.getElem_toArray, List.getElem_cons_zero, List.getElem_cons_succ, List.setIfInBounds_toArray, List.set_cons_zero, List.set_cons_succ]
                  refine wpAnyH_take (i := 10) (v := ?_) rfl (by kernel_rfl) (by kernel_rfl) (by kernel_rfl) (fun _ _ _ h => h) (Or.inl ⟨by rfl, ?_⟩) (by assumption) ?_
                  rotate_left
                  · (intro w hSw; (try dsimp only at hSw); go_simp; try with_reducible rfl)
                  simp only [Act.put, List.getElem_toArray, List.getElem_cons_zero, List.getElem_cons_succ, List.setIfInBounds_toArray, List.set_cons_zero, List.set_cons_succ]
                  refine wpAnyH_ready (rs := [11]) (by kernel_rfl) (by simp) ?_
                  refine AllReadyH.cons rfl (fun K hK => ?_) AllReadyH.nil
                  simp only [List.getElem_toArray, List.getElem_cons_zero, List.getElem_cons_succ]
                  go_simp
                  refine Calls.mono HKX2.out ?_; rintro e w9 ⟨rfl, hst⟩; have HST9 := toHid hst; clear hst
                  go_wp2_with fail
                  refine hK.out _ _ ?_ (fun hHeld => ?_)
                  · exact (HSX.out.2 _ _ ((Touch.refl _ _).drew.nil.trans HST9.out.2.2 (fun b hb => Or.inl hb)) (fun b hb => hb)).1
                  clear hK K
                  try simp only [Act.put, List.getElem_toArray, List.getElem_cons_zero, List.getElem_cons_succ, List.setIfInBounds_toArray, List.set_cons_zero, List.set_cons_succ]
                  refine wpAnyH_done (by kernel_rfl) ?_ _
                  obtain ⟨⟨d0, d1, d2⟩, d3⟩ := HSX.out.2 _ _ ((Touch.refl _ _).drew.nil.trans HST9.out.2.2 (fun b hb => Or.inl hb)) (fun b hb => hb)
                  have HFF := toHid (HFX2.out w9 HST9.out)
                  clear hHeld
                  go_wp2
                  go_ret
                  exact HFF.out
                · simp only [List.getElem_toArray, List.getElem_cons_zero, List.getElem_cons_succ]
                  go_simp
                  refine hK.out _ _ ?_ (fun hHeld => ?_)
                  · exact HS6.out _ (HT5.out.alloc _).nil
                  clear hK K
                  try simp only [Act.put, List.getElem_toArray, List.getElem_cons_zero, List.getElem_cons_succ, List.setIfInBounds_toArray, List.set_cons_zero, List.set_cons_succ]
                  refine wpAnyH_ready (rs := [4]) (by kernel_rfl) (by simp) ?_
                  refine (AllReadyH.cons rfl (fun K hK => ?_) AllReadyH.nil)
                  have hq := HQ2.out ((w5.alloc (.cells #[.slice (some ⟨k5.b, 0, none⟩) rl k5.cap] 60))) (HT5.out.alloc _)
                  simp only [List.getElem_toArray, List.getElem_cons_zero, List.getElem_cons_succ]
                  go_simp
                  refine hK.out _ _ ?_ (fun hHeld => ?_)
                  · exact HS6.out _ (HT5.out.alloc _).nil
                  clear hK K
                  try simp only [Act.put, List.getElem_toArray, List.getElem_cons_zero, List.getElem_cons_succ, List.setIfInBounds_toArray, List.set_cons_zero, List.set_cons_succ]
                  clear hq
                  refine wpAnyH_ready (rs := [25]) (by kernel_rfl) (by simp) ?_
                  refine (AllReadyH.cons rfl (fun K hK => ?_) AllReadyH.nil)
                  refine Mem.step_append_known rfl (.tmp 37) (.tmp 57) 55 55 rfl (.slice ga ll y.cap) (.slice (some ⟨w5.heap.size, 0, none⟩) 1 1) (by simp [Act.eval]) (by simp [Act.eval]) HR6.out ?_
                  refine hK.out _ _ ?_ (fun hHeld => ?_)
                  · exact HS6.out _ HT6.out.1
                  clear hK K
                  try simp only [Act.put, List.getElem_toArray, List.getElem_cons_zero, List.getElem_cons_succ, List.setIfInBounds_toArray, List.set_cons_zero, List.set_cons_succ]
                  refine wpAnyH_take (i := 26) (v := ?_) rfl (by kernel_rfl) (by kernel_rfl) (by kernel_rfl) (fun _ _ _ h => h) (Or.inl ⟨by rfl, ?_⟩) (by assumption) ?_
                  rotate_left
                  · (intro w hSw; (try dsimp only at hSw); go_simp; try with_reducible rfl)
                  simp only [Act.put, List.getElem_toArray, List.getElem_cons_zero, List.getElem_cons_succ, List.setIfInBounds_toArray, List.set_cons_zero, List.set_cons_succ]
                  refine wpAnyH_take (i := 27) (v := ?_) rfl (by kernel_rfl) (by kernel_rfl) (by kernel_rfl) (fun _ _ _ h => h) (Or.inl ⟨by rfl, ?_⟩) (by assumption) ?_
                  rotate_left
                  · (intro w hSw; (try dsimp only at hSw); go_simp; try with_reducible rfl)
                  simp only [Act.put, List.getElem_toArray, List.getElem_cons_zero, List.getElem_cons_succ, List.setIfInBounds_toArray, List.set_cons_zero, List.set_cons_succ]
                  obtain ⟨e1, e2⟩ := HT6.out.2
                  refine wpAnyH_ready (rs := [28]) (by kernel_rfl) (by simp) ?_
                  refine (AllReadyH.cons rfl (fun K hK => ?_) AllReadyH.nil)
                  simp only [List.getElem_toArray, List.getElem_cons_zero, List.getElem_cons_succ]
                  go_simp
                  refine hK.out _ _ ?_ (fun hHeld => ?_)
                  · exact HSZ.out
                  clear hK K
                  try simp only [Act.put, List.getElem_toArray, List.getElem_cons_zero, List.getElem_cons_succ, List.setIfInBounds_toArray, List.set_cons_zero, List.set_cons_succ]
                  refine wpAnyH_done (by kernel_rfl) ?_ _
                  clear e1 e2
                  go_wp2_with fail
                  refine wp_region_held_drew (S := fun w' => w'.cell? ⟨Q, 0, none⟩ = some (.pointer (some ⟨M, 0, none⟩)) ∧ w'.cell? ⟨Q, 1, none⟩ = some (.slice (some ⟨IG, 0, none⟩) 8 icap) ∧ w'.cell? ⟨IG, k, none⟩ = some (.int .i64 (i : Int))) (by kernel_rfl) ?_ (fun hHeld => ?_)
                  · exact (HSX.out.2 _ [] (Touch.refl _ _).drew (by simp)).1
                  refine wpAnyH_take (i := 0) (v := ?_) rfl (by kernel_rfl) (by kernel_rfl) (by kernel_rfl) (fun _ _ _ h => h) (Or.inl ⟨by rfl, ?_⟩) (by assumption) ?_
                  rotate_left
                  · (intro w hSw; (try dsimp only at hSw); go_simp; try with_reducible rfl)
                  simp only [Act.put, List.getElem_toArray, List.getElem_cons_zero, List.setIfInBounds_toArray, List.set_cons_zero, List.set_cons_succ]
                  refine wpAnyH_take (i := 1) (v := ?_) rfl (by kernel_rfl) (by kernel_rfl) (by kernel_rfl) (fun _ _ _ h => h) (Or.inl ⟨by rfl, ?_⟩) (by assumption) ?_
                  rotate_left
                  · (intro w hSw; (try dsimp only at hSw); go_simp; try with_reducible rfl)
                  simp only [Act.put, List.getElem_toArray, List.getElem_cons_zero, List.getElem_cons_succ, List.setIfInBounds_toArray, List.set_cons_zero, List.set_cons_succ]
                  refine wpAnyH_take (i := 2) (v := ?_) rfl (by kernel_rfl) (by kernel_rfl) (by kernel_rfl) (fun _ _ _ h => h) (Or.inl ⟨by rfl, ?_⟩) (by assumption) ?_
                  rotate_left
                  · (intro w hSw; (try dsimp only at hSw); go_simp; try with_reducible rfl)
                  simp only [Act.put, List.getElem_toArray, List.getElem_cons_zero, List.getElem_cons_succ, List.setIfInBounds_toArray, List.set_cons_zero, List.set_cons_succ]
                  refine wpAnyH_take (i := 3) (v := ?_) rfl (by kernel_rfl) (by kernel_rfl) (by kernel_rfl) (fun _ _ _ h => h) (Or.inl ⟨by rfl, ?_⟩) (by assumption) ?_
                  rotate_left
                  · (intro w hSw; (try dsimp only at hSw); go_simp; try with_reducible rfl)
                  simp only [Act.put, List.getElem_toArray, List.getElem_cons_zero, List.getElem_cons_succ, List.setIfInBounds_toArray, List.set_cons_zero, List.set_cons_succ]
                  refine wpAnyH_take (i := 4) (v := ?_) rfl (by kernel_rfl) (by kernel_rfl) (by kernel_rfl) (fun _ _ _ h => h) (Or.inl ⟨by rfl, ?_⟩) (by assumption) ?_
                  rotate_left
                  · (intro w hSw; (try dsimp only at hSw); go_simp; try with_reducible rfl)
                  simp only [Act.put, List.getElem_toArray, List.getElem_cons_zero, List.getElem_cons_succ, List.setIfInBounds_toArray, List.set_cons_zero, List.set_cons_succ]
                  refine wpAnyH_take (i := 5) (v := ?_) rfl (by kernel_rfl) (by kernel_rfl) (by kernel_rfl) (fun _ _ _ h => h) (Or.inl ⟨by rfl, ?_⟩) (by assumption) ?_
                  rotate_left
                  · (intro w hSw; (try dsimp only at hSw); go_simp; try with_reducible rfl)
                  simp only [Act.put, List.getElem_toArray, List.getElem_cons_zero, List.getElem_cons_succ, List.setIfInBounds_toArray, List.set_cons_zero, List.set_cons_succ]
                  refine wpAnyH_take (i := 6) (v := ?_) rfl (by kernel_rfl) (by kernel_rfl) (by kernel_rfl) (fun _ _ _ h => h) (Or.inl ⟨by rfl, ?_⟩) (by assumption) ?_
                  rotate_left
                  · (intro w hSw; (try dsimp only at hSw); go_simp; try with_reducible rfl)
                  simp only [Act.put, List.getElem_toArray, List.getElem_cons_zero, List.getElem_cons_succ, List.setIfInBounds_toArray, List.set_cons_zero, List.set_cons_succ]
                  refine wpAnyH_take (i := 7) (v := ?_) rfl (by kernel_rfl) (by kernel_rfl) (by kernel_rfl) (fun _ _ _ h => h) (Or.inl ⟨by rfl, ?_⟩) (by assumption) ?_
                  rotate_left
                  · (intro w hSw; (try dsimp only at hSw); go_simp; try with_reducible rfl)
                  simp only [Act.put, List.getElem_toArray, List.getElem_cons_zero, List.getElem_cons_succ, List.setIfInBounds_toArray, List.set_cons_zero, List.set_cons_succ]
                  refine wpAnyH_take (i := 8) (v := ?_) rfl (by kernel_rfl) (by kernel_rfl) (by kernel_rfl) (fun _ _ _ h => h) (Or.inl ⟨by rfl, ?_⟩) (by assumption) ?_
                  rotate_left
                  · (intro w hSw; (try dsimp only at hSw); go_simp; try with_reducible rfl)
                  simp only [Act.put, List.getElem_toArray, List.getElem_cons_zero, List.getElem_cons_succ, List.setIfInBounds_toArray, List.set_cons_zero, List.set_cons_succ]
                  refine wpAnyH_take (i := 9) (v := ?_) rfl (by kernel_rfl) (by kernel_rfl) (by kernel_rfl) (fun _ _ _ h => h) (Or.inl ⟨by rfl, ?_⟩) (by assumption) ?_
                  rotate_left
                  · (intro w hSw; (try dsimp only at hSw); go_simp; try with_reducible rfl)
                  simp only [Act.put, List.getElem_toArray, List.getElem_cons_zero, List.getElem_cons_succ, List.setIfInBounds_toArray, List.set_cons_zero, List.set_cons_succ]
                  refine wpAnyH_take (i := 10) (v := ?_) rfl (by kernel_rfl) (by kernel_rfl) (by kernel_rfl) (fun _ _ _ h => h) (Or.inl ⟨by rfl, ?_⟩) (by assumption) ?_
                  rotate_left
                  · (intro w hSw; (try dsimp only at hSw); go_simp; try with_reducible rfl)
                  simp only [Act.put, List.getElem_toArray, List.getElem_cons_zero, List.getElem_cons_succ, List.setIfInBounds_toArray, List.set_cons_zero, List.set_cons_succ]
                  refine wpAnyH_ready (rs := [11]) (by kernel_rfl) (by simp) ?_
                  refine AllReadyH.cons rfl (fun K hK => ?_) AllReadyH.nil
                  simp only [List.getElem_toArray, List.getElem_cons_zero, List.getElem_cons_succ]
                  go_simp
                  refine Calls.mono HKX2.out ?_; rintro e w9 ⟨rfl, hst⟩; have HST9 := toHid hst; clear hst
                  go_wp2_with fail
                  refine hK.out _ _ ?_ (fun hHeld => ?_)
                  · exact (HSX.out.2 _ _ ((Touch.refl _ _).drew.nil.trans HST9.out.2.2 (fun b hb => Or.inl hb)) (fun b hb => hb)).1
                  clear hK K
                  try simp only [Act.put, List.getElem_toArray, List.getElem_cons_zero, List.getElem_cons_succ, List.setIfInBounds_toArray, List.set_cons_zero, List.set_cons_succ]
                  refine wpAnyH_done (by kernel_rfl) ?_ _
                  obtain ⟨⟨d0, d1, d2⟩, d3⟩ := HSX.out.2 _ _ ((Touch.refl _ _).drew.nil.trans HST9.out.2.2 (fun b hb => Or.inl hb)) (fun b hb => hb)
                  have HFF := toHid (HFX2.out w9 HST9.out)
                  clear hHeld
                  go_wp2
                  go_ret
                  exact HFF.out
        · have HN : Hid (∀ j, j < k + 1 → (y.recs.getD j none).isSome = true → placeI j ≠ addr) := fun j hj => by
            by_cases hjk : j = k
            · intro _
              rw [hjk]
              exact he
            · exact HJ.out j (by omega)
          have heb : (addr == 68719476736 + (k : Int) * 4096) = false := by
            rw [← hpl]
            simpa using fun h9 => he h9.symm
          clear hs hq HJ hc h8 he hpl
          go_wp2
          go_roundw
          case rel => exact ⟨k + 1, by omega, by go_num, by trivial, HN⟩
          case measure => simp [intOf]; omega
    · obtain rfl : k = 8 := by omega
      have HF : Hid (REndPost wr y u addr send (.returned (.int .i64 14)) wr) := by
        have hf := numI_none (l := y.recs) (addr := addr) (fun j hj => HJ.out j (by have := HH.out.ring.eight; omega))
        exact ⟨by rw [if_pos hf], Or.inl ⟨hf, RGStep.same HH.out (Touch.refl _ _)⟩⟩
      clear HJ
      go_wp2
      go_ret
      exact HF.out
end Go.Proofs.Ytkfmhabplcikiaa.Ring
