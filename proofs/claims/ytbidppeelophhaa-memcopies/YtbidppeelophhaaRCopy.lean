/-
  The reference memory: Copy.
-/
import Derived.Test.YtbidppeelophhaaRAdd2
import Derived.Deep.RegionHeld3
import Derived.Deep.DrawnRows
namespace Go.Proofs.Ytbidppeelophhaa
open Go.RowKit
attribute [local go_sem ↓] Go.wp_at_zero Go.wp_at_succ

/-- append([]T{}, s...), s of at least one element of one cell. -/
theorem own_append {w : World} {tS e : TypeId} {z : Value} {by_ : Nat} (hu : Try.prog.underlying tS = some (.slice e)) (hi : (Try.prog.info? e).map (fun i => (i.zero, i.size, i.bytes)) = some (some z, 1, by_)) (hz1 : z.cells.size = 1) (hby : by_ ≤ 8) (E : Nat) (hE : Blk w E [] e)
    (b m c : Nat) (cs : List Value) (hm : cs.length = m) (hsrc : ∀ j v, cs[j]? = some v → w.cell? ⟨b, j, none⟩ = some v) (h1 : ∀ v ∈ cs, v.oneCell' = true) (hpos : 0 < m) (hsm : m ≤ 65536) :
    ∃ g cap w', (Builtin.append_ #[tS, tS] tS #[.slice (some ⟨E, 0, none⟩) 0 0, .slice (some ⟨b, 0, none⟩) m c]).run Try.prog w = .ok (.slice (some ⟨g, 0, none⟩) m cap) w' ∧ (∃ rest, Blk w' g (cs ++ rest) e) ∧ Touch [E] w w' ∧ (g = E ∨ g = w.heap.size) := by
  obtain ⟨i, hi0, hz, hs, hb⟩ := info_of hi
  have hrow : RowAt w e 1 (some E) 0 0 [] := ⟨rfl, Nat.le_refl _, by unfold maxLen; omega, [], by simpa using hE, by simp⟩
  have hmul : m * i.bytes ≤ 65536 * 8 := Nat.mul_le_mul hsm (by rw [hb]; exact hby)
  obtain ⟨g', cap', w', hr, h2, h3, h4, _⟩ := run_append_row (P := Try.prog) w tS tS e i z 1 hu hi0 hz hs hz1 (by omega) (some E) 0 0 [] hrow ⟨b, 0, none⟩ m c cs (by omega)
    (fun j v hj => by rw [Addr.add_lit, Nat.zero_add]; exact hsrc j v hj) h1 (by rw [Nat.zero_add]; omega) (by omega)
  simp only [Nat.zero_add, List.nil_append] at hr h2
  cases g' with
  | none =>
    have q1 := h2.2.1
    have q2 : cap' = 0 := h2.2.2.2
    omega
  | some g =>
    obtain ⟨_, _, _, rest, hB, _⟩ := h2
    refine ⟨g, cap', w', hr, ⟨rest, hB⟩, by simpa using h3, ?_⟩
    rcases h4 with h4 | h4
    · injection h4 with h4; exact Or.inl h4
    · injection h4 with h4; exact Or.inr h4

/-- Equal records, but for where they lie. -/
structure RLike (x y : RReg) : Prop where
  live : y.live = x.live
  base : y.base = x.base
  perm : y.perm = x.perm
  bytes : y.bytes = x.bytes
  set : y.set = x.set

/-- A record put at the end: the append, the store, and what lies behind. -/
theorem rput {w wl : World} {s : RS} (h : RefAt w s) (hlen : s.all.length < 1000) {r : RReg} (ht : Touch [] w wl) (hr : RRegAt wl r) (ok : RRegOk r) (hbs : r.bb ≠ r.sb) (hnew : ∀ x ∈ r.blocks, w.heap.size ≤ x) :
    ∃ g' cap' w', (Builtin.append_ #[27, 27] 27 #[slV s.g s.all.length s.cap, .slice (some ⟨wl.heap.size, 0, none⟩) 1 1]).run Try.prog (wl.alloc (.cells r.cells.toArray 44)).drew = .ok (slV g' (s.all.length + 1) cap') w' ∧
      w'.cell? ⟨s.m, 0, none⟩ = some (slV s.g s.all.length s.cap) ∧ w'.frozen? ⟨s.m, 0, none⟩ = false ∧
      RefAt (w'.setCell ⟨s.m, 0, none⟩ (slV g' (s.all.length + 1) cap')) ⟨s.m, g', cap', s.all ++ [r]⟩ ∧ Touch s.blocks w (w'.setCell ⟨s.m, 0, none⟩ (slV g' (s.all.length + 1) cap')) ∧
      (∀ x ∈ (⟨s.m, g', cap', s.all ++ [r]⟩ : RS).blocks, x ∈ s.blocks ∨ w.heap.size ≤ x) := by
  obtain ⟨i, hi, hz, hs, hby⟩ := info_of info44
  have hml := h.touch ht (by simp)
  have hta : Touch [] wl (wl.alloc (.cells r.cells.toArray 44)).drew := ((Touch.refl _ wl).alloc _).drew
  have hm2 := hml.touch hta (by simp)
  have hN := Blk.newA wl r.cells.toArray _ 44 rfl
  have hrl := hr
  obtain ⟨g', cap', w', hrn, h2, h3', h4, h5⟩ := run_append_row (P := Try.prog) _ 27 27 44 i _ 5 Try.underlying27 hi hz hs rfl (by omega) s.g s.all.length s.cap _ hm2.row ⟨wl.heap.size, 0, none⟩ 1 1 r.cells rfl
    (fun j v hj => by
      rw [Addr.add_lit, Nat.zero_add]
      exact hN.drew.cell (by simpa using hj))
    (fun u hu => by simp [RReg.cells] at hu; rcases hu with rfl | rfl | rfl | rfl | rfl <;> rfl)
    (by rw [hby]; omega) (by omega)
  have hap := h.apart
  have hlt := h.lt
  simp only [RS.blocks, List.cons_append, List.nodup_cons, List.mem_append, List.nodup_append] at hap
  have hmg : s.m ∉ s.g.toList := fun hx => hap.1 (Or.inl hx)
  have hmself := h3'.blk hm2.self hmg
  have hlo : w.heap.size ≤ wl.heap.size := ht.size
  have hmlt := hlt s.m s.mem_m
  have hgm : g' ≠ some s.m := fun e => by
    rcases h4 with h4 | h4
    · exact hmg (by rw [← h4, e]; simp)
    · rw [e] at h4; injection h4 with h4; simp at h4; omega
  have hrlt : ∀ x ∈ r.blocks, x < wl.heap.size := by
    obtain ⟨⟨r1, q1⟩, ⟨r2, q2⟩⟩ := hr
    intro x hx
    simp [RReg.blocks] at hx
    rcases hx with rfl | rfl
    · exact q1.lt
    · exact q2.lt
  have hts : Touch [s.m] w' (w'.setCell ⟨s.m, 0, none⟩ (slV g' (s.all.length + 1) cap')) := (Touch.refl _ w').setCell _ _ (Or.inl (by simp))
  have hrA : RRegAt (w'.setCell ⟨s.m, 0, none⟩ (slV g' (s.all.length + 1) cap')) r := by
    refine ((hrl.touch hta (by simp)).touch h3' (fun x hx hh => ?_)).touch hts (fun x hx hh => ?_)
    · have := hlt x (s.mem_g (by simpa using hh))
      have := hnew x hx
      omega
    · simp at hh
      subst hh
      have := hnew _ hx
      omega
  refine ⟨g', cap', w', hrn, hmself.cell rfl, hmself.frozen 0, ?_, ?_, ?_⟩
  · refine RefAt.added h hlen (hmself.setCell 0 _) (h2.touch hts (fun b hb hx => hgm (by simp at hx; rw [hb, hx]))) ?_ hrA ok hbs hnew ?_
    · intro x hx
      refine ((hm2.regs x hx).touch h3' (fun y hy hh => ?_)).touch hts (fun y hy hh => ?_)
      · exact hap.2.2.2 y hh y (List.mem_flatMap.2 ⟨x, hx, hy⟩) rfl
      · simp at hh
        subst hh
        exact hap.1 (Or.inr (List.mem_flatMap.2 ⟨x, hx, hy⟩))
    · rcases h4 with h4 | h4
      · exact Or.inl h4
      · refine Or.inr ⟨_, h4, by simp; omega, fun hx => ?_⟩
        have := hrlt _ hx
        simp at this
        omega
  · refine Touch.trans (b := w') ?_ hts (fun x hx => Or.inl (by simp at hx; rw [hx]; exact s.mem_m))
    refine Touch.trans (b := _) (ht.trans hta (by simp)).nil h3' (fun x hx => Or.inl (s.mem_g (by simpa using hx)))
  · intro x hx
    simp only [RS.blocks, List.cons_append, List.mem_cons, List.mem_append, List.mem_flatMap] at hx ⊢
    rcases hx with hx | hx | ⟨y, (hy | rfl | hy), hx⟩
    · exact Or.inl (Or.inl hx)
    · rcases h4 with h4 | h4
      · rw [h4] at hx; exact Or.inl (Or.inr (Or.inl hx))
      · rw [h4] at hx; simp at hx; exact Or.inr (by omega)
    · exact Or.inl (Or.inr (Or.inr ⟨y, hy, hx⟩))
    · exact Or.inr (hnew x hx)
    · cases hy

/-- What stands behind k rounds. -/
structure RCopyAt (w w' : World) (s t : RS) (O k : Nat) : Prop where
  ref : RefAt w' t
  m : t.m = O
  len : t.all.length = k
  like : ∀ i, i < k → RLike (s.all.getD i RReg.zero) (t.all.getD i RReg.zero)
  own : ∀ x ∈ t.blocks, w.heap.size ≤ x
  touch : Touch [] w w'

set_option maxHeartbeats 2000000 in
set_option maxRecDepth 100000 in
theorem rcopy_any {w : World} {s : RS} (h : RefAt w s) (hlen : s.all.length < 1000) : Calls Try.prog 15 #[.pointer (some ⟨s.m, 0, none⟩)] w fun e w' => ∃ O t, e = .returned (.pointer (some ⟨O, 0, none⟩)) ∧ RCopyAt w w' s t O s.all.length := by
  have c0 := ((Touch.refl [] w).alloc (.cells #[.slice none 0 0] 29)).cell h.c0 (by simp)
  have HZ : Hid (RCopyAt w (w.alloc (.cells #[.slice none 0 0] 29)) s ⟨w.heap.size, none, 0, []⟩ w.heap.size 0) := by
    refine ⟨⟨Blk.newA w #[.slice none 0 0] _ 29 rfl, ⟨rfl, Nat.le_refl _, Nat.zero_le _, rfl⟩, fun r hr => absurd hr (by simp), fun r hr => absurd hr (by simp), by simp [RS.blocks], by simp⟩, rfl, rfl, fun i hi => absurd hi (by omega), fun x hx => ?_, (Touch.refl [] w).alloc _⟩
    simp [RS.blocks] at hx
    omega
  have HH := toHid h
  unfold slV at c0
  generalize hsg : (s.g.map fun b => (⟨b, 0, none⟩ : Addr)) = sg at *
  generalize hn : s.all.length = n at *
  generalize s.cap = cap at *
  have HN := toHid (And.intro hsg hn)
  clear h hsg hn
  go_enter Try.func15, Try.ntmps15
  go_wp2_with fail
  clear c0
  go_loopw [13] (fun x w' => ∃ k : Nat, k ≤ n ∧ x = .int .i64 k ∧ Hid (∃ t, RCopyAt w w' s t w.heap.size k)) (fun x _ => n - (intOf x).toNat)
  case atStart => exact ⟨0, by omega, rfl, _, HZ.out⟩
  case round =>
    obtain ⟨k, hk, rfl, HI⟩ := hrel
    obtain ⟨t, hI⟩ := HI.out
    by_cases hlt : k < n
    · have hkl : k < s.all.length := by rw [HN.out.2]; exact hlt
      obtain ⟨b, hb⟩ := HH.out.some_g hkl
      have hsg := HN.out.1
      rw [hb] at hsg
      simp only [Option.map_some] at hsg
      subst hsg
      have hx := rgetD_of hkl
      generalize hxx : s.all.getD k RReg.zero = x at *
      have hS := HH.out.touch hI.touch (by simp)
      have d0 := hS.at hb hx (j := 0) (by omega) rfl
      have d1 := hS.at hb hx (j := 1) (by omega) rfl
      have d2 := hS.at hb hx (j := 2) (by omega) rfl
      have d3 := hS.at hb hx (j := 3) (by omega) rfl
      have d4 := hS.at hb hx (j := 4) (by omega) rfl
      simp only [Nat.add_zero] at d0
      have hki : (k : Int) < n := by omega
      have hxm := List.mem_of_getElem? hx
      have okx := HH.out.ok x hxm
      obtain ⟨⟨rb, hxb⟩, ⟨rs, hxs⟩⟩ := hS.regs x hxm
      have hta : Touch [] wr (wr.alloc (.cells #[.bool x.live, .int .u64 x.base, .int .i64 x.perm, .slice (some ⟨x.bb, 0, none⟩) x.bytes.length x.bcap, .slice (some ⟨x.sb, 0, none⟩) x.set.length x.scap] 44)) := (Touch.refl [] wr).alloc _
      have hP0 := Blk.newA wr #[.bool x.live, .int .u64 x.base, .int .i64 x.perm, .slice (some ⟨x.bb, 0, none⟩) x.bytes.length x.bcap, .slice (some ⟨x.sb, 0, none⟩) x.set.length x.scap] _ 44 rfl
      have hE1 := Blk.newA (wr.alloc (.cells #[.bool x.live, .int .u64 x.base, .int .i64 x.perm, .slice (some ⟨x.bb, 0, none⟩) x.bytes.length x.bcap, .slice (some ⟨x.sb, 0, none⟩) x.set.length x.scap] 44)) #[] [] 5 rfl
      rw [World.size_alloc] at hE1
      have htb : Touch [] wr ((wr.alloc (.cells #[.bool x.live, .int .u64 x.base, .int .i64 x.perm, .slice (some ⟨x.bb, 0, none⟩) x.bytes.length x.bcap, .slice (some ⟨x.sb, 0, none⟩) x.set.length x.scap] 44)).alloc (.cells #[] 5)) := hta.alloc _
      obtain ⟨g1, cap1, W2, hr1, ⟨rest1, hB1⟩, ht1, hg1⟩ := own_append Try.underlying31 info5 rfl (by omega) (wr.heap.size + 1) hE1 x.bb x.bytes.length x.bcap (x.bytes.map (Value.int .u8)) (by simp) (fun j v hj => (htb.blk hxb (by simp)).cell (by rw [List.getElem?_append_left (List.getElem?_eq_some_iff.1 hj).1]; exact hj))
        (fun v hv => by
          obtain ⟨y, _, rfl⟩ := List.mem_map.1 hv
          rfl) okx.size1 okx.size2
      have hg1' : wr.heap.size < g1 := by
        simp only [World.size_alloc] at hg1
        omega
      have hT2 : Touch [] wr W2 := htb.trans ht1 (fun y hy => Or.inr (by simp at hy; omega))
      have hP2 := ht1.blk (hP0.alloc (.cells #[] 5)) (by simp)
      have hP3 := hP2.setCell 3 (.slice (some ⟨g1, 0, none⟩) x.bytes.length cap1)
      have hB3 := hB1.setCell_other ⟨wr.heap.size, 3, none⟩ (.slice (some ⟨g1, 0, none⟩) x.bytes.length cap1) (by show g1 ≠ wr.heap.size; omega)
      have hT3 : Touch [] wr (W2.setCell ⟨wr.heap.size, 3, none⟩ (.slice (some ⟨g1, 0, none⟩) x.bytes.length cap1)) := hT2.setCell _ _ (Or.inr (Nat.le_refl _))
      have hE2 := Blk.newA (W2.setCell ⟨wr.heap.size, 3, none⟩ (.slice (some ⟨g1, 0, none⟩) x.bytes.length cap1)) #[] [] 4 rfl
      have hszc : (W2.setCell ⟨wr.heap.size, 3, none⟩ (.slice (some ⟨g1, 0, none⟩) x.bytes.length cap1)).heap.size = W2.heap.size := by simp
      rw [hszc] at hE2
      have hT4 := hT3.alloc (.cells #[] 4)
      obtain ⟨g2, cap2, W5, hr2, ⟨rest2, hB2⟩, ht2, hg2⟩ := own_append Try.underlying42 info4 rfl (by omega) W2.heap.size hE2 x.sb x.set.length x.scap (x.set.map Value.bool) (by simp) (fun j v hj => (hT4.blk hxs (by simp)).cell (by rw [List.getElem?_append_left (List.getElem?_eq_some_iff.1 hj).1]; exact hj))
        (fun v hv => by
          obtain ⟨y, _, rfl⟩ := List.mem_map.1 hv
          rfl) (by rw [okx.setLen]; exact okx.size1) (by rw [okx.setLen]; exact okx.size2)
      have hgl := hB1.lt
      have hg2' : W2.heap.size ≤ g2 := by
        rcases hg2 with h | h
        · omega
        · rw [h]; simp
      have hWs := hT2.size
      have hP5 := ht2.blk (hP3.alloc (.cells #[] 4)) (by simp; have := hP2.lt; omega)
      have hB5 := ht2.blk (hB3.alloc (.cells #[] 4)) (by simp; omega)
      have hT5 : Touch [] wr W5 := hT4.trans ht2 (fun y hy => Or.inr (by simp at hy; omega))
      have hP6 := hP5.setCell 4 (.slice (some ⟨g2, 0, none⟩) x.set.length cap2)
      have hB6 := hB5.setCell_other ⟨wr.heap.size, 4, none⟩ (.slice (some ⟨g2, 0, none⟩) x.set.length cap2) (by show g1 ≠ wr.heap.size; omega)
      have hC6 := hB2.setCell_other ⟨wr.heap.size, 4, none⟩ (.slice (some ⟨g2, 0, none⟩) x.set.length cap2) (by show g2 ≠ wr.heap.size; have := hP2.lt; omega)
      have hT6 : Touch [] wr (W5.setCell ⟨wr.heap.size, 4, none⟩ (.slice (some ⟨g2, 0, none⟩) x.set.length cap2)) := hT5.setCell _ _ (Or.inr (Nat.le_refl _))
      obtain ⟨g', cap', W7, hr7, c7, f7, hR7, ht7, hb7⟩ := rput (r := ⟨x.live, x.base, x.perm, g1, cap1, x.bytes, g2, cap2, x.set⟩) hI.ref (by rw [hI.len]; omega) hT6 ⟨⟨rest1, hB6⟩, ⟨rest2, hC6⟩⟩ ⟨okx.base0, okx.size1, okx.size2, okx.fits, okx.perm0, okx.perm1, okx.setLen, okx.byte⟩ (by show g1 ≠ g2; omega)
        (fun y hy => by simp [RReg.blocks] at hy; omega)
      have a3 : W2.cell? ⟨wr.heap.size, 3, none⟩ = some _ := hP2.cell rfl
      have a3f := hP2.frozen 3
      have a4 : ((W2.setCell ⟨wr.heap.size, 3, none⟩ (.slice (some ⟨g1, 0, none⟩) x.bytes.length cap1)).alloc (.cells #[] 4)).cell? ⟨wr.heap.size, 4, none⟩ = some (.slice (some ⟨x.sb, 0, none⟩) x.set.length x.scap) := (hP3.alloc (.cells #[] 4)).cell rfl
      have hPne : wr.heap.size ≠ W2.heap.size := by have := hP2.lt; omega
      have b4 : W5.cell? ⟨wr.heap.size, 4, none⟩ = some _ := hP5.cell rfl
      have b4f := hP5.frozen 4
      have HR1 := toHid hr1
      have HR2 := toHid hr2
      go_wp2_with (first | (at_builtin; refine Lib.wpList_append_run _ rfl _ _ _ _ rfl _ _ rfl rfl _ _ HR1.out ?_) | (at_builtin; refine Lib.wpList_append_run _ rfl _ _ _ _ rfl _ _ rfl rfl _ _ HR2.out ?_))
      have e0 := (hI.ref.touch hT6 (by simp)).c0
      have hmO := hI.m
      have htl := hI.len
      have HF : Hid (RCopyAt w (W7.setCell ⟨w.heap.size, 0, none⟩ (slV g' (k + 1) cap')) s ⟨t.m, g', cap', t.all ++ [⟨x.live, x.base, x.perm, g1, cap1, x.bytes, g2, cap2, x.set⟩]⟩ w.heap.size (k + 1)) := by
        rw [hmO, htl] at hR7 ht7
        refine ⟨by rw [hmO]; exact hR7, hmO, by simp [htl], fun i hi => ?_, fun y hy => ?_, ?_⟩
        · by_cases hik : i < k
          · rw [List.getD_eq_getElem?_getD (l := t.all ++ _), List.getElem?_append_left (by rw [htl]; exact hik), ← List.getD_eq_getElem?_getD]
            exact hI.like i hik
          · obtain rfl : i = k := by omega
            rw [List.getD_eq_getElem?_getD (l := t.all ++ _), List.getElem?_append_right (by rw [htl]; omega), htl, hxx]
            simp only [Nat.sub_self, List.getElem?_cons_zero, Option.getD_some]
            exact ⟨rfl, rfl, rfl, rfl, rfl⟩
        · rcases hb7 y hy with h | h
          · exact hI.own y h
          · exact Nat.le_trans hI.touch.size h
        · exact hI.touch.trans ht7 (fun y hy => Or.inr (hI.own y hy))
      have k0 : (W5.setCell ⟨wr.heap.size, 4, none⟩ (.slice (some ⟨g2, 0, none⟩) x.set.length cap2)).cell? ⟨wr.heap.size, 0, none⟩ = some (.bool x.live) := hP6.cell rfl
      have k1 : (W5.setCell ⟨wr.heap.size, 4, none⟩ (.slice (some ⟨g2, 0, none⟩) x.set.length cap2)).cell? ⟨wr.heap.size, 1, none⟩ = some (.int .u64 x.base) := hP6.cell rfl
      have k2 : (W5.setCell ⟨wr.heap.size, 4, none⟩ (.slice (some ⟨g2, 0, none⟩) x.set.length cap2)).cell? ⟨wr.heap.size, 2, none⟩ = some (.int .i64 x.perm) := hP6.cell rfl
      have k3 : (W5.setCell ⟨wr.heap.size, 4, none⟩ (.slice (some ⟨g2, 0, none⟩) x.set.length cap2)).cell? ⟨wr.heap.size, 3, none⟩ = some (.slice (some ⟨g1, 0, none⟩) x.bytes.length cap1) := hP6.cell rfl
      have k4 : (W5.setCell ⟨wr.heap.size, 4, none⟩ (.slice (some ⟨g2, 0, none⟩) x.set.length cap2)).cell? ⟨wr.heap.size, 4, none⟩ = some (.slice (some ⟨g2, 0, none⟩) x.set.length cap2) := hP6.cell rfl
      rw [hmO, htl] at e0 c7
      rw [hmO] at f7
      rw [htl] at hr7
      simp only [RReg.cells] at hr7
      simp only [slV] at e0 c7 hr7 HF
      generalize (t.g.map fun b => (⟨b, 0, none⟩ : Addr)) = tg at *
      generalize t.cap = tcap at *
      have HR7 := toHid hr7
      clear hr7 hR7 ht7 hb7 hT6 hT5 hT4 hT3 hT2 hta htb hP0 hP2 hP3 hP5 hP6 hB1 hB2 hB3 hB5 hB6 hC6 hE1 hE2 hr1 hr2 ht1 ht2 HR1 HR2 a3 a3f a4 b4 b4f hxb hxs okx hxm hS d0 d1 d2 d3 d4 hx hI HI hmO htl hxx
      generalize W5.setCell ⟨wr.heap.size, 4, none⟩ (.slice (some ⟨g2, 0, none⟩) x.set.length cap2) = W6 at *
      have e0a := fun o => ((Touch.refl [] W6).alloc o).cell e0 (by simp)
      refine wp_region_held_drew (S := (fun _ => True)) (by kernel_rfl) ?_ (fun hHeld => ?_)
      · trivial
      refine wpAnyH_take (i := 0) (v := ?_) rfl (by kernel_rfl) (by kernel_rfl) (by kernel_rfl) (fun _ _ _ h => h) (Or.inl ⟨by rfl, ?_⟩) (by assumption) ?_
      rotate_left
      · (intro w hSw; (try dsimp only at hSw); go_simp; try with_reducible rfl)
      simp only [Act.put, List.getElem_toArray, List.getElem_cons_zero, List.setIfInBounds_toArray, List.set_cons_zero, List.set_cons_succ]
      refine wpAnyH_take (i := 1) (v := ?_) rfl (by kernel_rfl) (by kernel_rfl) (by kernel_rfl) (fun _ _ _ h => h) (Or.inl ⟨by rfl, ?_⟩) (by assumption) ?_
      rotate_left
      · (intro w hSw; (try dsimp only at hSw); go_simp; try with_reducible rfl)
      simp only [Act.put, List.getElem_toArray, List.getElem_cons_zero, List.getElem_cons_succ, List.setIfInBounds_toArray, List.set_cons_zero, List.set_cons_succ]
      refine wpAnyH_take (i := 2) (v := ?_) rfl (by kernel_rfl) (by kernel_rfl) (by kernel_rfl) (fun _ _ _ h => h) (Or.inl ⟨by rfl, ?_⟩) (by assumption) ?_
      rotate_left
      · (intro w hSw; (try dsimp only at hSw); go_simp; try with_reducible rfl)
      simp only [Act.put, List.getElem_toArray, List.getElem_cons_zero, List.getElem_cons_succ, List.setIfInBounds_toArray, List.set_cons_zero, List.set_cons_succ]
      refine wpAnyH_take (i := 3) (v := ?_) rfl (by kernel_rfl) (by kernel_rfl) (by kernel_rfl) (fun _ _ _ h => h) (Or.inl ⟨by rfl, ?_⟩) (by assumption) ?_
      rotate_left
      · (intro w hSw; (try dsimp only at hSw); go_simp; try with_reducible rfl)
      simp only [Act.put, List.getElem_toArray, List.getElem_cons_zero, List.getElem_cons_succ, List.setIfInBounds_toArray, List.set_cons_zero, List.set_cons_succ]
      refine wpAnyH_ready (rs := [4, 5]) (by kernel_rfl) (by simp) ?_
      refine AllReadyH.cons rfl (fun K hK => ?_) (AllReadyH.cons rfl (fun K hK => ?_) AllReadyH.nil)
      · simp only [List.getElem_toArray, List.getElem_cons_zero, List.getElem_cons_succ]
        go_simp
        refine hK.out _ _ trivial (fun hHeld => ?_)
        clear hK K
        try simp only [Act.put, List.getElem_toArray, List.getElem_cons_zero, List.getElem_cons_succ, List.setIfInBounds_toArray, List.set_cons_zero, List.set_cons_succ]
        refine wpAnyH_ready (rs := [5]) (by kernel_rfl) (by simp) ?_
        refine AllReadyH.cons rfl (fun K hK => ?_) AllReadyH.nil
        simp only [List.getElem_toArray, List.getElem_cons_zero, List.getElem_cons_succ]
        go_simp
        refine hK.out _ _ trivial (fun hHeld => ?_)
        clear hK K
        try simp only [Act.put, List.getElem_toArray, List.getElem_cons_zero, List.getElem_cons_succ, List.setIfInBounds_toArray, List.set_cons_zero, List.set_cons_succ]
        refine wpAnyH_ready (rs := [6]) (by kernel_rfl) (by simp) ?_
        refine AllReadyH.cons rfl (fun K hK => ?_) AllReadyH.nil
        simp only [List.getElem_toArray, List.getElem_cons_zero, List.getElem_cons_succ]
        go_simp
        refine hK.out _ _ trivial (fun hHeld => ?_)
        clear hK K
        try simp only [Act.put, List.getElem_toArray, List.getElem_cons_zero, List.getElem_cons_succ, List.setIfInBounds_toArray, List.set_cons_zero, List.set_cons_succ]
        refine wpAnyH_ready (rs := [7]) (by kernel_rfl) (by simp) ?_
        refine AllReadyH.cons rfl (fun K hK => ?_) AllReadyH.nil
        refine step_append_known rfl (.tmp 31) (.tmp 33) 27 27 rfl (.slice tg k tcap) (.slice (some ⟨W6.heap.size, 0, none⟩) 1 1) (by simp [Act.eval]) (by simp [Act.eval]) HR7.out ?_
        refine hK.out _ _ trivial (fun hHeld => ?_)
        clear hK K
        try simp only [Act.put, List.getElem_toArray, List.getElem_cons_zero, List.getElem_cons_succ, List.setIfInBounds_toArray, List.set_cons_zero, List.set_cons_succ]
        refine wpAnyH_take (i := 8) (v := ?_) rfl (by kernel_rfl) (by kernel_rfl) (by kernel_rfl) (fun _ _ _ h => h) (Or.inl ⟨by rfl, ?_⟩) (by assumption) ?_
        rotate_left
        · (intro w hSw; (try dsimp only at hSw); go_simp; try with_reducible rfl)
        simp only [Act.put, List.getElem_toArray, List.getElem_cons_zero, List.getElem_cons_succ, List.setIfInBounds_toArray, List.set_cons_zero, List.set_cons_succ]
        refine wpAnyH_take (i := 9) (v := ?_) rfl (by kernel_rfl) (by kernel_rfl) (by kernel_rfl) (fun _ _ _ h => h) (Or.inl ⟨by rfl, ?_⟩) (by assumption) ?_
        rotate_left
        · (intro w hSw; (try dsimp only at hSw); go_simp; try with_reducible rfl)
        simp only [Act.put, List.getElem_toArray, List.getElem_cons_zero, List.getElem_cons_succ, List.setIfInBounds_toArray, List.set_cons_zero, List.set_cons_succ]
        refine wpAnyH_ready (rs := [10]) (by kernel_rfl) (by simp) ?_
        refine AllReadyH.cons rfl (fun K hK => ?_) AllReadyH.nil
        simp only [List.getElem_toArray, List.getElem_cons_zero, List.getElem_cons_succ]
        go_simp
        refine hK.out _ _ trivial (fun hHeld => ?_)
        clear hK K
        try simp only [Act.put, List.getElem_toArray, List.getElem_cons_zero, List.getElem_cons_succ, List.setIfInBounds_toArray, List.set_cons_zero, List.set_cons_succ]
        refine wpAnyH_done (by kernel_rfl) ?_ _
        go_wp2
        go_roundw
        case rel => exact ⟨k + 1, by omega, by go_num, _, HF.out⟩
        case measure => simp [intOf]; omega
      · simp only [List.getElem_toArray, List.getElem_cons_zero, List.getElem_cons_succ]
        go_simp
        refine hK.out _ _ trivial (fun hHeld => ?_)
        clear hK K
        try simp only [Act.put, List.getElem_toArray, List.getElem_cons_zero, List.getElem_cons_succ, List.setIfInBounds_toArray, List.set_cons_zero, List.set_cons_succ]
        refine wpAnyH_ready (rs := [4, 6]) (by kernel_rfl) (by simp) ?_
        refine AllReadyH.cons rfl (fun K hK => ?_) (AllReadyH.cons rfl (fun K hK => ?_) AllReadyH.nil)
        · simp only [List.getElem_toArray, List.getElem_cons_zero, List.getElem_cons_succ]
          go_simp
          refine hK.out _ _ trivial (fun hHeld => ?_)
          clear hK K
          try simp only [Act.put, List.getElem_toArray, List.getElem_cons_zero, List.getElem_cons_succ, List.setIfInBounds_toArray, List.set_cons_zero, List.set_cons_succ]
          refine wpAnyH_ready (rs := [6]) (by kernel_rfl) (by simp) ?_
          refine AllReadyH.cons rfl (fun K hK => ?_) AllReadyH.nil
          simp only [List.getElem_toArray, List.getElem_cons_zero, List.getElem_cons_succ]
          go_simp
          refine hK.out _ _ trivial (fun hHeld => ?_)
          clear hK K
          try simp only [Act.put, List.getElem_toArray, List.getElem_cons_zero, List.getElem_cons_succ, List.setIfInBounds_toArray, List.set_cons_zero, List.set_cons_succ]
          refine wpAnyH_ready (rs := [7]) (by kernel_rfl) (by simp) ?_
          refine AllReadyH.cons rfl (fun K hK => ?_) AllReadyH.nil
          refine step_append_known rfl (.tmp 31) (.tmp 33) 27 27 rfl (.slice tg k tcap) (.slice (some ⟨W6.heap.size, 0, none⟩) 1 1) (by simp [Act.eval]) (by simp [Act.eval]) HR7.out ?_
          refine hK.out _ _ trivial (fun hHeld => ?_)
          clear hK K
          try simp only [Act.put, List.getElem_toArray, List.getElem_cons_zero, List.getElem_cons_succ, List.setIfInBounds_toArray, List.set_cons_zero, List.set_cons_succ]
          refine wpAnyH_take (i := 8) (v := ?_) rfl (by kernel_rfl) (by kernel_rfl) (by kernel_rfl) (fun _ _ _ h => h) (Or.inl ⟨by rfl, ?_⟩) (by assumption) ?_
          rotate_left
          · (intro w hSw; (try dsimp only at hSw); go_simp; try with_reducible rfl)
          simp only [Act.put, List.getElem_toArray, List.getElem_cons_zero, List.getElem_cons_succ, List.setIfInBounds_toArray, List.set_cons_zero, List.set_cons_succ]
          refine wpAnyH_take (i := 9) (v := ?_) rfl (by kernel_rfl) (by kernel_rfl) (by kernel_rfl) (fun _ _ _ h => h) (Or.inl ⟨by rfl, ?_⟩) (by assumption) ?_
          rotate_left
          · (intro w hSw; (try dsimp only at hSw); go_simp; try with_reducible rfl)
          simp only [Act.put, List.getElem_toArray, List.getElem_cons_zero, List.getElem_cons_succ, List.setIfInBounds_toArray, List.set_cons_zero, List.set_cons_succ]
          refine wpAnyH_ready (rs := [10]) (by kernel_rfl) (by simp) ?_
          refine AllReadyH.cons rfl (fun K hK => ?_) AllReadyH.nil
          simp only [List.getElem_toArray, List.getElem_cons_zero, List.getElem_cons_succ]
          go_simp
          refine hK.out _ _ trivial (fun hHeld => ?_)
          clear hK K
          try simp only [Act.put, List.getElem_toArray, List.getElem_cons_zero, List.getElem_cons_succ, List.setIfInBounds_toArray, List.set_cons_zero, List.set_cons_succ]
          refine wpAnyH_done (by kernel_rfl) ?_ _
          go_wp2
          go_roundw
          case rel => exact ⟨k + 1, by omega, by go_num, _, HF.out⟩
          case measure => simp [intOf]; omega
        · simp only [List.getElem_toArray, List.getElem_cons_zero, List.getElem_cons_succ]
          go_simp
          refine hK.out _ _ trivial (fun hHeld => ?_)
          clear hK K
          try simp only [Act.put, List.getElem_toArray, List.getElem_cons_zero, List.getElem_cons_succ, List.setIfInBounds_toArray, List.set_cons_zero, List.set_cons_succ]
          refine wpAnyH_ready (rs := [4]) (by kernel_rfl) (by simp) ?_
          refine AllReadyH.cons rfl (fun K hK => ?_) AllReadyH.nil
          simp only [List.getElem_toArray, List.getElem_cons_zero, List.getElem_cons_succ]
          go_simp
          refine hK.out _ _ trivial (fun hHeld => ?_)
          clear hK K
          try simp only [Act.put, List.getElem_toArray, List.getElem_cons_zero, List.getElem_cons_succ, List.setIfInBounds_toArray, List.set_cons_zero, List.set_cons_succ]
          refine wpAnyH_ready (rs := [7]) (by kernel_rfl) (by simp) ?_
          refine AllReadyH.cons rfl (fun K hK => ?_) AllReadyH.nil
          refine step_append_known rfl (.tmp 31) (.tmp 33) 27 27 rfl (.slice tg k tcap) (.slice (some ⟨W6.heap.size, 0, none⟩) 1 1) (by simp [Act.eval]) (by simp [Act.eval]) HR7.out ?_
          refine hK.out _ _ trivial (fun hHeld => ?_)
          clear hK K
          try simp only [Act.put, List.getElem_toArray, List.getElem_cons_zero, List.getElem_cons_succ, List.setIfInBounds_toArray, List.set_cons_zero, List.set_cons_succ]
          refine wpAnyH_take (i := 8) (v := ?_) rfl (by kernel_rfl) (by kernel_rfl) (by kernel_rfl) (fun _ _ _ h => h) (Or.inl ⟨by rfl, ?_⟩) (by assumption) ?_
          rotate_left
          · (intro w hSw; (try dsimp only at hSw); go_simp; try with_reducible rfl)
          simp only [Act.put, List.getElem_toArray, List.getElem_cons_zero, List.getElem_cons_succ, List.setIfInBounds_toArray, List.set_cons_zero, List.set_cons_succ]
          refine wpAnyH_take (i := 9) (v := ?_) rfl (by kernel_rfl) (by kernel_rfl) (by kernel_rfl) (fun _ _ _ h => h) (Or.inl ⟨by rfl, ?_⟩) (by assumption) ?_
          rotate_left
          · (intro w hSw; (try dsimp only at hSw); go_simp; try with_reducible rfl)
          simp only [Act.put, List.getElem_toArray, List.getElem_cons_zero, List.getElem_cons_succ, List.setIfInBounds_toArray, List.set_cons_zero, List.set_cons_succ]
          refine wpAnyH_ready (rs := [10]) (by kernel_rfl) (by simp) ?_
          refine AllReadyH.cons rfl (fun K hK => ?_) AllReadyH.nil
          simp only [List.getElem_toArray, List.getElem_cons_zero, List.getElem_cons_succ]
          go_simp
          refine hK.out _ _ trivial (fun hHeld => ?_)
          clear hK K
          try simp only [Act.put, List.getElem_toArray, List.getElem_cons_zero, List.getElem_cons_succ, List.setIfInBounds_toArray, List.set_cons_zero, List.set_cons_succ]
          refine wpAnyH_done (by kernel_rfl) ?_ _
          go_wp2
          go_roundw
          case rel => exact ⟨k + 1, by omega, by go_num, _, HF.out⟩
          case measure => simp [intOf]; omega
    · have hkn : k = n := by omega
      subst hkn
      have HII := toHid hI
      clear hI HI
      go_wp2
      go_ret
      exact ⟨_, t, rfl, HII.out⟩
end Go.Proofs.Ytbidppeelophhaa
