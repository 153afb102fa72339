/-
  Texts laid together: MCopy, MRCopy, MCop0, TabK, DuoCopy, PSolo, PFirst, PArgs, PNil, Plays, Copies10.
-/
import Derived.Test.YtmhhahmjkopjhaaGreatCopM5
import Derived.Deep.RegionHeld3
import Derived.Deep.DrawnRows
import Derived.ProofKit
import Derived.Deep.Slices
import Derived.BigQuiet
import Derived.Deep.QuietTactic
import Derived.Deep.CutRange
set_option maxRecDepth 100000
set_option maxHeartbeats 8000000
section
namespace Go.Proofs.YtmhhahmjkopjhaaGreat.Mem
open Go.RowKit
attribute [local go_sem ↓] Go.wp_at_zero Go.wp_at_succ
structure Like (r r2 : Reg) : Prop where
 id : r2.id = r.id
 base : r2.base = r.base
 perm : r2.perm = r.perm
 bytes : r2.bytes = r.bytes
 set : r2.set = r.set
 sb : r2.sb = none ↔ r.sb = none
structure CopyAt (w w' : World) (s : MS) (C G : Nat) (k : Nat) (rs : List Reg) : Prop where
 len : rs.length = k
 like : ∀ i, i < k → Like (s.rs.getD i Reg.zero) (rs.getD i Reg.zero)
 row : Blk w' G (rs.map Reg.ptr ++ List.replicate (s.rs.length - k) (.pointer none)) 118
 self : Blk w' C [.slice (some ⟨G, 0, none⟩) s.rs.length s.rs.length, .int .i64 s.next] 79
 regs : ∀ r ∈ rs, RegAt w' r ∧ RegOk r ∧ ∀ x ∈ r.blocks, w.heap.size ≤ x ∧ x ≠ C ∧ x ≠ G
 apart : (rs.flatMap Reg.blocks).Nodup
 touch : Touch [] w w'
theorem CopyAt.step {w wr w2 : World} {s : MS} {C G k : Nat} {rs : List Reg} (h : CopyAt w wr s C G k rs) (hCG : C ≠ G) (ht : Touch [] wr w2) {r2 : Reg} (hr : RegAt w2 r2) (ok : RegOk r2) (hl : Like (s.rs.getD k Reg.zero) r2) (hb : ∀ x ∈ r2.blocks, wr.heap.size ≤ x)
  (hk : k < s.rs.length) (hG : w.heap.size ≤ G) : CopyAt w (w2.setCell ⟨G, k, none⟩ r2.ptr) s C G (k + 1) (rs ++ [r2]) := by
 have hGl : G < wr.heap.size := h.row.lt
 have hCl : C < wr.heap.size := h.self.lt
 have hsz := h.touch.size
 refine ⟨by simp [h.len], fun i hi => ?_, ?_, ?_, fun r hr' => ?_, ?_, ?_⟩
 ·by_cases hik : i < k
  ·rw [List.getD_eq_getElem?_getD (l := rs ++ [r2]), List.getElem?_append_left (by rw [h.len]; exact hik), ← List.getD_eq_getElem?_getD]
   exact h.like i hik
  ·obtain rfl : i = k := by omega
   rw [List.getD_eq_getElem?_getD (l := rs ++ [r2]), List.getElem?_append_right (by rw [h.len]; omega), h.len]
   simpa using hl
 ·have h1 := (ht.blk h.row (by simp)).setCell k r2.ptr
  have e : (rs.map Reg.ptr ++ List.replicate (s.rs.length - k) (Value.pointer none)).set k r2.ptr = (rs ++ [r2]).map Reg.ptr ++ List.replicate (s.rs.length - (k + 1)) (.pointer none) := by
   rw [show s.rs.length - k = (s.rs.length - (k + 1)) + 1 by omega, List.replicate_succ]
   have hlen : (rs.map Reg.ptr).length = k := by simp [h.len]
   rw [List.set_append_right _ _ (by omega), hlen]
   simp
  rw [e] at h1
  exact h1
 ·exact (ht.blk h.self (by simp)).setCell_other _ _ hCG
 ·rcases List.mem_append.1 hr' with hr' | hr'
  ·obtain ⟨h1, h2, h3⟩ := h.regs r hr'
   exact ⟨(h1.touch ht (by simp)).touch ((Touch.refl [G] w2).setCell _ _ (Or.inl (by simp))) (fun x hx => by simp; exact (h3 x hx).2.2), h2, h3⟩
  ·simp at hr'
   subst hr'
   refine ⟨hr.touch ((Touch.refl [G] w2).setCell _ _ (Or.inl (by simp))) (fun x hx => ?_), ok, fun x hx => ?_⟩
   ·have := hb x hx
    simp
    omega
   ·have := hb x hx
    exact ⟨by omega, by omega, by omega⟩
 ·rw [List.flatMap_append, List.nodup_append]
  refine ⟨h.apart, by simpa using ok.own, fun x hx y hy e => ?_⟩
  subst e
  obtain ⟨r, hr1, hr2⟩ := List.mem_flatMap.1 hx
  have h1 := (h.regs r hr1).1.lt x hr2
  have h2 := hb x (by simpa using hy)
  omega
 ·exact (h.touch.trans ht (by simp)).setCell _ _ (Or.inr hG)
theorem copy_any {w : World} {s : MS} (h : MemAt w s) : Calls Tryz.prog 17 #[.pointer (some ⟨s.m, 0, none⟩)] w fun e w' => ∃ C G rs, e = .returned (.pointer (some ⟨C, 0, none⟩)) ∧ CopyAt w w' s C G s.rs.length rs ∧ C ≠ G ∧ w.heap.size ≤ C ∧ w.heap.size ≤ G := by
 have c0 := h.c0
 have c1 := h.c1
 have hmk := run_make_blk (P := Tryz.prog) Tryz.underlying77 info79 rfl s.rs.length (by have := h.many; omega) (by have := h.many; omega) .i64
 have hmany := h.many
 have HM := toHid h
 unfold slV at c0
 generalize hsg : (s.g.map fun b => (⟨b, 0, none⟩ : Addr)) = sg at *
 generalize hn : s.rs.length = n at *
 generalize s.cap = cap at *
 have HN := toHid (And.intro hsg hn)
 clear h hsg hn
 go_enter Tryz.func17, Tryz.ntmps17
 go_wp2_with fail
 refine wp_region_held_drew (S := (fun w' => w'.cell? ⟨s.m, 0, none⟩ = some (.slice sg n cap) ∧ w'.cell? ⟨s.m, 1, none⟩ = some (.int .i64 s.next))) (by kernel_rfl) ?_ (fun hHeld => ?_)
 ·exact ⟨c0, c1⟩
 refine tk 0 (v := ?_) rfl ?_ ?_
 rotate_left
 ·(intro w hSw; (try dsimp only at hSw); go_simp; try with_reducible rfl)
 simp only [Act.put, AP]
 refine tk 1 (v := ?_) rfl ?_ ?_
 rotate_left
 ·(intro w hSw; (try dsimp only at hSw); go_simp; try with_reducible rfl)
 simp only [Act.put, AP]
 refine tk 2 (v := ?_) rfl ?_ ?_
 rotate_left
 ·(intro w hSw; (try dsimp only at hSw); go_simp; try with_reducible rfl)
 simp only [Act.put, AP]
 refine tk 3 (v := ?_) rfl ?_ ?_
 rotate_left
 ·(intro w hSw; (try dsimp only at hSw); go_simp; try with_reducible rfl)
 simp only [Act.put, AP]
 refine tk 4 (v := ?_) rfl ?_ ?_
 rotate_left
 ·(intro w hSw; (try dsimp only at hSw); go_simp; try with_reducible rfl)
 simp only [Act.put, AP]
 refine tk 6 (v := ?_) rfl ?_ ?_
 rotate_left
 ·(intro w hSw; (try dsimp only at hSw); go_simp; try with_reducible rfl)
 simp only [Act.put, AP]
 refine tk 7 (v := ?_) rfl ?_ ?_
 rotate_left
 ·(intro w hSw; (try dsimp only at hSw); go_simp; try with_reducible rfl)
 simp only [Act.put, AP]
 refine tk 8 (v := ?_) rfl ?_ ?_
 rotate_left
 ·(intro w hSw; (try dsimp only at hSw); go_simp; try with_reducible rfl)
 simp only [Act.put, AP]
 refine tk 9 (v := ?_) rfl ?_ ?_
 rotate_left
 ·(intro w hSw; (try dsimp only at hSw); go_simp; try with_reducible rfl)
 simp only [Act.put, AP]
 refine wpAnyH_ready (rs := [5]) (by kernel_rfl) (by simp) ?_
 refine AllReadyH.cons rfl (fun K hK => ?_) AllReadyH.nil
 simp only [AP]
 go_simp
 refine hK.out _ _ ?_ (fun hHeld => ?_)
 ·exact ⟨((Touch.refl [] w).drew.alloc _).cell c0 (by simp), ((Touch.refl [] w).drew.alloc _).cell c1 (by simp)⟩
 clear hK K
 try simp only [Act.put, AP]
 refine tk 10 (v := ?_) rfl ?_ ?_
 rotate_left
 ·(intro w hSw; (try dsimp only at hSw); go_simp; try with_reducible rfl)
 simp only [Act.put, AP]
 refine wpAnyH_ready (rs := [11]) (by kernel_rfl) (by simp) ?_
 refine AllReadyH.cons rfl (fun K hK => ?_) AllReadyH.nil
 simp only [AP]
 go_simp
 refine hK.out _ _ ?_ (fun hHeld => ?_)
 ·exact ⟨(((Touch.refl [] w).drew.alloc _).alloc _).cell c0 (by simp), (((Touch.refl [] w).drew.alloc _).alloc _).cell c1 (by simp)⟩
 clear hK K
 try simp only [Act.put, AP]
 refine wpAnyH_ready (rs := [12]) (by kernel_rfl) (by simp) ?_
 refine AllReadyH.cons rfl (fun K hK => ?_) AllReadyH.nil
 simp only [AP]
 go_simp
 refine hK.out _ _ ?_ (fun hHeld => ?_)
 ·exact hHeld
 clear hK K
 try simp only [Act.put, AP]
 refine wpAnyH_done (by kernel_rfl) ?_ _
 clear c0 c1
 go_wp2_with fail
 have hG := ((Blk.newA w (Array.replicate n (Value.pointer none)) (List.replicate n (.pointer none)) 118 (by simp)).alloc (.cells #[.slice (some ⟨w.heap.size, 0, none⟩) n n, .int .i64 s.next] 79)).drew
 have hC := (Blk.newA (w.alloc (.cells (Array.replicate n (Value.pointer none)) 118)) #[.slice (some ⟨w.heap.size, 0, none⟩) n n, .int .i64 s.next] _ 79 rfl).drew
 rw [World.size_alloc] at hC
 have hT := (((Touch.refl [] w).alloc (.cells (Array.replicate n (Value.pointer none)) 118)).alloc (.cells #[.slice (some ⟨w.heap.size, 0, none⟩) n n, .int .i64 s.next] 79)).drew
 have HZ : Hid (CopyAt w ((w.alloc (.cells (Array.replicate n (Value.pointer none)) 118)).alloc (.cells #[.slice (some ⟨w.heap.size, 0, none⟩) n n, .int .i64 s.next] 79)).drew s (w.heap.size + 1) w.heap.size 0 []) := by
  refine ⟨rfl, fun i hi => absurd hi (by omega), ?_, ?_, fun r hr => absurd hr (by simp), by simp, hT⟩
  ·rw [HN.out.2]
   simpa using hG
  ·rw [HN.out.2]
   exact hC
 clear hG hC hT hHeld
 go_loopw [25] (fun x w' => ∃ k : Nat, k ≤ n ∧ x = .int .i64 k ∧ Hid (∃ rs, CopyAt w w' s (w.heap.size + 1) w.heap.size k rs)) (fun x _ => n - (intOf x).toNat)
 case atStart => exact ⟨0, by omega, rfl, [], HZ.out⟩
 case round =>
  obtain ⟨k, hk, rfl, HI⟩ := hrel
  obtain ⟨rs, hI⟩ := HI.out
  by_cases hlt : k < n
  ·have hkl : k < s.rs.length := by rw [HN.out.2]; exact hlt
   obtain ⟨b, hb⟩ : ∃ b, s.g = some b := by
    cases hg : s.g with
    | none => have := (HM.out.nil hg).1; rw [this] at hkl; simp at hkl
    | some b => exact ⟨b, rfl⟩
   have hsg := HN.out.1
   rw [hb] at hsg
   simp only [Option.map_some] at hsg
   subst hsg
   have hrm := getD_mem hkl
   have q0 := hI.touch.cell (HM.out.ptrAt hb hkl) (by simp)
   have hreg := (HM.out.regs _ hrm).touch hI.touch (by simp)
   have hok := HM.out.ok _ hrm
   have HTW := toHid (twin_any (hreg.touch ((Touch.refl [] wr).drew) (by simp)) hok)
   have hs1 := hI.self
   rw [HN.out.2] at hs1
   have q1 := hs1.cell (i := 0) rfl
   have hrl : (rs.map Reg.ptr ++ List.replicate (s.rs.length - k) (Value.pointer none)).length = n := by
    simp [hI.len, HN.out.2]; omega
   generalize hr : s.rs.getD k Reg.zero = r at *
   simp only [Reg.ptr] at HTW
   have hki : (k : Int) < n := by omega
   have HII := toHid hI
   have HRL := toHid hrl
   have HRR := toHid hr
   clear hI HI hreg hs1 hrm hrl hr hok
   go_wp2_with fail
   refine wp_region_held_drew (S := (fun w' => w'.cell? ⟨w.heap.size + 1, 0, none⟩ = some (.slice (some ⟨w.heap.size, 0, none⟩) n n))) (by kernel_rfl) ?_ (fun hHeld => ?_)
   ·exact q1
   refine tk 0 (v := ?_) rfl ?_ ?_
   rotate_left
   ·(intro w hSw; (try dsimp only at hSw); go_simp; try with_reducible rfl)
   simp only [Act.put, AP]
   refine tk 1 (v := ?_) rfl ?_ ?_
   rotate_left
   ·(intro w hSw; (try dsimp only at hSw); go_simp; try with_reducible rfl)
   simp only [Act.put, AP]
   refine tk 2 (v := ?_) rfl ?_ ?_
   rotate_left
   ·(intro w hSw; (try dsimp only at hSw); go_simp; try with_reducible rfl)
   simp only [Act.put, AP]
   refine tk 3 (v := ?_) rfl ?_ ?_
   rotate_left
   ·(intro w hSw; (try dsimp only at hSw); go_simp; try with_reducible rfl)
   simp only [Act.put, AP]
   refine tk 4 (v := ?_) rfl ?_ ?_
   rotate_left
   ·(intro w hSw; (try dsimp only at hSw); go_simp; try with_reducible rfl)
   simp only [Act.put, AP]
   refine tk 5 (v := ?_) rfl ?_ ?_
   rotate_left
   ·(intro w hSw; (try dsimp only at hSw); go_simp; try with_reducible rfl)
   simp only [Act.put, AP]
   refine wpAnyH_ready (rs := [6]) (by kernel_rfl) (by simp) ?_
   refine AllReadyH.cons rfl (fun K hK => ?_) AllReadyH.nil
   simp only [AP]
   go_simp
   refine HTW.out.mono ?_; rintro e w2 ⟨r2, rfl, hr2, hok2, hid2, hba2, hpe2, hby2, hse2, hsb2, hbl2, ht2⟩; simp only [Reg.ptr]
   go_wp2_with fail
   refine hK.out _ _ ?_ (fun hHeld => ?_)
   ·exact ht2.cell hHeld (by simp)
   clear hK K
   try simp only [Act.put, AP]
   have hT2 : Touch [] wr w2 := ((Touch.refl [] wr).drew).trans ht2 (by simp)
   have hrow2 := hT2.blk HII.out.row (by simp)
   have q3 := hrow2.cellN (i := k) (by rw [HRL.out]; exact hlt)
   have fz := hrow2.frozen k
   have HX := toHid (And.intro hr2 (And.intro hok2 (And.intro (Like.mk hid2 hba2 hpe2 hby2 hse2 hsb2) (And.intro hbl2 (And.intro hT2 hrow2)))))
   clear hr2 hok2 hid2 hba2 hpe2 hby2 hse2 hsb2 hbl2 ht2 hT2 hrow2
   refine tk 7 (v := ?_) rfl ?_ ?_
   rotate_left
   ·(intro w hSw; (try dsimp only at hSw); go_simp; try with_reducible rfl)
   simp only [Act.put, AP]
   refine wpAnyH_ready (rs := [8]) (by kernel_rfl) (by simp) ?_
   refine AllReadyH.cons rfl (fun K hK => ?_) AllReadyH.nil
   simp only [AP]
   go_simp
   refine hK.out _ _ ?_ (fun hHeld => ?_)
   ·exact ((Touch.refl [w.heap.size] w2).setCell ⟨w.heap.size, k, none⟩ _ (Or.inl (by simp))).cell hHeld (by simp)
   clear hK K
   try simp only [Act.put, AP]
   refine wpAnyH_done (by kernel_rfl) ?_ _
   have HC := toHid (HII.out.step (by omega) HX.out.2.2.2.2.1 HX.out.1 HX.out.2.1 (by rw [HRR.out]; exact HX.out.2.2.1) HX.out.2.2.2.1 hkl (by omega))
   simp only [Reg.ptr] at HC
   go_wp2
   go_roundw
   case rel => exact ⟨k + 1, by omega, by go_num, _, HC.out⟩
   case measure => simp [intOf]; omega
  ·have hkn : k = n := by omega
   subst hkn
   have HII := toHid hI
   clear hI HI
   go_wp2
   go_ret
   exact ⟨_, _, rs, rfl, HII.out, by omega, by omega, Nat.le_refl _⟩
end Go.Proofs.YtmhhahmjkopjhaaGreat.Mem
end
section
namespace Go.Proofs.YtmhhahmjkopjhaaGreat.Mem
open Go.RowKit
attribute [local go_sem ↓] Go.wp_at_zero Go.wp_at_succ
theorem own_append {w : World} {tS e : TypeId} {z : Value} {by_ : Nat} (hu : Tryz.prog.underlying tS = some (.slice e)) (hi : (Tryz.prog.info? e).map (fun i => (i.zero, i.size, i.bytes)) = some (some z, 1, by_)) (hz1 : z.cells.size = 1) (hby : by_ ≤ 8) (E : Nat) (hE : Blk w E [] e)
  (b m c : Nat) (cs : List Value) (hm : cs.length = m) (hsrc : ∀ j v, cs[j]? = some v → w.cell? ⟨b, j, none⟩ = some v) (h1 : ∀ v ∈ cs, v.oneCell' = true) (hpos : 0 < m) (hsm : m ≤ 65536) :
  ∃ g cap w', (Builtin.append_ #[tS, tS] tS #[.slice (some ⟨E, 0, none⟩) 0 0, .slice (some ⟨b, 0, none⟩) m c]).run Tryz.prog w = .ok (.slice (some ⟨g, 0, none⟩) m cap) w' ∧ (∃ rest, Blk w' g (cs ++ rest) e) ∧ Touch [E] w w' ∧ (g = E ∨ g = w.heap.size) := by
 obtain ⟨i, hi0, hz, hs, hb⟩ := info_of hi
 have hrow : RowAt w e 1 (some E) 0 0 [] := ⟨rfl, Nat.le_refl _, by unfold maxLen; omega, [], by simpa using hE, by simp⟩
 have hmul : m * i.bytes ≤ 65536 * 8 := Nat.mul_le_mul hsm (by rw [hb]; exact hby)
 obtain ⟨g', cap', w', hr, h2, h3, h4, _⟩ := run_append_row (P := Tryz.prog) w tS tS e i z 1 hu hi0 hz hs hz1 (by omega) (some E) 0 0 [] hrow ⟨b, 0, none⟩ m c cs (by omega)
  (fun j v hj => by rw [Addr.add_lit, Nat.zero_add]; exact hsrc j v hj) h1 (by rw [Nat.zero_add]; omega) (by omega)
 simp only [Nat.zero_add, List.nil_append] at hr h2
 cases g' with
 | none =>
  have q1 := h2.2.1
  have q2 : cap' = 0 := h2.2.2.2
  omega
 | some g =>
  obtain ⟨_, _, _, rest, hB, _⟩ := h2
  refine ⟨g, cap', w', hr, ⟨rest, hB⟩, by simpa using h3, ?_⟩
  rcases h4 with h4 | h4
  ·injection h4 with h4; exact Or.inl h4
  ·injection h4 with h4; exact Or.inr h4
structure RLike (x y : RReg) : Prop where
 live : y.live = x.live
 base : y.base = x.base
 perm : y.perm = x.perm
 bytes : y.bytes = x.bytes
 set : y.set = x.set
theorem rput {w wl : World} {s : RS} (h : RefAt w s) (hlen : s.all.length < 1000) {r : RReg} (ht : Touch [] w wl) (hr : RRegAt wl r) (ok : RRegOk r) (hbs : r.bb ≠ r.sb) (hnew : ∀ x ∈ r.blocks, w.heap.size ≤ x) :
  ∃ g' cap' w', (Builtin.append_ #[67, 67] 67 #[slV s.g s.all.length s.cap, .slice (some ⟨wl.heap.size, 0, none⟩) 1 1]).run Tryz.prog (wl.alloc (.cells r.cells.toArray 82)).drew = .ok (slV g' (s.all.length + 1) cap') w' ∧
   w'.cell? ⟨s.m, 0, none⟩ = some (slV s.g s.all.length s.cap) ∧ w'.frozen? ⟨s.m, 0, none⟩ = false ∧
   RefAt (w'.setCell ⟨s.m, 0, none⟩ (slV g' (s.all.length + 1) cap')) ⟨s.m, g', cap', s.all ++ [r]⟩ ∧ Touch s.blocks w (w'.setCell ⟨s.m, 0, none⟩ (slV g' (s.all.length + 1) cap')) ∧
   (∀ x ∈ (⟨s.m, g', cap', s.all ++ [r]⟩ : RS).blocks, x ∈ s.blocks ∨ w.heap.size ≤ x) := by
 obtain ⟨i, hi, hz, hs, hby⟩ := info_of info44
 have hml := h.touch ht (by simp)
 have hta : Touch [] wl (wl.alloc (.cells r.cells.toArray 82)).drew := ((Touch.refl _ wl).alloc _).drew
 have hm2 := hml.touch hta (by simp)
 have hN := Blk.newA wl r.cells.toArray _ 82 rfl
 have hrl := hr
 obtain ⟨g', cap', w', hrn, h2, h3', h4, h5⟩ := run_append_row (P := Tryz.prog) _ 67 67 82 i _ 5 Tryz.underlying67 hi hz hs rfl (by omega) s.g s.all.length s.cap _ hm2.row ⟨wl.heap.size, 0, none⟩ 1 1 r.cells rfl
  (fun j v hj => by
   rw [Addr.add_lit, Nat.zero_add]
   exact hN.drew.cell (by simpa using hj))
  (fun u hu => by simp [RReg.cells] at hu; rcases hu with rfl | rfl | rfl | rfl | rfl <;> rfl)
  (by rw [hby]; omega) (by omega)
 have hap := h.apart
 have hlt := h.lt
 simp only [RS.blocks, List.cons_append, List.nodup_cons, List.mem_append, List.nodup_append] at hap
 have hmg : s.m ∉ s.g.toList := fun hx => hap.1 (Or.inl hx)
 have hmself := h3'.blk hm2.self hmg
 have hlo : w.heap.size ≤ wl.heap.size := ht.size
 have hmlt := hlt s.m s.mem_m
 have hgm : g' ≠ some s.m := fun e => by
  rcases h4 with h4 | h4
  ·exact hmg (by rw [← h4, e]; simp)
  ·rw [e] at h4; injection h4 with h4; simp at h4; omega
 have hrlt : ∀ x ∈ r.blocks, x < wl.heap.size := by
  obtain ⟨⟨r1, q1⟩, ⟨r2, q2⟩⟩ := hr
  intro x hx
  simp [RReg.blocks] at hx
  rcases hx with rfl | rfl
  ·exact q1.lt
  ·exact q2.lt
 have hts : Touch [s.m] w' (w'.setCell ⟨s.m, 0, none⟩ (slV g' (s.all.length + 1) cap')) := (Touch.refl _ w').setCell _ _ (Or.inl (by simp))
 have hrA : RRegAt (w'.setCell ⟨s.m, 0, none⟩ (slV g' (s.all.length + 1) cap')) r := by
  refine ((hrl.touch hta (by simp)).touch h3' (fun x hx hh => ?_)).touch hts (fun x hx hh => ?_)
  ·have := hlt x (s.mem_g (by simpa using hh))
   have := hnew x hx
   omega
  ·simp at hh
   subst hh
   have := hnew _ hx
   omega
 refine ⟨g', cap', w', hrn, hmself.cell rfl, hmself.frozen 0, ?_, ?_, ?_⟩
 ·refine RefAt.added h hlen (hmself.setCell 0 _) (h2.touch hts (fun b hb hx => hgm (by simp at hx; rw [hb, hx]))) ?_ hrA ok hbs hnew ?_
  ·intro x hx
   refine ((hm2.regs x hx).touch h3' (fun y hy hh => ?_)).touch hts (fun y hy hh => ?_)
   ·exact hap.2.2.2 y hh y (List.mem_flatMap.2 ⟨x, hx, hy⟩) rfl
   ·simp at hh
    subst hh
    exact hap.1 (Or.inr (List.mem_flatMap.2 ⟨x, hx, hy⟩))
  ·rcases h4 with h4 | h4
   ·exact Or.inl h4
   ·refine Or.inr ⟨_, h4, by simp; omega, fun hx => ?_⟩
    have := hrlt _ hx
    simp at this
    omega
 ·refine Touch.trans (b := w') ?_ hts (fun x hx => Or.inl (by simp at hx; rw [hx]; exact s.mem_m))
  refine Touch.trans (b := _) (ht.trans hta (by simp)).nil h3' (fun x hx => Or.inl (s.mem_g (by simpa using hx)))
 ·intro x hx
  simp only [RS.blocks, List.cons_append, List.mem_cons, List.mem_append, List.mem_flatMap] at hx ⊢
  rcases hx with hx | hx | ⟨y, (hy | rfl | hy), hx⟩
  ·exact Or.inl (Or.inl hx)
  ·rcases h4 with h4 | h4
   ·rw [h4] at hx; exact Or.inl (Or.inr (Or.inl hx))
   ·rw [h4] at hx; simp at hx; exact Or.inr (by omega)
  ·exact Or.inl (Or.inr (Or.inr ⟨y, hy, hx⟩))
  ·exact Or.inr (hnew x hx)
  ·cases hy
structure RCopyAt (w w' : World) (s t : RS) (O k : Nat) : Prop where
 ref : RefAt w' t
 m : t.m = O
 len : t.all.length = k
 like : ∀ i, i < k → RLike (s.all.getD i RReg.zero) (t.all.getD i RReg.zero)
 own : ∀ x ∈ t.blocks, w.heap.size ≤ x
 touch : Touch [] w w'
theorem rcopy_any {w : World} {s : RS} (h : RefAt w s) (hlen : s.all.length < 1000) : Calls Tryz.prog 18 #[.pointer (some ⟨s.m, 0, none⟩)] w fun e w' => ∃ O t, e = .returned (.pointer (some ⟨O, 0, none⟩)) ∧ RCopyAt w w' s t O s.all.length := by
 have c0 := ((Touch.refl [] w).alloc (.cells #[.slice none 0 0] 69)).cell h.c0 (by simp)
 have HZ : Hid (RCopyAt w (w.alloc (.cells #[.slice none 0 0] 69)) s ⟨w.heap.size, none, 0, []⟩ w.heap.size 0) := by
  refine ⟨⟨Blk.newA w #[.slice none 0 0] _ 69 rfl, ⟨rfl, Nat.le_refl _, Nat.zero_le _, rfl⟩, fun r hr => absurd hr (by simp), fun r hr => absurd hr (by simp), by simp [RS.blocks], by simp⟩, rfl, rfl, fun i hi => absurd hi (by omega), fun x hx => ?_, (Touch.refl [] w).alloc _⟩
  simp [RS.blocks] at hx
  omega
 have HH := toHid h
 unfold slV at c0
 generalize hsg : (s.g.map fun b => (⟨b, 0, none⟩ : Addr)) = sg at *
 generalize hn : s.all.length = n at *
 generalize s.cap = cap at *
 have HN := toHid (And.intro hsg hn)
 clear h hsg hn
 go_enter Tryz.func18, Tryz.ntmps18
 go_wp2_with fail
 clear c0
 go_loopw [13] (fun x w' => ∃ k : Nat, k ≤ n ∧ x = .int .i64 k ∧ Hid (∃ t, RCopyAt w w' s t w.heap.size k)) (fun x _ => n - (intOf x).toNat)
 case atStart => exact ⟨0, by omega, rfl, _, HZ.out⟩
 case round =>
  obtain ⟨k, hk, rfl, HI⟩ := hrel
  obtain ⟨t, hI⟩ := HI.out
  by_cases hlt : k < n
  ·have hkl : k < s.all.length := by rw [HN.out.2]; exact hlt
   obtain ⟨b, hb⟩ := HH.out.some_g hkl
   have hsg := HN.out.1
   rw [hb] at hsg
   simp only [Option.map_some] at hsg
   subst hsg
   have hx := rgetD_of hkl
   generalize hxx : s.all.getD k RReg.zero = x at *
   have hS := HH.out.touch hI.touch (by simp)
   have d0 := hS.at hb hx (j := 0) (by omega) rfl
   have d1 := hS.at hb hx (j := 1) (by omega) rfl
   have d2 := hS.at hb hx (j := 2) (by omega) rfl
   have d3 := hS.at hb hx (j := 3) (by omega) rfl
   have d4 := hS.at hb hx (j := 4) (by omega) rfl
   simp only [Nat.add_zero] at d0
   have hki : (k : Int) < n := by omega
   have hxm := List.mem_of_getElem? hx
   have okx := HH.out.ok x hxm
   obtain ⟨⟨rb, hxb⟩, ⟨rs, hxs⟩⟩ := hS.regs x hxm
   have hta : Touch [] wr (wr.alloc (.cells #[.bool x.live, .int .u64 x.base, .int .i64 x.perm, .slice (some ⟨x.bb, 0, none⟩) x.bytes.length x.bcap, .slice (some ⟨x.sb, 0, none⟩) x.set.length x.scap] 82)) := (Touch.refl [] wr).alloc _
   have hP0 := Blk.newA wr #[.bool x.live, .int .u64 x.base, .int .i64 x.perm, .slice (some ⟨x.bb, 0, none⟩) x.bytes.length x.bcap, .slice (some ⟨x.sb, 0, none⟩) x.set.length x.scap] _ 82 rfl
   have hE1 := Blk.newA (wr.alloc (.cells #[.bool x.live, .int .u64 x.base, .int .i64 x.perm, .slice (some ⟨x.bb, 0, none⟩) x.bytes.length x.bcap, .slice (some ⟨x.sb, 0, none⟩) x.set.length x.scap] 82)) #[] [] 5 rfl
   rw [World.size_alloc] at hE1
   have htb : Touch [] wr ((wr.alloc (.cells #[.bool x.live, .int .u64 x.base, .int .i64 x.perm, .slice (some ⟨x.bb, 0, none⟩) x.bytes.length x.bcap, .slice (some ⟨x.sb, 0, none⟩) x.set.length x.scap] 82)).alloc (.cells #[] 5)) := hta.alloc _
   obtain ⟨g1, cap1, W2, hr1, ⟨rest1, hB1⟩, ht1, hg1⟩ := own_append Tryz.underlying39 info5 rfl (by omega) (wr.heap.size + 1) hE1 x.bb x.bytes.length x.bcap (x.bytes.map (Value.int .u8)) (by simp) (fun j v hj => (htb.blk hxb (by simp)).cell (by rw [List.getElem?_append_left (List.getElem?_eq_some_iff.1 hj).1]; exact hj))
    (fun v hv => by
     obtain ⟨y, _, rfl⟩ := List.mem_map.1 hv
     rfl) okx.size1 okx.size2
   have hg1' : wr.heap.size < g1 := by
    simp only [World.size_alloc] at hg1
    omega
   have hT2 : Touch [] wr W2 := htb.trans ht1 (fun y hy => Or.inr (by simp at hy; omega))
   have hP2 := ht1.blk (hP0.alloc (.cells #[] 5)) (by simp)
   have hP3 := hP2.setCell 3 (.slice (some ⟨g1, 0, none⟩) x.bytes.length cap1)
   have hB3 := hB1.setCell_other ⟨wr.heap.size, 3, none⟩ (.slice (some ⟨g1, 0, none⟩) x.bytes.length cap1) (by show g1 ≠ wr.heap.size; omega)
   have hT3 : Touch [] wr (W2.setCell ⟨wr.heap.size, 3, none⟩ (.slice (some ⟨g1, 0, none⟩) x.bytes.length cap1)) := hT2.setCell _ _ (Or.inr (Nat.le_refl _))
   have hE2 := Blk.newA (W2.setCell ⟨wr.heap.size, 3, none⟩ (.slice (some ⟨g1, 0, none⟩) x.bytes.length cap1)) #[] [] 4 rfl
   have hszc : (W2.setCell ⟨wr.heap.size, 3, none⟩ (.slice (some ⟨g1, 0, none⟩) x.bytes.length cap1)).heap.size = W2.heap.size := by simp
   rw [hszc] at hE2
   have hT4 := hT3.alloc (.cells #[] 4)
   obtain ⟨g2, cap2, W5, hr2, ⟨rest2, hB2⟩, ht2, hg2⟩ := own_append Tryz.underlying80 info4 rfl (by omega) W2.heap.size hE2 x.sb x.set.length x.scap (x.set.map Value.bool) (by simp) (fun j v hj => (hT4.blk hxs (by simp)).cell (by rw [List.getElem?_append_left (List.getElem?_eq_some_iff.1 hj).1]; exact hj))
    (fun v hv => by
     obtain ⟨y, _, rfl⟩ := List.mem_map.1 hv
     rfl) (by rw [okx.setLen]; exact okx.size1) (by rw [okx.setLen]; exact okx.size2)
   have hgl := hB1.lt
   have hg2' : W2.heap.size ≤ g2 := by
    rcases hg2 with h | h
    ·omega
    ·rw [h]; simp
   have hWs := hT2.size
   have hP5 := ht2.blk (hP3.alloc (.cells #[] 4)) (by simp; have := hP2.lt; omega)
   have hB5 := ht2.blk (hB3.alloc (.cells #[] 4)) (by simp; omega)
   have hT5 : Touch [] wr W5 := hT4.trans ht2 (fun y hy => Or.inr (by simp at hy; omega))
   have hP6 := hP5.setCell 4 (.slice (some ⟨g2, 0, none⟩) x.set.length cap2)
   have hB6 := hB5.setCell_other ⟨wr.heap.size, 4, none⟩ (.slice (some ⟨g2, 0, none⟩) x.set.length cap2) (by show g1 ≠ wr.heap.size; omega)
   have hC6 := hB2.setCell_other ⟨wr.heap.size, 4, none⟩ (.slice (some ⟨g2, 0, none⟩) x.set.length cap2) (by show g2 ≠ wr.heap.size; have := hP2.lt; omega)
   have hT6 : Touch [] wr (W5.setCell ⟨wr.heap.size, 4, none⟩ (.slice (some ⟨g2, 0, none⟩) x.set.length cap2)) := hT5.setCell _ _ (Or.inr (Nat.le_refl _))
   obtain ⟨g', cap', W7, hr7, c7, f7, hR7, ht7, hb7⟩ := rput (r := ⟨x.live, x.base, x.perm, g1, cap1, x.bytes, g2, cap2, x.set⟩) hI.ref (by rw [hI.len]; omega) hT6 ⟨⟨rest1, hB6⟩, ⟨rest2, hC6⟩⟩ ⟨okx.base0, okx.size1, okx.size2, okx.fits, okx.perm0, okx.perm1, okx.setLen, okx.byte⟩ (by show g1 ≠ g2; omega)
    (fun y hy => by simp [RReg.blocks] at hy; omega)
   have a3 : W2.cell? ⟨wr.heap.size, 3, none⟩ = some _ := hP2.cell rfl
   have a3f := hP2.frozen 3
   have a4 : ((W2.setCell ⟨wr.heap.size, 3, none⟩ (.slice (some ⟨g1, 0, none⟩) x.bytes.length cap1)).alloc (.cells #[] 4)).cell? ⟨wr.heap.size, 4, none⟩ = some (.slice (some ⟨x.sb, 0, none⟩) x.set.length x.scap) := (hP3.alloc (.cells #[] 4)).cell rfl
   have hPne : wr.heap.size ≠ W2.heap.size := by have := hP2.lt; omega
   have b4 : W5.cell? ⟨wr.heap.size, 4, none⟩ = some _ := hP5.cell rfl
   have b4f := hP5.frozen 4
   have HR1 := toHid hr1
   have HR2 := toHid hr2
   go_wp2_with (first | (at_builtin; refine Lib.wpList_append_run _ rfl _ _ _ _ rfl _ _ rfl rfl _ _ HR1.out ?_) | (at_builtin; refine Lib.wpList_append_run _ rfl _ _ _ _ rfl _ _ rfl rfl _ _ HR2.out ?_))
   have e0 := (hI.ref.touch hT6 (by simp)).c0
   have hmO := hI.m
   have htl := hI.len
   have HF : Hid (RCopyAt w (W7.setCell ⟨w.heap.size, 0, none⟩ (slV g' (k + 1) cap')) s ⟨t.m, g', cap', t.all ++ [⟨x.live, x.base, x.perm, g1, cap1, x.bytes, g2, cap2, x.set⟩]⟩ w.heap.size (k + 1)) := by
    rw [hmO, htl] at hR7 ht7
    refine ⟨by rw [hmO]; exact hR7, hmO, by simp [htl], fun i hi => ?_, fun y hy => ?_, ?_⟩
    ·by_cases hik : i < k
     ·rw [List.getD_eq_getElem?_getD (l := t.all ++ _), List.getElem?_append_left (by rw [htl]; exact hik), ← List.getD_eq_getElem?_getD]
      exact hI.like i hik
     ·obtain rfl : i = k := by omega
      rw [List.getD_eq_getElem?_getD (l := t.all ++ _), List.getElem?_append_right (by rw [htl]; omega), htl, hxx]
      simp only [Nat.sub_self, List.getElem?_cons_zero, Option.getD_some]
      exact ⟨rfl, rfl, rfl, rfl, rfl⟩
    ·rcases hb7 y hy with h | h
     ·exact hI.own y h
     ·exact Nat.le_trans hI.touch.size h
    ·exact hI.touch.trans ht7 (fun y hy => Or.inr (hI.own y hy))
   have k0 : (W5.setCell ⟨wr.heap.size, 4, none⟩ (.slice (some ⟨g2, 0, none⟩) x.set.length cap2)).cell? ⟨wr.heap.size, 0, none⟩ = some (.bool x.live) := hP6.cell rfl
   have k1 : (W5.setCell ⟨wr.heap.size, 4, none⟩ (.slice (some ⟨g2, 0, none⟩) x.set.length cap2)).cell? ⟨wr.heap.size, 1, none⟩ = some (.int .u64 x.base) := hP6.cell rfl
   have k2 : (W5.setCell ⟨wr.heap.size, 4, none⟩ (.slice (some ⟨g2, 0, none⟩) x.set.length cap2)).cell? ⟨wr.heap.size, 2, none⟩ = some (.int .i64 x.perm) := hP6.cell rfl
   have k3 : (W5.setCell ⟨wr.heap.size, 4, none⟩ (.slice (some ⟨g2, 0, none⟩) x.set.length cap2)).cell? ⟨wr.heap.size, 3, none⟩ = some (.slice (some ⟨g1, 0, none⟩) x.bytes.length cap1) := hP6.cell rfl
   have k4 : (W5.setCell ⟨wr.heap.size, 4, none⟩ (.slice (some ⟨g2, 0, none⟩) x.set.length cap2)).cell? ⟨wr.heap.size, 4, none⟩ = some (.slice (some ⟨g2, 0, none⟩) x.set.length cap2) := hP6.cell rfl
   rw [hmO, htl] at e0 c7
   rw [hmO] at f7
   rw [htl] at hr7
   simp only [RReg.cells] at hr7
   simp only [slV] at e0 c7 hr7 HF
   generalize (t.g.map fun b => (⟨b, 0, none⟩ : Addr)) = tg at *
   generalize t.cap = tcap at *
   have HR7 := toHid hr7
   clear hr7 hR7 ht7 hb7 hT6 hT5 hT4 hT3 hT2 hta htb hP0 hP2 hP3 hP5 hP6 hB1 hB2 hB3 hB5 hB6 hC6 hE1 hE2 hr1 hr2 ht1 ht2 HR1 HR2 a3 a3f a4 b4 b4f hxb hxs okx hxm hS d0 d1 d2 d3 d4 hx hI HI hmO htl hxx
   generalize W5.setCell ⟨wr.heap.size, 4, none⟩ (.slice (some ⟨g2, 0, none⟩) x.set.length cap2) = W6 at *
   have e0a := fun o => ((Touch.refl [] W6).alloc o).cell e0 (by simp)
   refine wp_region_held_drew (S := (fun _ => True)) (by kernel_rfl) ?_ (fun hHeld => ?_)
   ·trivial
   refine tk 0 (v := ?_) rfl ?_ ?_
   rotate_left
   ·(intro w hSw; (try dsimp only at hSw); go_simp; try with_reducible rfl)
   simp only [Act.put, AP]
   refine tk 1 (v := ?_) rfl ?_ ?_
   rotate_left
   ·(intro w hSw; (try dsimp only at hSw); go_simp; try with_reducible rfl)
   simp only [Act.put, AP]
   refine tk 2 (v := ?_) rfl ?_ ?_
   rotate_left
   ·(intro w hSw; (try dsimp only at hSw); go_simp; try with_reducible rfl)
   simp only [Act.put, AP]
   refine tk 3 (v := ?_) rfl ?_ ?_
   rotate_left
   ·(intro w hSw; (try dsimp only at hSw); go_simp; try with_reducible rfl)
   simp only [Act.put, AP]
   refine wpAnyH_ready (rs := [4, 5]) (by kernel_rfl) (by simp) ?_
   refine AllReadyH.cons rfl (fun K hK => ?_) (AllReadyH.cons rfl (fun K hK => ?_) AllReadyH.nil)
   ·simp only [AP]
    go_simp
    refine hK.out _ _ trivial (fun hHeld => ?_)
    clear hK K
    try simp only [Act.put, AP]
    refine wpAnyH_ready (rs := [5]) (by kernel_rfl) (by simp) ?_
    refine AllReadyH.cons rfl (fun K hK => ?_) AllReadyH.nil
    simp only [AP]
    go_simp
    refine hK.out _ _ trivial (fun hHeld => ?_)
    clear hK K
    try simp only [Act.put, AP]
    refine wpAnyH_ready (rs := [6]) (by kernel_rfl) (by simp) ?_
    refine AllReadyH.cons rfl (fun K hK => ?_) AllReadyH.nil
    simp only [AP]
    go_simp
    refine hK.out _ _ trivial (fun hHeld => ?_)
    clear hK K
    try simp only [Act.put, AP]
    refine wpAnyH_ready (rs := [7]) (by kernel_rfl) (by simp) ?_
    refine AllReadyH.cons rfl (fun K hK => ?_) AllReadyH.nil
    refine step_append_known rfl (.tmp 31) (.tmp 33) 67 67 rfl (.slice tg k tcap) (.slice (some ⟨W6.heap.size, 0, none⟩) 1 1) (by simp [Act.eval]) (by simp [Act.eval]) HR7.out ?_
    refine hK.out _ _ trivial (fun hHeld => ?_)
    clear hK K
    try simp only [Act.put, AP]
    refine tk 8 (v := ?_) rfl ?_ ?_
    rotate_left
    ·(intro w hSw; (try dsimp only at hSw); go_simp; try with_reducible rfl)
    simp only [Act.put, AP]
    refine tk 9 (v := ?_) rfl ?_ ?_
    rotate_left
    ·(intro w hSw; (try dsimp only at hSw); go_simp; try with_reducible rfl)
    simp only [Act.put, AP]
    refine wpAnyH_ready (rs := [10]) (by kernel_rfl) (by simp) ?_
    refine AllReadyH.cons rfl (fun K hK => ?_) AllReadyH.nil
    simp only [AP]
    go_simp
    refine hK.out _ _ trivial (fun hHeld => ?_)
    clear hK K
    try simp only [Act.put, AP]
    refine wpAnyH_done (by kernel_rfl) ?_ _
    go_wp2
    go_roundw
    case rel => exact ⟨k + 1, by omega, by go_num, _, HF.out⟩
    case measure => simp [intOf]; omega
   ·simp only [AP]
    go_simp
    refine hK.out _ _ trivial (fun hHeld => ?_)
    clear hK K
    try simp only [Act.put, AP]
    refine wpAnyH_ready (rs := [4, 6]) (by kernel_rfl) (by simp) ?_
    refine AllReadyH.cons rfl (fun K hK => ?_) (AllReadyH.cons rfl (fun K hK => ?_) AllReadyH.nil)
    ·simp only [AP]
     go_simp
     refine hK.out _ _ trivial (fun hHeld => ?_)
     clear hK K
     try simp only [Act.put, AP]
     refine wpAnyH_ready (rs := [6]) (by kernel_rfl) (by simp) ?_
     refine AllReadyH.cons rfl (fun K hK => ?_) AllReadyH.nil
     simp only [AP]
     go_simp
     refine hK.out _ _ trivial (fun hHeld => ?_)
     clear hK K
     try simp only [Act.put, AP]
     refine wpAnyH_ready (rs := [7]) (by kernel_rfl) (by simp) ?_
     refine AllReadyH.cons rfl (fun K hK => ?_) AllReadyH.nil
     refine step_append_known rfl (.tmp 31) (.tmp 33) 67 67 rfl (.slice tg k tcap) (.slice (some ⟨W6.heap.size, 0, none⟩) 1 1) (by simp [Act.eval]) (by simp [Act.eval]) HR7.out ?_
     refine hK.out _ _ trivial (fun hHeld => ?_)
     clear hK K
     try simp only [Act.put, AP]
     refine tk 8 (v := ?_) rfl ?_ ?_
     rotate_left
     ·(intro w hSw; (try dsimp only at hSw); go_simp; try with_reducible rfl)
     simp only [Act.put, AP]
     refine tk 9 (v := ?_) rfl ?_ ?_
     rotate_left
     ·(intro w hSw; (try dsimp only at hSw); go_simp; try with_reducible rfl)
     simp only [Act.put, AP]
     refine wpAnyH_ready (rs := [10]) (by kernel_rfl) (by simp) ?_
     refine AllReadyH.cons rfl (fun K hK => ?_) AllReadyH.nil
     simp only [AP]
     go_simp
     refine hK.out _ _ trivial (fun hHeld => ?_)
     clear hK K
     try simp only [Act.put, AP]
     refine wpAnyH_done (by kernel_rfl) ?_ _
     go_wp2
     go_roundw
     case rel => exact ⟨k + 1, by omega, by go_num, _, HF.out⟩
     case measure => simp [intOf]; omega
    ·simp only [AP]
     go_simp
     refine hK.out _ _ trivial (fun hHeld => ?_)
     clear hK K
     try simp only [Act.put, AP]
     refine wpAnyH_ready (rs := [4]) (by kernel_rfl) (by simp) ?_
     refine AllReadyH.cons rfl (fun K hK => ?_) AllReadyH.nil
     simp only [AP]
     go_simp
     refine hK.out _ _ trivial (fun hHeld => ?_)
     clear hK K
     try simp only [Act.put, AP]
     refine wpAnyH_ready (rs := [7]) (by kernel_rfl) (by simp) ?_
     refine AllReadyH.cons rfl (fun K hK => ?_) AllReadyH.nil
     refine step_append_known rfl (.tmp 31) (.tmp 33) 67 67 rfl (.slice tg k tcap) (.slice (some ⟨W6.heap.size, 0, none⟩) 1 1) (by simp [Act.eval]) (by simp [Act.eval]) HR7.out ?_
     refine hK.out _ _ trivial (fun hHeld => ?_)
     clear hK K
     try simp only [Act.put, AP]
     refine tk 8 (v := ?_) rfl ?_ ?_
     rotate_left
     ·(intro w hSw; (try dsimp only at hSw); go_simp; try with_reducible rfl)
     simp only [Act.put, AP]
     refine tk 9 (v := ?_) rfl ?_ ?_
     rotate_left
     ·(intro w hSw; (try dsimp only at hSw); go_simp; try with_reducible rfl)
     simp only [Act.put, AP]
     refine wpAnyH_ready (rs := [10]) (by kernel_rfl) (by simp) ?_
     refine AllReadyH.cons rfl (fun K hK => ?_) AllReadyH.nil
     simp only [AP]
     go_simp
     refine hK.out _ _ trivial (fun hHeld => ?_)
     clear hK K
     try simp only [Act.put, AP]
     refine wpAnyH_done (by kernel_rfl) ?_ _
     go_wp2
     go_roundw
     case rel => exact ⟨k + 1, by omega, by go_num, _, HF.out⟩
     case measure => simp [intOf]; omega
  ·have hkn : k = n := by omega
   subst hkn
   have HII := toHid hI
   clear hI HI
   go_wp2
   go_ret
   exact ⟨_, t, rfl, HII.out⟩
end Go.Proofs.YtmhhahmjkopjhaaGreat.Mem
end
section
namespace Go.Proofs.YtmhhahmjkopjhaaGreat.Mem
open Go.RowKit
theorem pair_map {α : Type} {R : α → α → Prop} {z : α} {l m : List α} (hl : m.length = l.length) (h : l.Pairwise R) (hc : ∀ i j, i < l.length → j < l.length → R (l.getD i z) (l.getD j z) → R (m.getD i z) (m.getD j z)) : m.Pairwise R := by
 rw [List.pairwise_iff_getElem] at h ⊢
 intro i j hi hj hij
 have h1 := h i j (by omega) (by omega) hij
 have h2 := hc i j (by omega) (by omega) (by
  rw [List.getD_eq_getElem?_getD, List.getD_eq_getElem?_getD, List.getElem?_eq_getElem (by omega), List.getElem?_eq_getElem (by omega)]
  exact h1)
 rw [List.getD_eq_getElem?_getD, List.getD_eq_getElem?_getD, List.getElem?_eq_getElem hi, List.getElem?_eq_getElem hj] at h2
 exact h2
theorem like_of {s : MS} {w w' : World} {C G : Nat} {rs : List Reg} (h : CopyAt w w' s C G s.rs.length rs) {r2 : Reg} (hr : r2 ∈ rs) : ∃ r ∈ s.rs, Like r r2 := by
 obtain ⟨i, hi, rfl⟩ := List.getElem_of_mem hr
 rw [h.len] at hi
 have h1 := h.like i hi
 rw [List.getD_eq_getElem?_getD (l := rs), List.getElem?_eq_getElem (by rw [h.len]; exact hi)] at h1
 exact ⟨_, getD_mem hi, h1⟩
theorem like_to {s : MS} {w w' : World} {C G : Nat} {rs : List Reg} (h : CopyAt w w' s C G s.rs.length rs) {r : Reg} (hr : r ∈ s.rs) : ∃ r2 ∈ rs, Like r r2 := by
 obtain ⟨i, hi, rfl⟩ := List.getElem_of_mem hr
 have h1 := h.like i hi
 have hi2 : i < rs.length := by rw [h.len]; exact hi
 refine ⟨rs[i], List.getElem_mem hi2, ?_⟩
 rw [List.getD_eq_getElem?_getD, List.getD_eq_getElem?_getD, List.getElem?_eq_getElem hi, List.getElem?_eq_getElem hi2] at h1
 exact h1
theorem CopyAt.mem {w w' : World} {s : MS} {C G : Nat} {rs : List Reg} (h : CopyAt w w' s C G s.rs.length rs) (hm : MemAt w s) (hCG : C ≠ G) : MemAt w' ⟨C, some G, s.rs.length, rs, s.next⟩ where
 self := by
  show Blk w' C [slV (some G) rs.length s.rs.length, .int .i64 s.next] 79
  rw [h.len]
  exact h.self
 row := by
  have hl : rs.length = s.rs.length := h.len
  have hb := h.row
  rw [Nat.sub_self] at hb
  refine ⟨by simp, by show rs.length ≤ s.rs.length; omega, ?_, [], by simpa using hb, by simp [hl]⟩
  have := hm.many
  show s.rs.length ≤ maxLen
  unfold maxLen
  omega
 regs := fun r hr => (h.regs r hr).1
 ok := fun r hr => (h.regs r hr).2.1
 apart := by
  simp only [MS.blocks, Option.toList, List.cons_append, List.nil_append, List.nodup_cons, List.mem_cons, List.mem_flatMap]
  refine ⟨?_, ?_, h.apart⟩
  ·rintro (h1 | ⟨r, hr, hx⟩)
   ·exact hCG h1
   ·exact ((h.regs r hr).2.2 C hx).2.1 rfl
  ·rintro ⟨r, hr, hx⟩
   exact ((h.regs r hr).2.2 G hx).2.2 rfl
 sorted := pair_map (z := Reg.zero) h.len hm.sorted (fun i j hi hj hR => by
  have h1 := h.like i hi
  have h2 := h.like j hj
  show (rs.getD i Reg.zero).base + ((rs.getD i Reg.zero).bytes.length : Int) ≤ (rs.getD j Reg.zero).base
  rw [h1.base, h1.bytes, h2.base]
  exact hR)
 ids := pair_map (z := Reg.zero) h.len hm.ids (fun i j hi hj hR => by
  have h1 := h.like i hi
  have h2 := h.like j hj
  show (rs.getD i Reg.zero).id ≠ (rs.getD j Reg.zero).id
  rw [h1.id, h2.id]
  exact hR)
 idlt := fun r hr => by
  obtain ⟨r1, h1, h2⟩ := like_of h hr
  have := hm.idlt r1 h1
  rw [h2.id]
  exact this
 many := by
  show rs.length ≤ 4096
  rw [h.len]
  exact hm.many
theorem Like.setOf {r r2 : Reg} (h : Like r r2) (_ok : RegOk r) (_ok2 : RegOk r2) : setOf r2 = setOf r := by
 unfold YtmhhahmjkopjhaaGreat.Mem.setOf
 cases h1 : r.sb with
 | none => rw [h.sb.2 h1]; simp only [h.bytes]
 | some s =>
  cases h2 : r2.sb with
  | none => rw [h.sb.1 h2] at h1; cases h1
  | some s2 => exact h.set
theorem Rel.copy {w w' w1 w2 : World} {s : MS} {t t2 : RS} {C G O : Nat} {rs : List Reg} (hr : Rel s.rs s.next t.all) (hm : MemAt w s) (h : CopyAt w w' s C G s.rs.length rs) (h2 : RCopyAt w1 w2 t t2 O t.all.length) : Rel rs s.next t2.all := by
 have twin : ∀ {r r2 : Reg} {x x2 : RReg}, r ∈ s.rs → r2 ∈ rs → Like r r2 → RLike x x2 → Twin r x → Twin r2 x2 := by
  intro r r2 x x2 hr1 hr2 hl hx ht
  exact ⟨hx.live.trans ht.live, by rw [hx.base, hl.base, ht.base], by rw [hx.perm, hl.perm, ht.perm], by rw [hx.bytes, hl.bytes, ht.bytes], by rw [hx.set, ht.set, hl.setOf (hm.ok r hr1) (h.regs r2 hr2).2.1]⟩
 refine ⟨hr.len.trans h2.len.symm, fun r2 hr2 => ?_, fun i x2 hx2 hlv => ?_⟩
 ·obtain ⟨r, hr1, hl⟩ := like_of h hr2
  obtain ⟨i, x, hx, hid, ht⟩ := hr.there r hr1
  have hi := (List.getElem?_eq_some_iff.1 hx).1
  have hi2 : i < t2.all.length := by rw [h2.len]; exact hi
  have hlk := h2.like i hi
  rw [List.getD_eq_getElem?_getD (l := t.all), hx] at hlk
  exact ⟨i, _, rgetD_of hi2, by rw [hl.id]; exact hid, twin hr1 hr2 hl hlk ht⟩
 ·have hi2 := (List.getElem?_eq_some_iff.1 hx2).1
  have hi : i < t.all.length := by rw [← h2.len]; exact hi2
  have hlk := h2.like i hi
  rw [List.getD_eq_getElem?_getD (l := t2.all), hx2] at hlk
  have hx := rgetD_of hi
  obtain ⟨r, hr1, hid, ht⟩ := hr.back i _ hx (by rw [← hlk.live]; exact hlv)
  obtain ⟨r2, hr2, hl⟩ := like_to h hr1
  exact ⟨r2, hr2, by rw [hl.id]; exact hid, twin hr1 hr2 hl hlk ht⟩
theorem pair_copy {w0 w w1 w2 : World} {s : MS} {t t2 : RS} {C G O : Nat} {rs : List Reg} (hP : Pair w0 w s t) (h : CopyAt w w1 s C G s.rs.length rs) (hCG : C ≠ G) (hC : w.heap.size ≤ C) (hG : w.heap.size ≤ G) (h2 : RCopyAt w1 w2 t t2 O t.all.length) :
  Pair w w2 ⟨C, some G, s.rs.length, rs, s.next⟩ t2 := by
 have hb : ∀ x ∈ (⟨C, some G, s.rs.length, rs, s.next⟩ : MS).blocks, w.heap.size ≤ x := fun x hx => by
  simp only [MS.blocks, Option.toList, List.cons_append, List.nil_append, List.mem_cons, List.mem_flatMap] at hx
  rcases hx with rfl | rfl | ⟨r, hr, hx⟩
  ·exact hC
  ·exact hG
  ·exact ((h.regs r hr).2.2 x hx).1
 have hM := h.mem hP.mem hCG
 refine ⟨hM.touch h2.touch (by simp), h2.ref, fun x hx hy => ?_, hb, fun x hx => Nat.le_trans h.touch.size (h2.own x hx), h.touch.trans h2.touch (by simp)⟩
 have := hM.lt x hx
 have := h2.own x hy
 omega
end Go.Proofs.YtmhhahmjkopjhaaGreat.Mem
end
section
namespace Go.Proofs.YtmhhahmjkopjhaaGreat
open Go.RowKit
theorem infoI64 : (Tryz.prog.info? 3).map (fun i => (i.zero, i.size, i.bytes)) = some (some (.int .i64 0), 1, 8) := by kernel_rfl
theorem blk_newI {w : World} {n : Nat} (hn : n = w.heap.size) : Blk (w.alloc (.cells #[] 3)) n [] 3 := hn ▸ Blk.newA w #[] [] 3 rfl
theorem ids_append {w : World} {b9 c9 : Nat} {ids : List Nat} (h : RowAt w 3 1 (some b9) ids.length c9 (ids.map idV)) (h1 : 1 ≤ ids.length) (h2 : ids.length ≤ 1000) {E : Nat} (hE : Blk w E [] 3) :
  ∃ g cap w', (Builtin.append_ #[112, 112] 112 #[.slice (some ⟨E, 0, none⟩) 0 0, (.slice (some ⟨b9, 0, none⟩) ids.length c9)]).run Tryz.prog w = .ok (.slice (some ⟨g, 0, none⟩) ids.length cap) w' ∧ RowAt w' 3 1 (some g) ids.length cap (ids.map idV) ∧ Touch [E] w w' ∧ (g = E ∨ w.heap.size ≤ g) := by
 obtain ⟨i, hi0, hz, hs, hb⟩ := info_of infoI64
 have hrow : RowAt w 3 1 (some E) 0 0 [] := ⟨rfl, Nat.le_refl _, by unfold maxLen; omega, [], by simpa using hE, by simp⟩
 obtain ⟨g', cap', w', hr, h2, h3, h4, _⟩ := run_append_row (P := Tryz.prog) w 112 112 3 i (.int .i64 0) 1 Tryz.underlying112 hi0 hz hs rfl (by omega) (some E) 0 0 [] hrow ⟨b9, 0, none⟩ ids.length c9 (ids.map idV) (by simp)
  (fun j v hj => by
   rw [Addr.add_lit, Nat.zero_add]
   obtain ⟨_, _, _, rest, hB, _⟩ := h
   exact hB.cell (by rw [List.getElem?_append_left (List.getElem?_eq_some_iff.1 hj).1]; exact hj))
  (fun u hu => by
   obtain ⟨x, _, rfl⟩ := List.mem_map.1 hu
   rfl) (by rw [hb]; omega) (by omega)
 simp only [Nat.zero_add, List.nil_append] at hr h2
 cases g' with
 | none =>
  have q1 := h2.2.1
  have q2 : cap' = 0 := h2.2.2.2
  omega
 | some g =>
  refine ⟨g, cap', w', hr, h2, by simpa using h3, ?_⟩
  rcases h4 with h4 | h4
  ·injection h4 with h4; exact Or.inl h4
  ·injection h4 with h4; exact Or.inr (by omega)
theorem RMapOk.ix {m : RMap} {ix : RX} {gi ci : Nat} (h : RMapOk m) (hp : ix.p = m.ix.p) : RMapOk { m with ix := ix, idb := some gi, idc := ci } := by
 have h1 : ix.kind = m.ix.kind := congrArg PX.kind hp
 have h2 : ix.size = m.ix.size := congrArg PX.size hp
 have h3 : ix.slots.length = m.ix.slots.length := by have := congrArg (fun p => p.slots.length) hp; simpa [RX.p] using this
 exact ⟨by rw [hp]; exact h.good, by rw [h1]; exact h.kind, by rw [h2]; exact h.key, h.v1, h.v2, by show m.ids.length = ix.slots.length; rw [h3]; exact h.idn⟩
structure TCopyAt (w w' : World) (x t : RT) (m2 k : Nat) : Prop where
 ref : RTAt w' t
 mem : t.mem = m2
 ps : t.ps = x.ps.take k
 keys : t.maps.map (fun m => (m.kind, m.key, m.val, m.max)) = (x.maps.take k).map (fun m => (m.kind, m.key, m.val, m.max))
 ids : t.maps.map RMap.ids = (x.maps.take k).map RMap.ids
 len : t.maps.length = k
 own : ∀ b ∈ t.blocks, w.heap.size ≤ b
 touch : Touch [] w w'
theorem CopyAt.px {w w' : World} {x t : RX} (h : CopyAt w w' x t x.slots.length x.slots.length) (hw : x.whens.length = x.slots.length) : t.p = x.p := by
 unfold RX.p
 rw [h.kind, h.size, h.max, h.clock, h.slots, h.whens, List.take_length, ← hw, List.take_length]
theorem TCopyAt.push {w w1 w' : World} {x t : RT} {m2 k : Nat} {m : RMap} {ix : RX} {gi ci : Nat} {g' : Option Nat} {cap' : Nat} (h : TCopyAt w w1 x t m2 k) (hm : x.maps[k]? = some m) (hp : ix.p = m.ix.p)
  (hR : RTAt w' (t.add g' cap' { m with ix := ix, idb := some gi, idc := ci })) (hT : Touch [] w w') (hb : ∀ b ∈ ix.blocks, w.heap.size ≤ b) (hgi : w.heap.size ≤ gi) (hg : ∀ b, g' = some b → t.g = some b ∨ w.heap.size ≤ b) :
  TCopyAt w w' x (t.add g' cap' { m with ix := ix, idb := some gi, idc := ci }) m2 (k + 1) := by
 have htk : x.maps.take (k + 1) = x.maps.take k ++ [m] := by rw [List.take_add_one, hm]; rfl
 refine ⟨hR, h.mem, ?_, ?_, ?_, ?_, fun b hx => ?_, hT⟩
 ·show (t.maps ++ [_]).map (fun m : RMap => m.ix.p) = (x.maps.map (fun m : RMap => m.ix.p)).take (k + 1)
  have h1 : t.maps.map (fun m : RMap => m.ix.p) = (x.maps.map (fun m : RMap => m.ix.p)).take k := h.ps
  rw [List.map_append, h1, ← List.map_take, ← List.map_take, htk, List.map_append]
  simp [hp]
 ·show (t.maps ++ [_]).map _ = _
  rw [List.map_append, h.keys, htk, List.map_append]
  rfl
 ·show (t.maps ++ [_]).map _ = _
  rw [List.map_append, h.ids, htk, List.map_append]
  rfl
 ·show (t.maps ++ [_]).length = _
  rw [List.length_append, h.len]
  rfl
 ·rcases List.mem_append.1 hx with hx | hx
  ·rcases List.mem_cons.1 (show b ∈ t.t :: g'.toList from hx) with hx | hx
   ·exact h.own b (by rw [hx]; exact RT.mem_top (by simp [RT.top]))
   ·rcases hg b (by simpa using hx) with hx | hx
    ·exact h.own b (RT.mem_top (RT.mem_g hx))
    ·exact hx
  ·rw [show (t.add g' cap' { m with ix := ix, idb := some gi, idc := ci }).maps = t.maps ++ [{ m with ix := ix, idb := some gi, idc := ci }] from rfl, List.flatMap_append, List.flatMap_singleton] at hx
   rcases List.mem_append.1 hx with hx | hx
   ·obtain ⟨m9, h9, hx⟩ := List.mem_flatMap.1 hx
    exact h.own b (RT.mem_map h9 hx)
   ·rcases List.mem_append.1 hx with hx | hx
    ·exact hb b hx
    ·have : b = gi := by simpa using hx
     omega
theorem rtcopy_any {w : World} {x : RT} (h : RTAt w x) (hc : ∀ m ∈ x.maps, m.ix.clock ≤ 1000000000) (m2 : Nat) :
  Calls Tryz.prog 20 #[.pointer (some ⟨x.t, 0, none⟩), .pointer (some ⟨m2, 0, none⟩)] w fun e w' => ∃ t, e = .returned (.pointer (some ⟨t.t, 0, none⟩)) ∧ TCopyAt w w' x t m2 x.maps.length := by
 have c1 := h.c1
 have hmany := h.many
 have HH := toHid (And.intro h hc)
 unfold slV at c1
 generalize hsg : (x.g.map fun b => (⟨b, 0, none⟩ : Addr)) = sg at *
 have HG := toHid hsg
 generalize hL : x.maps.length = L at *
 have HL := toHid hL
 clear h hc hsg hL
 have hB := Blk.newA w #[.pointer (some ⟨m2, 0, none⟩), .slice none 0 0] _ 100 rfl
 have HI0 : Hid (∃ t, t.t = w.heap.size ∧ TCopyAt w (w.alloc (.cells #[.pointer (some ⟨m2, 0, none⟩), .slice none 0 0] 100)) x t m2 0) := by
  refine ⟨⟨w.heap.size, m2, none, 0, []⟩, rfl, ⟨hB, ?_, ?_, ?_, ?_, ?_, ?_, by simp⟩, rfl, rfl, rfl, rfl, rfl, ?_, (Touch.refl _ w).alloc _⟩
  ·exact ⟨rfl, Nat.le_refl _, Nat.zero_le _, rfl⟩
  ·intro m hm; cases hm
  ·intro m hm; cases hm
  ·simp [RT.top]
  ·intro m hm; cases hm
  ·intro i j mi mj hi; simp at hi
  ·intro b hb; simp [RT.blocks, RT.top] at hb; omega
 replace c1 : ∀ o, (w.alloc o).cell? ⟨x.t, 1, none⟩ = some (.slice sg L x.cap) := fun o => ((Touch.refl [] w).alloc o).cell c1 (by simp)
 clear hB
 go_enter Tryz.func20, Tryz.ntmps20
 go_wp2_with fail
 clear c1
 generalize hT0 : w.heap.size = T at *
 have HT0 := toHid hT0
 clear hT0
 go_loopw [16] (fun t w' => ∃ k : Nat, k ≤ L ∧ t = .int .i64 k ∧ Hid (∃ t, t.t = T ∧ TCopyAt w w' x t m2 k)) (fun t _ => L - (intOf t).toNat)
 case atStart => exact ⟨0, by omega, rfl, HI0⟩
 case round =>
  obtain ⟨k, hk, rfl, HI⟩ := hrel
  clear HI0
  by_cases hlt : k < L
  ·obtain ⟨t, htT, hC⟩ := HI.out
   obtain ⟨hh, hc⟩ := HH.out
   have hR := hh.still hC.touch
   obtain ⟨m, hm⟩ : ∃ m, x.maps[k]? = some m := ⟨_, List.getElem?_eq_getElem (by rw [HL.out]; exact hlt)⟩
   have hmem := List.mem_of_getElem? hm
   obtain ⟨gb, hg, hcell⟩ := hR.at_ hm
   have hsg := HG.out
   rw [hg, Option.map_some] at hsg
   subst hsg
   have d0 := hcell 0 _ (by omega) rfl
   have d1 := hcell 1 _ (by omega) rfl
   have d2 := hcell 2 _ (by omega) rfl
   have d3 := hcell 3 _ (by omega) rfl
   have d4 := hcell 4 _ (by omega) rfl
   have d5 := hcell 5 _ (by omega) rfl
   rw [Nat.add_zero] at d0
   have o1 := hC.ref.c1
   rw [htT, hC.len] at o1
   unfold slV at o1
   generalize htg : (t.g.map fun b => (⟨b, 0, none⟩ : Addr)) = tg at *
   have HTG := toHid htg
   have HC := toHid (And.intro htT hC)
   have HM := toHid (And.intro hm hmem)
   have HNI : Hid (1 ≤ m.ids.length ∧ m.ids.length ≤ 1000) := by
    have h1 := (hh.ok m hmem).idn; have h2 := (hh.ok m hmem).good.m1; have h3 := (hh.ok m hmem).good.m2; have h4 : m.ix.p.slots.length = m.ix.slots.length := by simp [RX.p]
    exact ⟨by omega, by omega⟩
   have hids1 := (hR.maps m hmem).ids
   obtain ⟨ib, hib⟩ : ∃ ib, m.idb = some ib := by
    cases hq : m.idb with
    | none =>
     rw [hq] at hids1
     have q1 := hids1.2.1
     have q2 : m.idc = 0 := hids1.2.2.2
     have q3 := HNI.out.1
     omega
    | some ib => exact ⟨ib, rfl⟩
   rw [hib] at hids1 d5
   unfold slV at d5
   rw [Option.map_some] at d5
   have HOK := toHid (hh.ok m hmem)
   have HW : Hid (m.ix.whens.length = m.ix.slots.length) := by
    have h1 := (hh.ok m hmem).good.whens; have h4 : m.ix.p.slots.length = m.ix.slots.length := by simp [RX.p]
    rw [← h4]
    exact h1
   have hTV : Touch [] wr (wr.alloc (.cells #[.int .i64 m.kind, .int .i64 m.key, .int .i64 m.val, .int .i64 m.max, .pointer (some ⟨m.ix.r, 0, none⟩), .slice (some ⟨ib, 0, none⟩) m.ids.length m.idc] 117)) := (Touch.refl [] wr).alloc _
   have hVt : wr.heap.size ∉ t.top := fun hx => by have := hC.ref.lt _ (RT.mem_top hx); omega
   have hV9 := Blk.newA wr #[.int .i64 m.kind, .int .i64 m.key, .int .i64 m.val, .int .i64 m.max, .pointer (some ⟨m.ix.r, 0, none⟩), .slice (some ⟨ib, 0, none⟩) m.ids.length m.idc] _ 117 rfl
   have HIDS : Hid (∀ u, Touch [] (wr.alloc (.cells #[.int .i64 m.kind, .int .i64 m.key, .int .i64 m.val, .int .i64 m.max, .pointer (some ⟨m.ix.r, 0, none⟩), .slice (some ⟨ib, 0, none⟩) m.ids.length m.idc] 117)) u → RowAt u 3 1 (some ib) m.ids.length m.idc (m.ids.map idV)) := fun u hu => (hids1.touch hTV (by simp)).touch hu (by simp)
   have HT : Hid (∀ u, Touch [] (wr.alloc (.cells #[.int .i64 m.kind, .int .i64 m.key, .int .i64 m.val, .int .i64 m.max, .pointer (some ⟨m.ix.r, 0, none⟩), .slice (some ⟨ib, 0, none⟩) m.ids.length m.idc] 117)) u → u.cell? ⟨T, 1, none⟩ = some (.slice tg k t.cap)) := fun u hu => hu.cell (hTV.cell o1 (by simp)) (by simp)
   have HV : Hid (∀ u, Touch t.top (wr.alloc (.cells #[.int .i64 m.kind, .int .i64 m.key, .int .i64 m.val, .int .i64 m.max, .pointer (some ⟨m.ix.r, 0, none⟩), .slice (some ⟨ib, 0, none⟩) m.ids.length m.idc] 117)) u → (fun w' => w'.cell? ⟨wr.heap.size, 0, none⟩ = some (.int .i64 m.kind) ∧ w'.cell? ⟨wr.heap.size, 1, none⟩ = some (.int .i64 m.key) ∧ w'.cell? ⟨wr.heap.size, 2, none⟩ = some (.int .i64 m.val) ∧ w'.cell? ⟨wr.heap.size, 3, none⟩ = some (.int .i64 m.max) ∧ w'.cell? ⟨wr.heap.size, 4, none⟩ = some (.pointer (some ⟨m.ix.r, 0, none⟩)) ∧ w'.cell? ⟨wr.heap.size, 5, none⟩ = some (.slice (some ⟨ib, 0, none⟩) m.ids.length m.idc)) u) := fun u hu => ⟨hu.cell (hV9.cell rfl) hVt, hu.cell (hV9.cell rfl) hVt, hu.cell (hV9.cell rfl) hVt, hu.cell (hV9.cell rfl) hVt, hu.cell (hV9.cell rfl) hVt, hu.cell (hV9.cell rfl) hVt⟩
   have H9 : Hid (∀ u, Touch [] (wr.alloc (.cells #[.int .i64 m.kind, .int .i64 m.key, .int .i64 m.val, .int .i64 m.max, .pointer (some ⟨m.ix.r, 0, none⟩), .slice (some ⟨ib, 0, none⟩) m.ids.length m.idc] 117)) u → Calls Tryz.prog 44 #[.pointer (some ⟨m.ix.r, 0, none⟩)] u fun e w' => ∃ ix, e = .returned (.pointer (some ⟨ix.r, 0, none⟩)) ∧ CopyAt u w' m.ix ix m.ix.slots.length m.ix.slots.length) := fun u hu => rcopy_any ((hR.maps m hmem).ix.touch (hTV.trans hu (by simp)) (by simp)) ((hh.ok m hmem).good.up (hc m hmem))
   have HTW := toHid hTV
   clear htT hC hh hc hR hm hmem hg hcell HI hids1 hib htg hTV hVt hV9
   go_upto_region 5 with fail
   clear d0 d1 d2 d3 d4 d5 o1
   generalize hV : wr.heap.size = V at *
   have HVz := toHid hV
   generalize hwv : wr.alloc (.cells #[.int .i64 m.kind, .int .i64 m.key, .int .i64 m.val, .int .i64 m.max, .pointer (some ⟨m.ix.r, 0, none⟩), .slice (some ⟨ib, 0, none⟩) m.ids.length m.idc] 117) = wv at *
   clear hwv hV
   refine wp_region_held_drew (S := fun w' => w'.cell? ⟨V, 0, none⟩ = some (.int .i64 m.kind) ∧ w'.cell? ⟨V, 1, none⟩ = some (.int .i64 m.key) ∧ w'.cell? ⟨V, 2, none⟩ = some (.int .i64 m.val) ∧ w'.cell? ⟨V, 3, none⟩ = some (.int .i64 m.max) ∧ w'.cell? ⟨V, 4, none⟩ = some (.pointer (some ⟨m.ix.r, 0, none⟩)) ∧ w'.cell? ⟨V, 5, none⟩ = some (.slice (some ⟨ib, 0, none⟩) m.ids.length m.idc)) (by kernel_rfl) ?_ (fun hHeld => ?_)
   ·exact HV.out _ (Touch.refl t.top wv).drew
   refine tk 0 (v := ?_) rfl ?_ ?_
   rotate_left
   ·(intro w hSw; (try dsimp only at hSw); go_simp; try with_reducible rfl)
   simp only [Act.put, AP]
   refine tk 1 (v := ?_) rfl ?_ ?_
   rotate_left
   ·(intro w hSw; (try dsimp only at hSw); go_simp; try with_reducible rfl)
   simp only [Act.put, AP]
   refine tk 2 (v := ?_) rfl ?_ ?_
   rotate_left
   ·(intro w hSw; (try dsimp only at hSw); go_simp; try with_reducible rfl)
   simp only [Act.put, AP]
   refine tk 3 (v := ?_) rfl ?_ ?_
   rotate_left
   ·(intro w hSw; (try dsimp only at hSw); go_simp; try with_reducible rfl)
   simp only [Act.put, AP]
   refine tk 5 (v := ?_) rfl ?_ ?_
   rotate_left
   ·(intro w hSw; (try dsimp only at hSw); go_simp; try with_reducible rfl)
   simp only [Act.put, AP]
   refine tk 6 (v := ?_) rfl ?_ ?_
   rotate_left
   ·(intro w hSw; (try dsimp only at hSw); go_simp; try with_reducible rfl)
   simp only [Act.put, AP]
   refine tk 7 (v := ?_) rfl ?_ ?_
   rotate_left
   ·(intro w hSw; (try dsimp only at hSw); go_simp; try with_reducible rfl)
   simp only [Act.put, AP]
   refine tk 8 (v := ?_) rfl ?_ ?_
   rotate_left
   ·(intro w hSw; (try dsimp only at hSw); go_simp; try with_reducible rfl)
   simp only [Act.put, AP]
   refine tk 11 (v := ?_) rfl ?_ ?_
   rotate_left
   ·(intro w hSw; (try dsimp only at hSw); go_simp; try with_reducible rfl)
   simp only [Act.put, AP]
   refine tk 12 (v := ?_) rfl ?_ ?_
   rotate_left
   ·(intro w hSw; (try dsimp only at hSw); go_simp; try with_reducible rfl)
   simp only [Act.put, AP]
   refine wpAnyH_ready (rs := [4, 9, 10]) (by kernel_rfl) (by simp) ?_
   refine (AllReadyH.cons rfl (fun K hK => ?_) (AllReadyH.cons rfl (fun K hK => ?_) (AllReadyH.cons rfl (fun K hK => ?_) AllReadyH.nil)))
   ·have hq := HT.out (wv.drew) ((Touch.refl [] wv).drew)
    simp only [AP]
    go_simp
    refine hK.out _ _ ?_ (fun hHeld => ?_)
    ·exact HV.out _ (((Touch.refl [] wv).drew).mono (fun b hb => by cases hb))
    clear hK K
    try simp only [Act.put, AP]
    clear hq
    refine wpAnyH_ready (rs := [9, 10]) (by kernel_rfl) (by simp) ?_
    refine (AllReadyH.cons rfl (fun K hK => ?_) (AllReadyH.cons rfl (fun K hK => ?_) AllReadyH.nil))
    ·simp only [AP]
     go_simp
     refine Calls.mono (H9.out _ ((Touch.refl [] wv).drew)) ?_; rintro e w1 ⟨ix, rfl, hC9⟩
     have T1 : Touch [] wv w1 := ((Touch.refl [] wv).drew).trans hC9.touch (by simp)
     have HC9 := toHid (And.intro (hC9.px HW.out) (And.intro hC9.ref (And.intro hC9.own T1)))
     have HOV : Hid (∀ b ∈ ix.blocks, wv.heap.size ≤ b) := fun b hb => by have h9 : (wv.drew).heap.size ≤ b := hC9.own b hb; have h8 := ((Touch.refl [] wv).drew).size; omega
     clear hC9 T1
     go_wp2_with fail
     refine hK.out _ _ ?_ (fun hHeld => ?_)
     ·exact HV.out _ ((HC9.out.2.2.2).mono (fun b hb => by cases hb))
     clear hK K
     try simp only [Act.put, AP]
     refine wpAnyH_ready (rs := [10]) (by kernel_rfl) (by simp) ?_
     refine (AllReadyH.cons rfl (fun K hK => ?_) AllReadyH.nil)
     simp only [AP]
     go_simp
     have TA : Touch [] wv ((w1).alloc (.cells #[] 3)) := (HC9.out.2.2.2).alloc _
     have HE0 := toHid (blk_newI (w := w1) rfl)
     have hEB : wv.heap.size ≤ (w1).heap.size := (HC9.out.2.2.2).size
     have HTA := toHid TA
     have HEs := toHid hEB
     clear TA hEB
     refine hK.out _ _ ?_ (fun hHeld => ?_)
     ·exact HV.out _ ((HTA.out).mono (fun b hb => by cases hb))
     clear hK K
     try simp only [Act.put, AP]
     refine wpAnyH_ready (rs := [13]) (by kernel_rfl) (by simp) ?_
     refine (AllReadyH.cons rfl (fun K hK => ?_) AllReadyH.nil)
     obtain ⟨hpx, hixr, hixo, T1⟩ := HC9.out
     have hTcur : Touch [] wv (((w1).alloc (.cells #[] 3))) := HTA.out
     have hTc : Touch [] w1 (((w1).alloc (.cells #[] 3))) := (Touch.refl [] w1).alloc _
     have hEb : Blk (((w1).alloc (.cells #[] 3))) (w1.heap.size) [] 3 := blk_newI rfl
     have hEE : wv.heap.size ≤ w1.heap.size := T1.size
     have hixE : ∀ b ∈ ix.blocks, b ≠ w1.heap.size := fun b hb e => by have h9 := hixr.lt b hb; omega
     obtain ⟨g2, cap2, w2, hr2, hrow2, ht2, hg2⟩ := ids_append (c9 := m.idc) (HIDS.out _ hTcur) HNI.out.1 HNI.out.2 hEb
     have T2 : Touch [] wv w2 := hTcur.trans ht2 (fun y hy => Or.inr (by simp at hy; omega))
     have hcz := hTcur.size
     have hcz1 := hTc.size
     have hg2v : wv.heap.size ≤ g2 := by rcases hg2 with h9 | h9 <;> omega
     have hg2x : g2 ∉ ix.blocks := fun hx => by
      rcases hg2 with h9 | h9
      ·exact hixE g2 hx h9
      ·have h8 := hixr.lt g2 hx; omega
     have hixv : ∀ b ∈ ix.blocks, wv.heap.size ≤ b := HOV.out
     have hRM : RMapAt w2 { m with ix := ix, idb := some g2, idc := cap2 } := ⟨(hixr.touch hTc (by simp)).touch ht2 (fun b hb hx => hixE b hb (by simpa using hx)), hrow2, fun b hb hx => by injection hb with hb; subst hb; exact hg2x hx⟩
     have hOK : RMapOk { m with ix := ix, idb := some g2, idc := cap2 } := RMapOk.ix HOK.out hpx
     obtain ⟨htT, hC⟩ := HC.out
     have htl := hC.len
     have T2r : Touch [] wr w2 := HTW.out.trans T2 (by simp)
     have htlt := hC.ref.lt
     have hwz := HTW.out.size
     obtain ⟨g3, cap3, w3, hr3, e1, e2, hRT, hTa, hTb, hg3⟩ := (hC.ref.still T2r).push hRM hOK (fun b hb hx => by
      have h9 := htlt b hx
      rcases List.mem_append.1 hb with hb | hb
      ·have h8 := hixv b hb; omega
      ·have h8 : b = g2 := by simpa using hb
       omega) (by rw [htl]; omega)
     have hww := hC.touch.size
     have T2s := T2r.size
     have hTw : Touch [] w (w3.setCell ⟨t.t, 1, none⟩ (slV g3 (t.maps.length + 1) cap3)) := (hC.touch.trans T2r (by simp)).trans hTb (fun b hb => Or.inr (hC.own b (RT.mem_top hb)))
     have hF := hC.push HM.out.1 hpx hRT hTw (fun b hb => by have h9 := hixv b hb; omega) (by omega) (fun b hb => by rcases hg3 b hb with h9 | h9; exact Or.inl h9; exact Or.inr (by omega))
     have HF : Hid (∃ t', t'.t = T ∧ TCopyAt w (w3.setCell ⟨t.t, 1, none⟩ (slV g3 (t.maps.length + 1) cap3)) x t' m2 (k + 1)) := ⟨t.add g3 cap3 _, htT, hF⟩
     have HTa : Hid (Touch t.top wv w3) := (T2.mono (fun b hb => by cases hb)).trans hTa (fun b hb => Or.inl hb)
     have HTb : Hid (Touch t.top wv (w3.setCell ⟨t.t, 1, none⟩ (slV g3 (t.maps.length + 1) cap3))) := (T2.mono (fun b hb => by cases hb)).trans hTb (fun b hb => Or.inl hb)
     have HT2 := toHid T2
     dsimp only at hr3
     rw [htl] at hr3 HF HTb e1
     rw [htT] at HF HTb e1 e2
     unfold slV at hr3 e1 HF HTb
     rw [Option.map_some] at hr3
     rw [HTG.out] at hr3 e1
     generalize (g3.map fun b => (⟨b, 0, none⟩ : Addr)) = tg3 at hr3 HF HTb
     have HR2 := toHid hr2
     have HR3 := toHid hr3
     have HE := toHid (And.intro e1 e2)
     clear hpx hixr hixo T1 hTcur hTc hEb hEE hixE hr2 hrow2 ht2 hg2 T2 hcz hcz1 hg2v hg2x hixv hRM hOK htT hC htl T2r htlt hwz hr3 e1 e2 hRT hTa hTb hg3 hww T2s hTw hF
     refine step_append_known rfl (.tmp 30) (.tmp 32) 112 112 rfl (.slice (some ⟨w1.heap.size, 0, none⟩) 0 0) (.slice (some ⟨ib, 0, none⟩) m.ids.length m.idc) (by simp [Act.eval]) (by simp [Act.eval]) HR2.out ?_
     refine hK.out _ _ ?_ (fun hHeld => ?_)
     ·exact HV.out _ ((HT2.out).mono (fun b hb => by cases hb))
     clear hK K
     try simp only [Act.put, AP]
     refine tk 14 (v := ?_) rfl ?_ ?_
     rotate_left
     ·(intro w hSw; (try dsimp only at hSw); go_simp; try with_reducible rfl)
     simp only [Act.put, AP]
     refine wpAnyH_ready (rs := [15]) (by kernel_rfl) (by simp) ?_
     refine (AllReadyH.cons rfl (fun K hK => ?_) AllReadyH.nil)
     simp only [AP]
     go_simp
     refine hK.out _ _ ?_ (fun hHeld => ?_)
     ·exact HV.out _ ((HT2.out.alloc _).mono (fun b hb => by cases hb))
     clear hK K
     try simp only [Act.put, AP]
     refine wpAnyH_ready (rs := [16]) (by kernel_rfl) (by simp) ?_
     refine (AllReadyH.cons rfl (fun K hK => ?_) AllReadyH.nil)
     refine step_append_known rfl (.tmp 24) (.tmp 35) 98 98 rfl (.slice tg k t.cap) (.slice (some ⟨w2.heap.size, 0, none⟩) 1 1) (by simp [Act.eval]) (by simp [Act.eval]) HR3.out ?_
     refine hK.out _ _ ?_ (fun hHeld => ?_)
     ·exact HV.out _ HTa.out
     clear hK K
     try simp only [Act.put, AP]
     refine tk 17 (v := ?_) rfl ?_ ?_
     rotate_left
     ·(intro w hSw; (try dsimp only at hSw); go_simp; try with_reducible rfl)
     simp only [Act.put, AP]
     refine tk 18 (v := ?_) rfl ?_ ?_
     rotate_left
     ·(intro w hSw; (try dsimp only at hSw); go_simp; try with_reducible rfl)
     simp only [Act.put, AP]
     obtain ⟨e1, e2⟩ := HE.out
     refine wpAnyH_ready (rs := [19]) (by kernel_rfl) (by simp) ?_
     refine (AllReadyH.cons rfl (fun K hK => ?_) AllReadyH.nil)
     simp only [AP]
     go_simp
     refine hK.out _ _ ?_ (fun hHeld => ?_)
     ·exact HV.out _ HTb.out
     clear hK K
     try simp only [Act.put, AP]
     refine wpAnyH_done (by kernel_rfl) ?_ _
     clear e1 e2
     go_wp2
     exact ⟨⟨k + 1, by omega, by go_num, HF.out⟩, by simp [intOf]; omega⟩
    ·simp only [AP]
     go_simp
     have TA : Touch [] wv ((wv.alloc (.cells #[] 3)).drew) := ((Touch.refl [] wv).alloc _).drew
     have HE0 := toHid ((blk_newI (w := wv) rfl).drew)
     have hEB : wv.heap.size ≤ (wv.drew).heap.size := ((Touch.refl [] wv).drew).size
     have HTA := toHid TA
     have HEs := toHid hEB
     clear TA hEB
     refine hK.out _ _ ?_ (fun hHeld => ?_)
     ·exact HV.out _ ((HTA.out).mono (fun b hb => by cases hb))
     clear hK K
     try simp only [Act.put, AP]
     refine wpAnyH_ready (rs := [9]) (by kernel_rfl) (by simp) ?_
     refine (AllReadyH.cons rfl (fun K hK => ?_) AllReadyH.nil)
     simp only [AP]
     go_simp
     refine Calls.mono (H9.out _ (HTA.out)) ?_; rintro e w1 ⟨ix, rfl, hC9⟩
     have T1 : Touch [] wv w1 := (HTA.out).trans hC9.touch (by simp)
     have HC9 := toHid (And.intro (hC9.px HW.out) (And.intro hC9.ref (And.intro hC9.own T1)))
     have HOV : Hid (∀ b ∈ ix.blocks, wv.heap.size ≤ b) := fun b hb => by have h9 : (((wv.alloc (.cells #[] 3)).drew)).heap.size ≤ b := hC9.own b hb; have h8 := (HTA.out).size; omega
     have HE1 := toHid (hC9.touch.blk HE0.out (by simp))
     have HEx : Hid (∀ b ∈ ix.blocks, b ≠ wv.heap.size) := fun b hb e => by have h9 : (wv.alloc (.cells #[] 3)).heap.size ≤ b := hC9.own b hb; rw [World.size_alloc] at h9; omega
     clear hC9 T1
     go_wp2_with fail
     refine hK.out _ _ ?_ (fun hHeld => ?_)
     ·exact HV.out _ ((HC9.out.2.2.2).mono (fun b hb => by cases hb))
     clear hK K
     try simp only [Act.put, AP]
     refine wpAnyH_ready (rs := [13]) (by kernel_rfl) (by simp) ?_
     refine (AllReadyH.cons rfl (fun K hK => ?_) AllReadyH.nil)
     obtain ⟨hpx, hixr, hixo, T1⟩ := HC9.out
     have hTcur : Touch [] wv (w1) := HC9.out.2.2.2
     have hTc : Touch [] w1 (w1) := Touch.refl [] w1
     have hEb : Blk (w1) (wv.heap.size) [] 3 := HE1.out
     have hEE : wv.heap.size ≤ wv.heap.size := Nat.le_refl _
     have hixE : ∀ b ∈ ix.blocks, b ≠ wv.heap.size := HEx.out
     obtain ⟨g2, cap2, w2, hr2, hrow2, ht2, hg2⟩ := ids_append (c9 := m.idc) (HIDS.out _ hTcur) HNI.out.1 HNI.out.2 hEb
     have T2 : Touch [] wv w2 := hTcur.trans ht2 (fun y hy => Or.inr (by simp at hy; omega))
     have hcz := hTcur.size
     have hcz1 := hTc.size
     have hg2v : wv.heap.size ≤ g2 := by rcases hg2 with h9 | h9 <;> omega
     have hg2x : g2 ∉ ix.blocks := fun hx => by
      rcases hg2 with h9 | h9
      ·exact hixE g2 hx h9
      ·have h8 := hixr.lt g2 hx; omega
     have hixv : ∀ b ∈ ix.blocks, wv.heap.size ≤ b := HOV.out
     have hRM : RMapAt w2 { m with ix := ix, idb := some g2, idc := cap2 } := ⟨(hixr.touch hTc (by simp)).touch ht2 (fun b hb hx => hixE b hb (by simpa using hx)), hrow2, fun b hb hx => by injection hb with hb; subst hb; exact hg2x hx⟩
     have hOK : RMapOk { m with ix := ix, idb := some g2, idc := cap2 } := RMapOk.ix HOK.out hpx
     obtain ⟨htT, hC⟩ := HC.out
     have htl := hC.len
     have T2r : Touch [] wr w2 := HTW.out.trans T2 (by simp)
     have htlt := hC.ref.lt
     have hwz := HTW.out.size
     obtain ⟨g3, cap3, w3, hr3, e1, e2, hRT, hTa, hTb, hg3⟩ := (hC.ref.still T2r).push hRM hOK (fun b hb hx => by
      have h9 := htlt b hx
      rcases List.mem_append.1 hb with hb | hb
      ·have h8 := hixv b hb; omega
      ·have h8 : b = g2 := by simpa using hb
       omega) (by rw [htl]; omega)
     have hww := hC.touch.size
     have T2s := T2r.size
     have hTw : Touch [] w (w3.setCell ⟨t.t, 1, none⟩ (slV g3 (t.maps.length + 1) cap3)) := (hC.touch.trans T2r (by simp)).trans hTb (fun b hb => Or.inr (hC.own b (RT.mem_top hb)))
     have hF := hC.push HM.out.1 hpx hRT hTw (fun b hb => by have h9 := hixv b hb; omega) (by omega) (fun b hb => by rcases hg3 b hb with h9 | h9; exact Or.inl h9; exact Or.inr (by omega))
     have HF : Hid (∃ t', t'.t = T ∧ TCopyAt w (w3.setCell ⟨t.t, 1, none⟩ (slV g3 (t.maps.length + 1) cap3)) x t' m2 (k + 1)) := ⟨t.add g3 cap3 _, htT, hF⟩
     have HTa : Hid (Touch t.top wv w3) := (T2.mono (fun b hb => by cases hb)).trans hTa (fun b hb => Or.inl hb)
     have HTb : Hid (Touch t.top wv (w3.setCell ⟨t.t, 1, none⟩ (slV g3 (t.maps.length + 1) cap3))) := (T2.mono (fun b hb => by cases hb)).trans hTb (fun b hb => Or.inl hb)
     have HT2 := toHid T2
     dsimp only at hr3
     rw [htl] at hr3 HF HTb e1
     rw [htT] at HF HTb e1 e2
     unfold slV at hr3 e1 HF HTb
     rw [Option.map_some] at hr3
     rw [HTG.out] at hr3 e1
     generalize (g3.map fun b => (⟨b, 0, none⟩ : Addr)) = tg3 at hr3 HF HTb
     have HR2 := toHid hr2
     have HR3 := toHid hr3
     have HE := toHid (And.intro e1 e2)
     clear hpx hixr hixo T1 hTcur hTc hEb hEE hixE hr2 hrow2 ht2 hg2 T2 hcz hcz1 hg2v hg2x hixv hRM hOK htT hC htl T2r htlt hwz hr3 e1 e2 hRT hTa hTb hg3 hww T2s hTw hF
     refine step_append_known rfl (.tmp 30) (.tmp 32) 112 112 rfl (.slice (some ⟨wv.heap.size, 0, none⟩) 0 0) (.slice (some ⟨ib, 0, none⟩) m.ids.length m.idc) (by simp [Act.eval]) (by simp [Act.eval]) HR2.out ?_
     refine hK.out _ _ ?_ (fun hHeld => ?_)
     ·exact HV.out _ ((HT2.out).mono (fun b hb => by cases hb))
     clear hK K
     try simp only [Act.put, AP]
     refine tk 14 (v := ?_) rfl ?_ ?_
     rotate_left
     ·(intro w hSw; (try dsimp only at hSw); go_simp; try with_reducible rfl)
     simp only [Act.put, AP]
     refine wpAnyH_ready (rs := [15]) (by kernel_rfl) (by simp) ?_
     refine (AllReadyH.cons rfl (fun K hK => ?_) AllReadyH.nil)
     simp only [AP]
     go_simp
     refine hK.out _ _ ?_ (fun hHeld => ?_)
     ·exact HV.out _ ((HT2.out.alloc _).mono (fun b hb => by cases hb))
     clear hK K
     try simp only [Act.put, AP]
     refine wpAnyH_ready (rs := [16]) (by kernel_rfl) (by simp) ?_
     refine (AllReadyH.cons rfl (fun K hK => ?_) AllReadyH.nil)
     refine step_append_known rfl (.tmp 24) (.tmp 35) 98 98 rfl (.slice tg k t.cap) (.slice (some ⟨w2.heap.size, 0, none⟩) 1 1) (by simp [Act.eval]) (by simp [Act.eval]) HR3.out ?_
     refine hK.out _ _ ?_ (fun hHeld => ?_)
     ·exact HV.out _ HTa.out
     clear hK K
     try simp only [Act.put, AP]
     refine tk 17 (v := ?_) rfl ?_ ?_
     rotate_left
     ·(intro w hSw; (try dsimp only at hSw); go_simp; try with_reducible rfl)
     simp only [Act.put, AP]
     refine tk 18 (v := ?_) rfl ?_ ?_
     rotate_left
     ·(intro w hSw; (try dsimp only at hSw); go_simp; try with_reducible rfl)
     simp only [Act.put, AP]
     obtain ⟨e1, e2⟩ := HE.out
     refine wpAnyH_ready (rs := [19]) (by kernel_rfl) (by simp) ?_
     refine (AllReadyH.cons rfl (fun K hK => ?_) AllReadyH.nil)
     simp only [AP]
     go_simp
     refine hK.out _ _ ?_ (fun hHeld => ?_)
     ·exact HV.out _ HTb.out
     clear hK K
     try simp only [Act.put, AP]
     refine wpAnyH_done (by kernel_rfl) ?_ _
     clear e1 e2
     go_wp2
     exact ⟨⟨k + 1, by omega, by go_num, HF.out⟩, by simp [intOf]; omega⟩
   ·simp only [AP]
    go_simp
    refine Calls.mono (H9.out _ ((Touch.refl [] wv).drew)) ?_; rintro e w1 ⟨ix, rfl, hC9⟩
    have T1 : Touch [] wv w1 := ((Touch.refl [] wv).drew).trans hC9.touch (by simp)
    have HC9 := toHid (And.intro (hC9.px HW.out) (And.intro hC9.ref (And.intro hC9.own T1)))
    have HOV : Hid (∀ b ∈ ix.blocks, wv.heap.size ≤ b) := fun b hb => by have h9 : (wv.drew).heap.size ≤ b := hC9.own b hb; have h8 := ((Touch.refl [] wv).drew).size; omega
    clear hC9 T1
    go_wp2_with fail
    refine hK.out _ _ ?_ (fun hHeld => ?_)
    ·exact HV.out _ ((HC9.out.2.2.2).mono (fun b hb => by cases hb))
    clear hK K
    try simp only [Act.put, AP]
    refine wpAnyH_ready (rs := [4, 10]) (by kernel_rfl) (by simp) ?_
    refine (AllReadyH.cons rfl (fun K hK => ?_) (AllReadyH.cons rfl (fun K hK => ?_) AllReadyH.nil))
    ·have hq := HT.out (w1) (HC9.out.2.2.2)
     simp only [AP]
     go_simp
     refine hK.out _ _ ?_ (fun hHeld => ?_)
     ·exact HV.out _ ((HC9.out.2.2.2).mono (fun b hb => by cases hb))
     clear hK K
     try simp only [Act.put, AP]
     clear hq
     refine wpAnyH_ready (rs := [10]) (by kernel_rfl) (by simp) ?_
     refine (AllReadyH.cons rfl (fun K hK => ?_) AllReadyH.nil)
     simp only [AP]
     go_simp
     have TA : Touch [] wv ((w1).alloc (.cells #[] 3)) := (HC9.out.2.2.2).alloc _
     have HE0 := toHid (blk_newI (w := w1) rfl)
     have hEB : wv.heap.size ≤ (w1).heap.size := (HC9.out.2.2.2).size
     have HTA := toHid TA
     have HEs := toHid hEB
     clear TA hEB
     refine hK.out _ _ ?_ (fun hHeld => ?_)
     ·exact HV.out _ ((HTA.out).mono (fun b hb => by cases hb))
     clear hK K
     try simp only [Act.put, AP]
     refine wpAnyH_ready (rs := [13]) (by kernel_rfl) (by simp) ?_
     refine (AllReadyH.cons rfl (fun K hK => ?_) AllReadyH.nil)
     obtain ⟨hpx, hixr, hixo, T1⟩ := HC9.out
     have hTcur : Touch [] wv (((w1).alloc (.cells #[] 3))) := HTA.out
     have hTc : Touch [] w1 (((w1).alloc (.cells #[] 3))) := (Touch.refl [] w1).alloc _
     have hEb : Blk (((w1).alloc (.cells #[] 3))) (w1.heap.size) [] 3 := blk_newI rfl
     have hEE : wv.heap.size ≤ w1.heap.size := T1.size
     have hixE : ∀ b ∈ ix.blocks, b ≠ w1.heap.size := fun b hb e => by have h9 := hixr.lt b hb; omega
     obtain ⟨g2, cap2, w2, hr2, hrow2, ht2, hg2⟩ := ids_append (c9 := m.idc) (HIDS.out _ hTcur) HNI.out.1 HNI.out.2 hEb
     have T2 : Touch [] wv w2 := hTcur.trans ht2 (fun y hy => Or.inr (by simp at hy; omega))
     have hcz := hTcur.size
     have hcz1 := hTc.size
     have hg2v : wv.heap.size ≤ g2 := by rcases hg2 with h9 | h9 <;> omega
     have hg2x : g2 ∉ ix.blocks := fun hx => by
      rcases hg2 with h9 | h9
      ·exact hixE g2 hx h9
      ·have h8 := hixr.lt g2 hx; omega
     have hixv : ∀ b ∈ ix.blocks, wv.heap.size ≤ b := HOV.out
     have hRM : RMapAt w2 { m with ix := ix, idb := some g2, idc := cap2 } := ⟨(hixr.touch hTc (by simp)).touch ht2 (fun b hb hx => hixE b hb (by simpa using hx)), hrow2, fun b hb hx => by injection hb with hb; subst hb; exact hg2x hx⟩
     have hOK : RMapOk { m with ix := ix, idb := some g2, idc := cap2 } := RMapOk.ix HOK.out hpx
     obtain ⟨htT, hC⟩ := HC.out
     have htl := hC.len
     have T2r : Touch [] wr w2 := HTW.out.trans T2 (by simp)
     have htlt := hC.ref.lt
     have hwz := HTW.out.size
     obtain ⟨g3, cap3, w3, hr3, e1, e2, hRT, hTa, hTb, hg3⟩ := (hC.ref.still T2r).push hRM hOK (fun b hb hx => by
      have h9 := htlt b hx
      rcases List.mem_append.1 hb with hb | hb
      ·have h8 := hixv b hb; omega
      ·have h8 : b = g2 := by simpa using hb
       omega) (by rw [htl]; omega)
     have hww := hC.touch.size
     have T2s := T2r.size
     have hTw : Touch [] w (w3.setCell ⟨t.t, 1, none⟩ (slV g3 (t.maps.length + 1) cap3)) := (hC.touch.trans T2r (by simp)).trans hTb (fun b hb => Or.inr (hC.own b (RT.mem_top hb)))
     have hF := hC.push HM.out.1 hpx hRT hTw (fun b hb => by have h9 := hixv b hb; omega) (by omega) (fun b hb => by rcases hg3 b hb with h9 | h9; exact Or.inl h9; exact Or.inr (by omega))
     have HF : Hid (∃ t', t'.t = T ∧ TCopyAt w (w3.setCell ⟨t.t, 1, none⟩ (slV g3 (t.maps.length + 1) cap3)) x t' m2 (k + 1)) := ⟨t.add g3 cap3 _, htT, hF⟩
     have HTa : Hid (Touch t.top wv w3) := (T2.mono (fun b hb => by cases hb)).trans hTa (fun b hb => Or.inl hb)
     have HTb : Hid (Touch t.top wv (w3.setCell ⟨t.t, 1, none⟩ (slV g3 (t.maps.length + 1) cap3))) := (T2.mono (fun b hb => by cases hb)).trans hTb (fun b hb => Or.inl hb)
     have HT2 := toHid T2
     dsimp only at hr3
     rw [htl] at hr3 HF HTb e1
     rw [htT] at HF HTb e1 e2
     unfold slV at hr3 e1 HF HTb
     rw [Option.map_some] at hr3
     rw [HTG.out] at hr3 e1
     generalize (g3.map fun b => (⟨b, 0, none⟩ : Addr)) = tg3 at hr3 HF HTb
     have HR2 := toHid hr2
     have HR3 := toHid hr3
     have HE := toHid (And.intro e1 e2)
     clear hpx hixr hixo T1 hTcur hTc hEb hEE hixE hr2 hrow2 ht2 hg2 T2 hcz hcz1 hg2v hg2x hixv hRM hOK htT hC htl T2r htlt hwz hr3 e1 e2 hRT hTa hTb hg3 hww T2s hTw hF
     refine step_append_known rfl (.tmp 30) (.tmp 32) 112 112 rfl (.slice (some ⟨w1.heap.size, 0, none⟩) 0 0) (.slice (some ⟨ib, 0, none⟩) m.ids.length m.idc) (by simp [Act.eval]) (by simp [Act.eval]) HR2.out ?_
     refine hK.out _ _ ?_ (fun hHeld => ?_)
     ·exact HV.out _ ((HT2.out).mono (fun b hb => by cases hb))
     clear hK K
     try simp only [Act.put, AP]
     refine tk 14 (v := ?_) rfl ?_ ?_
     rotate_left
     ·(intro w hSw; (try dsimp only at hSw); go_simp; try with_reducible rfl)
     simp only [Act.put, AP]
     refine wpAnyH_ready (rs := [15]) (by kernel_rfl) (by simp) ?_
     refine (AllReadyH.cons rfl (fun K hK => ?_) AllReadyH.nil)
     simp only [AP]
     go_simp
     refine hK.out _ _ ?_ (fun hHeld => ?_)
     ·exact HV.out _ ((HT2.out.alloc _).mono (fun b hb => by cases hb))
     clear hK K
     try simp only [Act.put, AP]
     refine wpAnyH_ready (rs := [16]) (by kernel_rfl) (by simp) ?_
     refine (AllReadyH.cons rfl (fun K hK => ?_) AllReadyH.nil)
     refine step_append_known rfl (.tmp 24) (.tmp 35) 98 98 rfl (.slice tg k t.cap) (.slice (some ⟨w2.heap.size, 0, none⟩) 1 1) (by simp [Act.eval]) (by simp [Act.eval]) HR3.out ?_
     refine hK.out _ _ ?_ (fun hHeld => ?_)
     ·exact HV.out _ HTa.out
     clear hK K
     try simp only [Act.put, AP]
     refine tk 17 (v := ?_) rfl ?_ ?_
     rotate_left
     ·(intro w hSw; (try dsimp only at hSw); go_simp; try with_reducible rfl)
     simp only [Act.put, AP]
     refine tk 18 (v := ?_) rfl ?_ ?_
     rotate_left
     ·(intro w hSw; (try dsimp only at hSw); go_simp; try with_reducible rfl)
     simp only [Act.put, AP]
     obtain ⟨e1, e2⟩ := HE.out
     refine wpAnyH_ready (rs := [19]) (by kernel_rfl) (by simp) ?_
     refine (AllReadyH.cons rfl (fun K hK => ?_) AllReadyH.nil)
     simp only [AP]
     go_simp
     refine hK.out _ _ ?_ (fun hHeld => ?_)
     ·exact HV.out _ HTb.out
     clear hK K
     try simp only [Act.put, AP]
     refine wpAnyH_done (by kernel_rfl) ?_ _
     clear e1 e2
     go_wp2
     exact ⟨⟨k + 1, by omega, by go_num, HF.out⟩, by simp [intOf]; omega⟩
    ·simp only [AP]
     go_simp
     have TA : Touch [] wv ((w1).alloc (.cells #[] 3)) := (HC9.out.2.2.2).alloc _
     have HE0 := toHid (blk_newI (w := w1) rfl)
     have hEB : wv.heap.size ≤ (w1).heap.size := (HC9.out.2.2.2).size
     have HTA := toHid TA
     have HEs := toHid hEB
     clear TA hEB
     refine hK.out _ _ ?_ (fun hHeld => ?_)
     ·exact HV.out _ ((HTA.out).mono (fun b hb => by cases hb))
     clear hK K
     try simp only [Act.put, AP]
     refine wpAnyH_ready (rs := [4, 13]) (by kernel_rfl) (by simp) ?_
     refine (AllReadyH.cons rfl (fun K hK => ?_) (AllReadyH.cons rfl (fun K hK => ?_) AllReadyH.nil))
     ·have hq := HT.out (((w1).alloc (.cells #[] 3))) (HTA.out)
      simp only [AP]
      go_simp
      refine hK.out _ _ ?_ (fun hHeld => ?_)
      ·exact HV.out _ ((HTA.out).mono (fun b hb => by cases hb))
      clear hK K
      try simp only [Act.put, AP]
      clear hq
      refine wpAnyH_ready (rs := [13]) (by kernel_rfl) (by simp) ?_
      refine (AllReadyH.cons rfl (fun K hK => ?_) AllReadyH.nil)
      obtain ⟨hpx, hixr, hixo, T1⟩ := HC9.out
      have hTcur : Touch [] wv (((w1).alloc (.cells #[] 3))) := HTA.out
      have hTc : Touch [] w1 (((w1).alloc (.cells #[] 3))) := (Touch.refl [] w1).alloc _
      have hEb : Blk (((w1).alloc (.cells #[] 3))) (w1.heap.size) [] 3 := blk_newI rfl
      have hEE : wv.heap.size ≤ w1.heap.size := T1.size
      have hixE : ∀ b ∈ ix.blocks, b ≠ w1.heap.size := fun b hb e => by have h9 := hixr.lt b hb; omega
      obtain ⟨g2, cap2, w2, hr2, hrow2, ht2, hg2⟩ := ids_append (c9 := m.idc) (HIDS.out _ hTcur) HNI.out.1 HNI.out.2 hEb
      have T2 : Touch [] wv w2 := hTcur.trans ht2 (fun y hy => Or.inr (by simp at hy; omega))
      have hcz := hTcur.size
      have hcz1 := hTc.size
      have hg2v : wv.heap.size ≤ g2 := by rcases hg2 with h9 | h9 <;> omega
      have hg2x : g2 ∉ ix.blocks := fun hx => by
       rcases hg2 with h9 | h9
       ·exact hixE g2 hx h9
       ·have h8 := hixr.lt g2 hx; omega
      have hixv : ∀ b ∈ ix.blocks, wv.heap.size ≤ b := HOV.out
      have hRM : RMapAt w2 { m with ix := ix, idb := some g2, idc := cap2 } := ⟨(hixr.touch hTc (by simp)).touch ht2 (fun b hb hx => hixE b hb (by simpa using hx)), hrow2, fun b hb hx => by injection hb with hb; subst hb; exact hg2x hx⟩
      have hOK : RMapOk { m with ix := ix, idb := some g2, idc := cap2 } := RMapOk.ix HOK.out hpx
      obtain ⟨htT, hC⟩ := HC.out
      have htl := hC.len
      have T2r : Touch [] wr w2 := HTW.out.trans T2 (by simp)
      have htlt := hC.ref.lt
      have hwz := HTW.out.size
      obtain ⟨g3, cap3, w3, hr3, e1, e2, hRT, hTa, hTb, hg3⟩ := (hC.ref.still T2r).push hRM hOK (fun b hb hx => by
       have h9 := htlt b hx
       rcases List.mem_append.1 hb with hb | hb
       ·have h8 := hixv b hb; omega
       ·have h8 : b = g2 := by simpa using hb
        omega) (by rw [htl]; omega)
      have hww := hC.touch.size
      have T2s := T2r.size
      have hTw : Touch [] w (w3.setCell ⟨t.t, 1, none⟩ (slV g3 (t.maps.length + 1) cap3)) := (hC.touch.trans T2r (by simp)).trans hTb (fun b hb => Or.inr (hC.own b (RT.mem_top hb)))
      have hF := hC.push HM.out.1 hpx hRT hTw (fun b hb => by have h9 := hixv b hb; omega) (by omega) (fun b hb => by rcases hg3 b hb with h9 | h9; exact Or.inl h9; exact Or.inr (by omega))
      have HF : Hid (∃ t', t'.t = T ∧ TCopyAt w (w3.setCell ⟨t.t, 1, none⟩ (slV g3 (t.maps.length + 1) cap3)) x t' m2 (k + 1)) := ⟨t.add g3 cap3 _, htT, hF⟩
      have HTa : Hid (Touch t.top wv w3) := (T2.mono (fun b hb => by cases hb)).trans hTa (fun b hb => Or.inl hb)
      have HTb : Hid (Touch t.top wv (w3.setCell ⟨t.t, 1, none⟩ (slV g3 (t.maps.length + 1) cap3))) := (T2.mono (fun b hb => by cases hb)).trans hTb (fun b hb => Or.inl hb)
      have HT2 := toHid T2
      dsimp only at hr3
      rw [htl] at hr3 HF HTb e1
      rw [htT] at HF HTb e1 e2
      unfold slV at hr3 e1 HF HTb
      rw [Option.map_some] at hr3
      rw [HTG.out] at hr3 e1
      generalize (g3.map fun b => (⟨b, 0, none⟩ : Addr)) = tg3 at hr3 HF HTb
      have HR2 := toHid hr2
      have HR3 := toHid hr3
      have HE := toHid (And.intro e1 e2)
      clear hpx hixr hixo T1 hTcur hTc hEb hEE hixE hr2 hrow2 ht2 hg2 T2 hcz hcz1 hg2v hg2x hixv hRM hOK htT hC htl T2r htlt hwz hr3 e1 e2 hRT hTa hTb hg3 hww T2s hTw hF
      refine step_append_known rfl (.tmp 30) (.tmp 32) 112 112 rfl (.slice (some ⟨w1.heap.size, 0, none⟩) 0 0) (.slice (some ⟨ib, 0, none⟩) m.ids.length m.idc) (by simp [Act.eval]) (by simp [Act.eval]) HR2.out ?_
      refine hK.out _ _ ?_ (fun hHeld => ?_)
      ·exact HV.out _ ((HT2.out).mono (fun b hb => by cases hb))
      clear hK K
      try simp only [Act.put, AP]
      refine tk 14 (v := ?_) rfl ?_ ?_
      rotate_left
      ·(intro w hSw; (try dsimp only at hSw); go_simp; try with_reducible rfl)
      simp only [Act.put, AP]
      refine wpAnyH_ready (rs := [15]) (by kernel_rfl) (by simp) ?_
      refine (AllReadyH.cons rfl (fun K hK => ?_) AllReadyH.nil)
      simp only [AP]
      go_simp
      refine hK.out _ _ ?_ (fun hHeld => ?_)
      ·exact HV.out _ ((HT2.out.alloc _).mono (fun b hb => by cases hb))
      clear hK K
      try simp only [Act.put, AP]
      refine wpAnyH_ready (rs := [16]) (by kernel_rfl) (by simp) ?_
      refine (AllReadyH.cons rfl (fun K hK => ?_) AllReadyH.nil)
      refine step_append_known rfl (.tmp 24) (.tmp 35) 98 98 rfl (.slice tg k t.cap) (.slice (some ⟨w2.heap.size, 0, none⟩) 1 1) (by simp [Act.eval]) (by simp [Act.eval]) HR3.out ?_
      refine hK.out _ _ ?_ (fun hHeld => ?_)
      ·exact HV.out _ HTa.out
      clear hK K
      try simp only [Act.put, AP]
      refine tk 17 (v := ?_) rfl ?_ ?_
      rotate_left
      ·(intro w hSw; (try dsimp only at hSw); go_simp; try with_reducible rfl)
      simp only [Act.put, AP]
      refine tk 18 (v := ?_) rfl ?_ ?_
      rotate_left
      ·(intro w hSw; (try dsimp only at hSw); go_simp; try with_reducible rfl)
      simp only [Act.put, AP]
      obtain ⟨e1, e2⟩ := HE.out
      refine wpAnyH_ready (rs := [19]) (by kernel_rfl) (by simp) ?_
      refine (AllReadyH.cons rfl (fun K hK => ?_) AllReadyH.nil)
      simp only [AP]
      go_simp
      refine hK.out _ _ ?_ (fun hHeld => ?_)
      ·exact HV.out _ HTb.out
      clear hK K
      try simp only [Act.put, AP]
      refine wpAnyH_done (by kernel_rfl) ?_ _
      clear e1 e2
      go_wp2
      exact ⟨⟨k + 1, by omega, by go_num, HF.out⟩, by simp [intOf]; omega⟩
     ·obtain ⟨hpx, hixr, hixo, T1⟩ := HC9.out
      have hTcur : Touch [] wv (((w1).alloc (.cells #[] 3))) := HTA.out
      have hTc : Touch [] w1 (((w1).alloc (.cells #[] 3))) := (Touch.refl [] w1).alloc _
      have hEb : Blk (((w1).alloc (.cells #[] 3))) (w1.heap.size) [] 3 := blk_newI rfl
      have hEE : wv.heap.size ≤ w1.heap.size := T1.size
      have hixE : ∀ b ∈ ix.blocks, b ≠ w1.heap.size := fun b hb e => by have h9 := hixr.lt b hb; omega
      obtain ⟨g2, cap2, w2, hr2, hrow2, ht2, hg2⟩ := ids_append (c9 := m.idc) (HIDS.out _ hTcur) HNI.out.1 HNI.out.2 hEb
      have T2 : Touch [] wv w2 := hTcur.trans ht2 (fun y hy => Or.inr (by simp at hy; omega))
      have hcz := hTcur.size
      have hcz1 := hTc.size
      have hg2v : wv.heap.size ≤ g2 := by rcases hg2 with h9 | h9 <;> omega
      have hg2x : g2 ∉ ix.blocks := fun hx => by
       rcases hg2 with h9 | h9
       ·exact hixE g2 hx h9
       ·have h8 := hixr.lt g2 hx; omega
      have hixv : ∀ b ∈ ix.blocks, wv.heap.size ≤ b := HOV.out
      have hRM : RMapAt w2 { m with ix := ix, idb := some g2, idc := cap2 } := ⟨(hixr.touch hTc (by simp)).touch ht2 (fun b hb hx => hixE b hb (by simpa using hx)), hrow2, fun b hb hx => by injection hb with hb; subst hb; exact hg2x hx⟩
      have hOK : RMapOk { m with ix := ix, idb := some g2, idc := cap2 } := RMapOk.ix HOK.out hpx
      obtain ⟨htT, hC⟩ := HC.out
      have htl := hC.len
      have T2r : Touch [] wr w2 := HTW.out.trans T2 (by simp)
      have htlt := hC.ref.lt
      have hwz := HTW.out.size
      obtain ⟨g3, cap3, w3, hr3, e1, e2, hRT, hTa, hTb, hg3⟩ := (hC.ref.still T2r).push hRM hOK (fun b hb hx => by
       have h9 := htlt b hx
       rcases List.mem_append.1 hb with hb | hb
       ·have h8 := hixv b hb; omega
       ·have h8 : b = g2 := by simpa using hb
        omega) (by rw [htl]; omega)
      have hww := hC.touch.size
      have T2s := T2r.size
      have hTw : Touch [] w (w3.setCell ⟨t.t, 1, none⟩ (slV g3 (t.maps.length + 1) cap3)) := (hC.touch.trans T2r (by simp)).trans hTb (fun b hb => Or.inr (hC.own b (RT.mem_top hb)))
      have hF := hC.push HM.out.1 hpx hRT hTw (fun b hb => by have h9 := hixv b hb; omega) (by omega) (fun b hb => by rcases hg3 b hb with h9 | h9; exact Or.inl h9; exact Or.inr (by omega))
      have HF : Hid (∃ t', t'.t = T ∧ TCopyAt w (w3.setCell ⟨t.t, 1, none⟩ (slV g3 (t.maps.length + 1) cap3)) x t' m2 (k + 1)) := ⟨t.add g3 cap3 _, htT, hF⟩
      have HTa : Hid (Touch t.top wv w3) := (T2.mono (fun b hb => by cases hb)).trans hTa (fun b hb => Or.inl hb)
      have HTb : Hid (Touch t.top wv (w3.setCell ⟨t.t, 1, none⟩ (slV g3 (t.maps.length + 1) cap3))) := (T2.mono (fun b hb => by cases hb)).trans hTb (fun b hb => Or.inl hb)
      have HT2 := toHid T2
      dsimp only at hr3
      rw [htl] at hr3 HF HTb e1
      rw [htT] at HF HTb e1 e2
      unfold slV at hr3 e1 HF HTb
      rw [Option.map_some] at hr3
      rw [HTG.out] at hr3 e1
      generalize (g3.map fun b => (⟨b, 0, none⟩ : Addr)) = tg3 at hr3 HF HTb
      have HR2 := toHid hr2
      have HR3 := toHid hr3
      have HE := toHid (And.intro e1 e2)
      clear hpx hixr hixo T1 hTcur hTc hEb hEE hixE hr2 hrow2 ht2 hg2 T2 hcz hcz1 hg2v hg2x hixv hRM hOK htT hC htl T2r htlt hwz hr3 e1 e2 hRT hTa hTb hg3 hww T2s hTw hF
      refine step_append_known rfl (.tmp 30) (.tmp 32) 112 112 rfl (.slice (some ⟨w1.heap.size, 0, none⟩) 0 0) (.slice (some ⟨ib, 0, none⟩) m.ids.length m.idc) (by simp [Act.eval]) (by simp [Act.eval]) HR2.out ?_
      refine hK.out _ _ ?_ (fun hHeld => ?_)
      ·exact HV.out _ ((HT2.out).mono (fun b hb => by cases hb))
      clear hK K
      try simp only [Act.put, AP]
      refine tk 14 (v := ?_) rfl ?_ ?_
      rotate_left
      ·(intro w hSw; (try dsimp only at hSw); go_simp; try with_reducible rfl)
      simp only [Act.put, AP]
      refine wpAnyH_ready (rs := [4, 15]) (by kernel_rfl) (by simp) ?_
      refine (AllReadyH.cons rfl (fun K hK => ?_) (AllReadyH.cons rfl (fun K hK => ?_) AllReadyH.nil))
      ·have hq := HT.out (w2) (HT2.out)
       simp only [AP]
       go_simp
       refine hK.out _ _ ?_ (fun hHeld => ?_)
       ·exact HV.out _ ((HT2.out).mono (fun b hb => by cases hb))
       clear hK K
       try simp only [Act.put, AP]
       clear hq
       refine wpAnyH_ready (rs := [15]) (by kernel_rfl) (by simp) ?_
       refine (AllReadyH.cons rfl (fun K hK => ?_) AllReadyH.nil)
       simp only [AP]
       go_simp
       refine hK.out _ _ ?_ (fun hHeld => ?_)
       ·exact HV.out _ ((HT2.out.alloc _).mono (fun b hb => by cases hb))
       clear hK K
       try simp only [Act.put, AP]
       refine wpAnyH_ready (rs := [16]) (by kernel_rfl) (by simp) ?_
       refine (AllReadyH.cons rfl (fun K hK => ?_) AllReadyH.nil)
       refine step_append_known rfl (.tmp 24) (.tmp 35) 98 98 rfl (.slice tg k t.cap) (.slice (some ⟨w2.heap.size, 0, none⟩) 1 1) (by simp [Act.eval]) (by simp [Act.eval]) HR3.out ?_
       refine hK.out _ _ ?_ (fun hHeld => ?_)
       ·exact HV.out _ HTa.out
       clear hK K
       try simp only [Act.put, AP]
       refine tk 17 (v := ?_) rfl ?_ ?_
       rotate_left
       ·(intro w hSw; (try dsimp only at hSw); go_simp; try with_reducible rfl)
       simp only [Act.put, AP]
       refine tk 18 (v := ?_) rfl ?_ ?_
       rotate_left
       ·(intro w hSw; (try dsimp only at hSw); go_simp; try with_reducible rfl)
       simp only [Act.put, AP]
       obtain ⟨e1, e2⟩ := HE.out
       refine wpAnyH_ready (rs := [19]) (by kernel_rfl) (by simp) ?_
       refine (AllReadyH.cons rfl (fun K hK => ?_) AllReadyH.nil)
       simp only [AP]
       go_simp
       refine hK.out _ _ ?_ (fun hHeld => ?_)
       ·exact HV.out _ HTb.out
       clear hK K
       try simp only [Act.put, AP]
       refine wpAnyH_done (by kernel_rfl) ?_ _
       clear e1 e2
       go_wp2
       exact ⟨⟨k + 1, by omega, by go_num, HF.out⟩, by simp [intOf]; omega⟩
      ·simp only [AP]
       go_simp
       refine hK.out _ _ ?_ (fun hHeld => ?_)
       ·exact HV.out _ ((HT2.out.alloc _).mono (fun b hb => by cases hb))
       clear hK K
       try simp only [Act.put, AP]
       refine wpAnyH_ready (rs := [4]) (by kernel_rfl) (by simp) ?_
       refine (AllReadyH.cons rfl (fun K hK => ?_) AllReadyH.nil)
       have hq := HT.out ((w2.alloc (.cells #[.int .i64 m.kind, .int .i64 m.key, .int .i64 m.val, .int .i64 m.max, .pointer (some ⟨ix.r, 0, none⟩), .slice (some ⟨g2, 0, none⟩) m.ids.length cap2] 117))) (HT2.out.alloc _)
       simp only [AP]
       go_simp
       refine hK.out _ _ ?_ (fun hHeld => ?_)
       ·exact HV.out _ ((HT2.out.alloc _).mono (fun b hb => by cases hb))
       clear hK K
       try simp only [Act.put, AP]
       clear hq
       refine wpAnyH_ready (rs := [16]) (by kernel_rfl) (by simp) ?_
       refine (AllReadyH.cons rfl (fun K hK => ?_) AllReadyH.nil)
       refine step_append_known rfl (.tmp 24) (.tmp 35) 98 98 rfl (.slice tg k t.cap) (.slice (some ⟨w2.heap.size, 0, none⟩) 1 1) (by simp [Act.eval]) (by simp [Act.eval]) HR3.out ?_
       refine hK.out _ _ ?_ (fun hHeld => ?_)
       ·exact HV.out _ HTa.out
       clear hK K
       try simp only [Act.put, AP]
       refine tk 17 (v := ?_) rfl ?_ ?_
       rotate_left
       ·(intro w hSw; (try dsimp only at hSw); go_simp; try with_reducible rfl)
       simp only [Act.put, AP]
       refine tk 18 (v := ?_) rfl ?_ ?_
       rotate_left
       ·(intro w hSw; (try dsimp only at hSw); go_simp; try with_reducible rfl)
       simp only [Act.put, AP]
       obtain ⟨e1, e2⟩ := HE.out
       refine wpAnyH_ready (rs := [19]) (by kernel_rfl) (by simp) ?_
       refine (AllReadyH.cons rfl (fun K hK => ?_) AllReadyH.nil)
       simp only [AP]
       go_simp
       refine hK.out _ _ ?_ (fun hHeld => ?_)
       ·exact HV.out _ HTb.out
       clear hK K
       try simp only [Act.put, AP]
       refine wpAnyH_done (by kernel_rfl) ?_ _
       clear e1 e2
       go_wp2
       exact ⟨⟨k + 1, by omega, by go_num, HF.out⟩, by simp [intOf]; omega⟩
   ·simp only [AP]
    go_simp
    have TA : Touch [] wv ((wv.alloc (.cells #[] 3)).drew) := ((Touch.refl [] wv).alloc _).drew
    have HE0 := toHid ((blk_newI (w := wv) rfl).drew)
    have hEB : wv.heap.size ≤ (wv.drew).heap.size := ((Touch.refl [] wv).drew).size
    have HTA := toHid TA
    have HEs := toHid hEB
    clear TA hEB
    refine hK.out _ _ ?_ (fun hHeld => ?_)
    ·exact HV.out _ ((HTA.out).mono (fun b hb => by cases hb))
    clear hK K
    try simp only [Act.put, AP]
    refine wpAnyH_ready (rs := [4, 9]) (by kernel_rfl) (by simp) ?_
    refine (AllReadyH.cons rfl (fun K hK => ?_) (AllReadyH.cons rfl (fun K hK => ?_) AllReadyH.nil))
    ·have hq := HT.out (((wv.alloc (.cells #[] 3)).drew)) (HTA.out)
     simp only [AP]
     go_simp
     refine hK.out _ _ ?_ (fun hHeld => ?_)
     ·exact HV.out _ ((HTA.out).mono (fun b hb => by cases hb))
     clear hK K
     try simp only [Act.put, AP]
     clear hq
     refine wpAnyH_ready (rs := [9]) (by kernel_rfl) (by simp) ?_
     refine (AllReadyH.cons rfl (fun K hK => ?_) AllReadyH.nil)
     simp only [AP]
     go_simp
     refine Calls.mono (H9.out _ (HTA.out)) ?_; rintro e w1 ⟨ix, rfl, hC9⟩
     have T1 : Touch [] wv w1 := (HTA.out).trans hC9.touch (by simp)
     have HC9 := toHid (And.intro (hC9.px HW.out) (And.intro hC9.ref (And.intro hC9.own T1)))
     have HOV : Hid (∀ b ∈ ix.blocks, wv.heap.size ≤ b) := fun b hb => by have h9 : (((wv.alloc (.cells #[] 3)).drew)).heap.size ≤ b := hC9.own b hb; have h8 := (HTA.out).size; omega
     have HE1 := toHid (hC9.touch.blk HE0.out (by simp))
     have HEx : Hid (∀ b ∈ ix.blocks, b ≠ wv.heap.size) := fun b hb e => by have h9 : (wv.alloc (.cells #[] 3)).heap.size ≤ b := hC9.own b hb; rw [World.size_alloc] at h9; omega
     clear hC9 T1
     go_wp2_with fail
     refine hK.out _ _ ?_ (fun hHeld => ?_)
     ·exact HV.out _ ((HC9.out.2.2.2).mono (fun b hb => by cases hb))
     clear hK K
     try simp only [Act.put, AP]
     refine wpAnyH_ready (rs := [13]) (by kernel_rfl) (by simp) ?_
     refine (AllReadyH.cons rfl (fun K hK => ?_) AllReadyH.nil)
     obtain ⟨hpx, hixr, hixo, T1⟩ := HC9.out
     have hTcur : Touch [] wv (w1) := HC9.out.2.2.2
     have hTc : Touch [] w1 (w1) := Touch.refl [] w1
     have hEb : Blk (w1) (wv.heap.size) [] 3 := HE1.out
     have hEE : wv.heap.size ≤ wv.heap.size := Nat.le_refl _
     have hixE : ∀ b ∈ ix.blocks, b ≠ wv.heap.size := HEx.out
     obtain ⟨g2, cap2, w2, hr2, hrow2, ht2, hg2⟩ := ids_append (c9 := m.idc) (HIDS.out _ hTcur) HNI.out.1 HNI.out.2 hEb
     have T2 : Touch [] wv w2 := hTcur.trans ht2 (fun y hy => Or.inr (by simp at hy; omega))
     have hcz := hTcur.size
     have hcz1 := hTc.size
     have hg2v : wv.heap.size ≤ g2 := by rcases hg2 with h9 | h9 <;> omega
     have hg2x : g2 ∉ ix.blocks := fun hx => by
      rcases hg2 with h9 | h9
      ·exact hixE g2 hx h9
      ·have h8 := hixr.lt g2 hx; omega
     have hixv : ∀ b ∈ ix.blocks, wv.heap.size ≤ b := HOV.out
     have hRM : RMapAt w2 { m with ix := ix, idb := some g2, idc := cap2 } := ⟨(hixr.touch hTc (by simp)).touch ht2 (fun b hb hx => hixE b hb (by simpa using hx)), hrow2, fun b hb hx => by injection hb with hb; subst hb; exact hg2x hx⟩
     have hOK : RMapOk { m with ix := ix, idb := some g2, idc := cap2 } := RMapOk.ix HOK.out hpx
     obtain ⟨htT, hC⟩ := HC.out
     have htl := hC.len
     have T2r : Touch [] wr w2 := HTW.out.trans T2 (by simp)
     have htlt := hC.ref.lt
     have hwz := HTW.out.size
     obtain ⟨g3, cap3, w3, hr3, e1, e2, hRT, hTa, hTb, hg3⟩ := (hC.ref.still T2r).push hRM hOK (fun b hb hx => by
      have h9 := htlt b hx
      rcases List.mem_append.1 hb with hb | hb
      ·have h8 := hixv b hb; omega
      ·have h8 : b = g2 := by simpa using hb
       omega) (by rw [htl]; omega)
     have hww := hC.touch.size
     have T2s := T2r.size
     have hTw : Touch [] w (w3.setCell ⟨t.t, 1, none⟩ (slV g3 (t.maps.length + 1) cap3)) := (hC.touch.trans T2r (by simp)).trans hTb (fun b hb => Or.inr (hC.own b (RT.mem_top hb)))
     have hF := hC.push HM.out.1 hpx hRT hTw (fun b hb => by have h9 := hixv b hb; omega) (by omega) (fun b hb => by rcases hg3 b hb with h9 | h9; exact Or.inl h9; exact Or.inr (by omega))
     have HF : Hid (∃ t', t'.t = T ∧ TCopyAt w (w3.setCell ⟨t.t, 1, none⟩ (slV g3 (t.maps.length + 1) cap3)) x t' m2 (k + 1)) := ⟨t.add g3 cap3 _, htT, hF⟩
     have HTa : Hid (Touch t.top wv w3) := (T2.mono (fun b hb => by cases hb)).trans hTa (fun b hb => Or.inl hb)
     have HTb : Hid (Touch t.top wv (w3.setCell ⟨t.t, 1, none⟩ (slV g3 (t.maps.length + 1) cap3))) := (T2.mono (fun b hb => by cases hb)).trans hTb (fun b hb => Or.inl hb)
     have HT2 := toHid T2
     dsimp only at hr3
     rw [htl] at hr3 HF HTb e1
     rw [htT] at HF HTb e1 e2
     unfold slV at hr3 e1 HF HTb
     rw [Option.map_some] at hr3
     rw [HTG.out] at hr3 e1
     generalize (g3.map fun b => (⟨b, 0, none⟩ : Addr)) = tg3 at hr3 HF HTb
     have HR2 := toHid hr2
     have HR3 := toHid hr3
     have HE := toHid (And.intro e1 e2)
     clear hpx hixr hixo T1 hTcur hTc hEb hEE hixE hr2 hrow2 ht2 hg2 T2 hcz hcz1 hg2v hg2x hixv hRM hOK htT hC htl T2r htlt hwz hr3 e1 e2 hRT hTa hTb hg3 hww T2s hTw hF
     refine step_append_known rfl (.tmp 30) (.tmp 32) 112 112 rfl (.slice (some ⟨wv.heap.size, 0, none⟩) 0 0) (.slice (some ⟨ib, 0, none⟩) m.ids.length m.idc) (by simp [Act.eval]) (by simp [Act.eval]) HR2.out ?_
     refine hK.out _ _ ?_ (fun hHeld => ?_)
     ·exact HV.out _ ((HT2.out).mono (fun b hb => by cases hb))
     clear hK K
     try simp only [Act.put, AP]
     refine tk 14 (v := ?_) rfl ?_ ?_
     rotate_left
     ·(intro w hSw; (try dsimp only at hSw); go_simp; try with_reducible rfl)
     simp only [Act.put, AP]
     refine wpAnyH_ready (rs := [15]) (by kernel_rfl) (by simp) ?_
     refine (AllReadyH.cons rfl (fun K hK => ?_) AllReadyH.nil)
     simp only [AP]
     go_simp
     refine hK.out _ _ ?_ (fun hHeld => ?_)
     ·exact HV.out _ ((HT2.out.alloc _).mono (fun b hb => by cases hb))
     clear hK K
     try simp only [Act.put, AP]
     refine wpAnyH_ready (rs := [16]) (by kernel_rfl) (by simp) ?_
     refine (AllReadyH.cons rfl (fun K hK => ?_) AllReadyH.nil)
     refine step_append_known rfl (.tmp 24) (.tmp 35) 98 98 rfl (.slice tg k t.cap) (.slice (some ⟨w2.heap.size, 0, none⟩) 1 1) (by simp [Act.eval]) (by simp [Act.eval]) HR3.out ?_
     refine hK.out _ _ ?_ (fun hHeld => ?_)
     ·exact HV.out _ HTa.out
     clear hK K
     try simp only [Act.put, AP]
     refine tk 17 (v := ?_) rfl ?_ ?_
     rotate_left
     ·(intro w hSw; (try dsimp only at hSw); go_simp; try with_reducible rfl)
     simp only [Act.put, AP]
     refine tk 18 (v := ?_) rfl ?_ ?_
     rotate_left
     ·(intro w hSw; (try dsimp only at hSw); go_simp; try with_reducible rfl)
     simp only [Act.put, AP]
     obtain ⟨e1, e2⟩ := HE.out
     refine wpAnyH_ready (rs := [19]) (by kernel_rfl) (by simp) ?_
     refine (AllReadyH.cons rfl (fun K hK => ?_) AllReadyH.nil)
     simp only [AP]
     go_simp
     refine hK.out _ _ ?_ (fun hHeld => ?_)
     ·exact HV.out _ HTb.out
     clear hK K
     try simp only [Act.put, AP]
     refine wpAnyH_done (by kernel_rfl) ?_ _
     clear e1 e2
     go_wp2
     exact ⟨⟨k + 1, by omega, by go_num, HF.out⟩, by simp [intOf]; omega⟩
    ·simp only [AP]
     go_simp
     refine Calls.mono (H9.out _ (HTA.out)) ?_; rintro e w1 ⟨ix, rfl, hC9⟩
     have T1 : Touch [] wv w1 := (HTA.out).trans hC9.touch (by simp)
     have HC9 := toHid (And.intro (hC9.px HW.out) (And.intro hC9.ref (And.intro hC9.own T1)))
     have HOV : Hid (∀ b ∈ ix.blocks, wv.heap.size ≤ b) := fun b hb => by have h9 : (((wv.alloc (.cells #[] 3)).drew)).heap.size ≤ b := hC9.own b hb; have h8 := (HTA.out).size; omega
     have HE1 := toHid (hC9.touch.blk HE0.out (by simp))
     have HEx : Hid (∀ b ∈ ix.blocks, b ≠ wv.heap.size) := fun b hb e => by have h9 : (wv.alloc (.cells #[] 3)).heap.size ≤ b := hC9.own b hb; rw [World.size_alloc] at h9; omega
     clear hC9 T1
     go_wp2_with fail
     refine hK.out _ _ ?_ (fun hHeld => ?_)
     ·exact HV.out _ ((HC9.out.2.2.2).mono (fun b hb => by cases hb))
     clear hK K
     try simp only [Act.put, AP]
     refine wpAnyH_ready (rs := [4, 13]) (by kernel_rfl) (by simp) ?_
     refine (AllReadyH.cons rfl (fun K hK => ?_) (AllReadyH.cons rfl (fun K hK => ?_) AllReadyH.nil))
     ·have hq := HT.out (w1) (HC9.out.2.2.2)
      simp only [AP]
      go_simp
      refine hK.out _ _ ?_ (fun hHeld => ?_)
      ·exact HV.out _ ((HC9.out.2.2.2).mono (fun b hb => by cases hb))
      clear hK K
      try simp only [Act.put, AP]
      clear hq
      refine wpAnyH_ready (rs := [13]) (by kernel_rfl) (by simp) ?_
      refine (AllReadyH.cons rfl (fun K hK => ?_) AllReadyH.nil)
      obtain ⟨hpx, hixr, hixo, T1⟩ := HC9.out
      have hTcur : Touch [] wv (w1) := HC9.out.2.2.2
      have hTc : Touch [] w1 (w1) := Touch.refl [] w1
      have hEb : Blk (w1) (wv.heap.size) [] 3 := HE1.out
      have hEE : wv.heap.size ≤ wv.heap.size := Nat.le_refl _
      have hixE : ∀ b ∈ ix.blocks, b ≠ wv.heap.size := HEx.out
      obtain ⟨g2, cap2, w2, hr2, hrow2, ht2, hg2⟩ := ids_append (c9 := m.idc) (HIDS.out _ hTcur) HNI.out.1 HNI.out.2 hEb
      have T2 : Touch [] wv w2 := hTcur.trans ht2 (fun y hy => Or.inr (by simp at hy; omega))
      have hcz := hTcur.size
      have hcz1 := hTc.size
      have hg2v : wv.heap.size ≤ g2 := by rcases hg2 with h9 | h9 <;> omega
      have hg2x : g2 ∉ ix.blocks := fun hx => by
       rcases hg2 with h9 | h9
       ·exact hixE g2 hx h9
       ·have h8 := hixr.lt g2 hx; omega
      have hixv : ∀ b ∈ ix.blocks, wv.heap.size ≤ b := HOV.out
      have hRM : RMapAt w2 { m with ix := ix, idb := some g2, idc := cap2 } := ⟨(hixr.touch hTc (by simp)).touch ht2 (fun b hb hx => hixE b hb (by simpa using hx)), hrow2, fun b hb hx => by injection hb with hb; subst hb; exact hg2x hx⟩
      have hOK : RMapOk { m with ix := ix, idb := some g2, idc := cap2 } := RMapOk.ix HOK.out hpx
      obtain ⟨htT, hC⟩ := HC.out
      have htl := hC.len
      have T2r : Touch [] wr w2 := HTW.out.trans T2 (by simp)
      have htlt := hC.ref.lt
      have hwz := HTW.out.size
      obtain ⟨g3, cap3, w3, hr3, e1, e2, hRT, hTa, hTb, hg3⟩ := (hC.ref.still T2r).push hRM hOK (fun b hb hx => by
       have h9 := htlt b hx
       rcases List.mem_append.1 hb with hb | hb
       ·have h8 := hixv b hb; omega
       ·have h8 : b = g2 := by simpa using hb
        omega) (by rw [htl]; omega)
      have hww := hC.touch.size
      have T2s := T2r.size
      have hTw : Touch [] w (w3.setCell ⟨t.t, 1, none⟩ (slV g3 (t.maps.length + 1) cap3)) := (hC.touch.trans T2r (by simp)).trans hTb (fun b hb => Or.inr (hC.own b (RT.mem_top hb)))
      have hF := hC.push HM.out.1 hpx hRT hTw (fun b hb => by have h9 := hixv b hb; omega) (by omega) (fun b hb => by rcases hg3 b hb with h9 | h9; exact Or.inl h9; exact Or.inr (by omega))
      have HF : Hid (∃ t', t'.t = T ∧ TCopyAt w (w3.setCell ⟨t.t, 1, none⟩ (slV g3 (t.maps.length + 1) cap3)) x t' m2 (k + 1)) := ⟨t.add g3 cap3 _, htT, hF⟩
      have HTa : Hid (Touch t.top wv w3) := (T2.mono (fun b hb => by cases hb)).trans hTa (fun b hb => Or.inl hb)
      have HTb : Hid (Touch t.top wv (w3.setCell ⟨t.t, 1, none⟩ (slV g3 (t.maps.length + 1) cap3))) := (T2.mono (fun b hb => by cases hb)).trans hTb (fun b hb => Or.inl hb)
      have HT2 := toHid T2
      dsimp only at hr3
      rw [htl] at hr3 HF HTb e1
      rw [htT] at HF HTb e1 e2
      unfold slV at hr3 e1 HF HTb
      rw [Option.map_some] at hr3
      rw [HTG.out] at hr3 e1
      generalize (g3.map fun b => (⟨b, 0, none⟩ : Addr)) = tg3 at hr3 HF HTb
      have HR2 := toHid hr2
      have HR3 := toHid hr3
      have HE := toHid (And.intro e1 e2)
      clear hpx hixr hixo T1 hTcur hTc hEb hEE hixE hr2 hrow2 ht2 hg2 T2 hcz hcz1 hg2v hg2x hixv hRM hOK htT hC htl T2r htlt hwz hr3 e1 e2 hRT hTa hTb hg3 hww T2s hTw hF
      refine step_append_known rfl (.tmp 30) (.tmp 32) 112 112 rfl (.slice (some ⟨wv.heap.size, 0, none⟩) 0 0) (.slice (some ⟨ib, 0, none⟩) m.ids.length m.idc) (by simp [Act.eval]) (by simp [Act.eval]) HR2.out ?_
      refine hK.out _ _ ?_ (fun hHeld => ?_)
      ·exact HV.out _ ((HT2.out).mono (fun b hb => by cases hb))
      clear hK K
      try simp only [Act.put, AP]
      refine tk 14 (v := ?_) rfl ?_ ?_
      rotate_left
      ·(intro w hSw; (try dsimp only at hSw); go_simp; try with_reducible rfl)
      simp only [Act.put, AP]
      refine wpAnyH_ready (rs := [15]) (by kernel_rfl) (by simp) ?_
      refine (AllReadyH.cons rfl (fun K hK => ?_) AllReadyH.nil)
      simp only [AP]
      go_simp
      refine hK.out _ _ ?_ (fun hHeld => ?_)
      ·exact HV.out _ ((HT2.out.alloc _).mono (fun b hb => by cases hb))
      clear hK K
      try simp only [Act.put, AP]
      refine wpAnyH_ready (rs := [16]) (by kernel_rfl) (by simp) ?_
      refine (AllReadyH.cons rfl (fun K hK => ?_) AllReadyH.nil)
      refine step_append_known rfl (.tmp 24) (.tmp 35) 98 98 rfl (.slice tg k t.cap) (.slice (some ⟨w2.heap.size, 0, none⟩) 1 1) (by simp [Act.eval]) (by simp [Act.eval]) HR3.out ?_
      refine hK.out _ _ ?_ (fun hHeld => ?_)
      ·exact HV.out _ HTa.out
      clear hK K
      try simp only [Act.put, AP]
      refine tk 17 (v := ?_) rfl ?_ ?_
      rotate_left
      ·(intro w hSw; (try dsimp only at hSw); go_simp; try with_reducible rfl)
      simp only [Act.put, AP]
      refine tk 18 (v := ?_) rfl ?_ ?_
      rotate_left
      ·(intro w hSw; (try dsimp only at hSw); go_simp; try with_reducible rfl)
      simp only [Act.put, AP]
      obtain ⟨e1, e2⟩ := HE.out
      refine wpAnyH_ready (rs := [19]) (by kernel_rfl) (by simp) ?_
      refine (AllReadyH.cons rfl (fun K hK => ?_) AllReadyH.nil)
      simp only [AP]
      go_simp
      refine hK.out _ _ ?_ (fun hHeld => ?_)
      ·exact HV.out _ HTb.out
      clear hK K
      try simp only [Act.put, AP]
      refine wpAnyH_done (by kernel_rfl) ?_ _
      clear e1 e2
      go_wp2
      exact ⟨⟨k + 1, by omega, by go_num, HF.out⟩, by simp [intOf]; omega⟩
     ·obtain ⟨hpx, hixr, hixo, T1⟩ := HC9.out
      have hTcur : Touch [] wv (w1) := HC9.out.2.2.2
      have hTc : Touch [] w1 (w1) := Touch.refl [] w1
      have hEb : Blk (w1) (wv.heap.size) [] 3 := HE1.out
      have hEE : wv.heap.size ≤ wv.heap.size := Nat.le_refl _
      have hixE : ∀ b ∈ ix.blocks, b ≠ wv.heap.size := HEx.out
      obtain ⟨g2, cap2, w2, hr2, hrow2, ht2, hg2⟩ := ids_append (c9 := m.idc) (HIDS.out _ hTcur) HNI.out.1 HNI.out.2 hEb
      have T2 : Touch [] wv w2 := hTcur.trans ht2 (fun y hy => Or.inr (by simp at hy; omega))
      have hcz := hTcur.size
      have hcz1 := hTc.size
      have hg2v : wv.heap.size ≤ g2 := by rcases hg2 with h9 | h9 <;> omega
      have hg2x : g2 ∉ ix.blocks := fun hx => by
       rcases hg2 with h9 | h9
       ·exact hixE g2 hx h9
       ·have h8 := hixr.lt g2 hx; omega
      have hixv : ∀ b ∈ ix.blocks, wv.heap.size ≤ b := HOV.out
      have hRM : RMapAt w2 { m with ix := ix, idb := some g2, idc := cap2 } := ⟨(hixr.touch hTc (by simp)).touch ht2 (fun b hb hx => hixE b hb (by simpa using hx)), hrow2, fun b hb hx => by injection hb with hb; subst hb; exact hg2x hx⟩
      have hOK : RMapOk { m with ix := ix, idb := some g2, idc := cap2 } := RMapOk.ix HOK.out hpx
      obtain ⟨htT, hC⟩ := HC.out
      have htl := hC.len
      have T2r : Touch [] wr w2 := HTW.out.trans T2 (by simp)
      have htlt := hC.ref.lt
      have hwz := HTW.out.size
      obtain ⟨g3, cap3, w3, hr3, e1, e2, hRT, hTa, hTb, hg3⟩ := (hC.ref.still T2r).push hRM hOK (fun b hb hx => by
       have h9 := htlt b hx
       rcases List.mem_append.1 hb with hb | hb
       ·have h8 := hixv b hb; omega
       ·have h8 : b = g2 := by simpa using hb
        omega) (by rw [htl]; omega)
      have hww := hC.touch.size
      have T2s := T2r.size
      have hTw : Touch [] w (w3.setCell ⟨t.t, 1, none⟩ (slV g3 (t.maps.length + 1) cap3)) := (hC.touch.trans T2r (by simp)).trans hTb (fun b hb => Or.inr (hC.own b (RT.mem_top hb)))
      have hF := hC.push HM.out.1 hpx hRT hTw (fun b hb => by have h9 := hixv b hb; omega) (by omega) (fun b hb => by rcases hg3 b hb with h9 | h9; exact Or.inl h9; exact Or.inr (by omega))
      have HF : Hid (∃ t', t'.t = T ∧ TCopyAt w (w3.setCell ⟨t.t, 1, none⟩ (slV g3 (t.maps.length + 1) cap3)) x t' m2 (k + 1)) := ⟨t.add g3 cap3 _, htT, hF⟩
      have HTa : Hid (Touch t.top wv w3) := (T2.mono (fun b hb => by cases hb)).trans hTa (fun b hb => Or.inl hb)
      have HTb : Hid (Touch t.top wv (w3.setCell ⟨t.t, 1, none⟩ (slV g3 (t.maps.length + 1) cap3))) := (T2.mono (fun b hb => by cases hb)).trans hTb (fun b hb => Or.inl hb)
      have HT2 := toHid T2
      dsimp only at hr3
      rw [htl] at hr3 HF HTb e1
      rw [htT] at HF HTb e1 e2
      unfold slV at hr3 e1 HF HTb
      rw [Option.map_some] at hr3
      rw [HTG.out] at hr3 e1
      generalize (g3.map fun b => (⟨b, 0, none⟩ : Addr)) = tg3 at hr3 HF HTb
      have HR2 := toHid hr2
      have HR3 := toHid hr3
      have HE := toHid (And.intro e1 e2)
      clear hpx hixr hixo T1 hTcur hTc hEb hEE hixE hr2 hrow2 ht2 hg2 T2 hcz hcz1 hg2v hg2x hixv hRM hOK htT hC htl T2r htlt hwz hr3 e1 e2 hRT hTa hTb hg3 hww T2s hTw hF
      refine step_append_known rfl (.tmp 30) (.tmp 32) 112 112 rfl (.slice (some ⟨wv.heap.size, 0, none⟩) 0 0) (.slice (some ⟨ib, 0, none⟩) m.ids.length m.idc) (by simp [Act.eval]) (by simp [Act.eval]) HR2.out ?_
      refine hK.out _ _ ?_ (fun hHeld => ?_)
      ·exact HV.out _ ((HT2.out).mono (fun b hb => by cases hb))
      clear hK K
      try simp only [Act.put, AP]
      refine tk 14 (v := ?_) rfl ?_ ?_
      rotate_left
      ·(intro w hSw; (try dsimp only at hSw); go_simp; try with_reducible rfl)
      simp only [Act.put, AP]
      refine wpAnyH_ready (rs := [4, 15]) (by kernel_rfl) (by simp) ?_
      refine (AllReadyH.cons rfl (fun K hK => ?_) (AllReadyH.cons rfl (fun K hK => ?_) AllReadyH.nil))
      ·have hq := HT.out (w2) (HT2.out)
       simp only [AP]
       go_simp
       refine hK.out _ _ ?_ (fun hHeld => ?_)
       ·exact HV.out _ ((HT2.out).mono (fun b hb => by cases hb))
       clear hK K
       try simp only [Act.put, AP]
       clear hq
       refine wpAnyH_ready (rs := [15]) (by kernel_rfl) (by simp) ?_
       refine (AllReadyH.cons rfl (fun K hK => ?_) AllReadyH.nil)
       simp only [AP]
       go_simp
       refine hK.out _ _ ?_ (fun hHeld => ?_)
       ·exact HV.out _ ((HT2.out.alloc _).mono (fun b hb => by cases hb))
       clear hK K
       try simp only [Act.put, AP]
       refine wpAnyH_ready (rs := [16]) (by kernel_rfl) (by simp) ?_
       refine (AllReadyH.cons rfl (fun K hK => ?_) AllReadyH.nil)
       refine step_append_known rfl (.tmp 24) (.tmp 35) 98 98 rfl (.slice tg k t.cap) (.slice (some ⟨w2.heap.size, 0, none⟩) 1 1) (by simp [Act.eval]) (by simp [Act.eval]) HR3.out ?_
       refine hK.out _ _ ?_ (fun hHeld => ?_)
       ·exact HV.out _ HTa.out
       clear hK K
       try simp only [Act.put, AP]
       refine tk 17 (v := ?_) rfl ?_ ?_
       rotate_left
       ·(intro w hSw; (try dsimp only at hSw); go_simp; try with_reducible rfl)
       simp only [Act.put, AP]
       refine tk 18 (v := ?_) rfl ?_ ?_
       rotate_left
       ·(intro w hSw; (try dsimp only at hSw); go_simp; try with_reducible rfl)
       simp only [Act.put, AP]
       obtain ⟨e1, e2⟩ := HE.out
       refine wpAnyH_ready (rs := [19]) (by kernel_rfl) (by simp) ?_
       refine (AllReadyH.cons rfl (fun K hK => ?_) AllReadyH.nil)
       simp only [AP]
       go_simp
       refine hK.out _ _ ?_ (fun hHeld => ?_)
       ·exact HV.out _ HTb.out
       clear hK K
       try simp only [Act.put, AP]
       refine wpAnyH_done (by kernel_rfl) ?_ _
       clear e1 e2
       go_wp2
       exact ⟨⟨k + 1, by omega, by go_num, HF.out⟩, by simp [intOf]; omega⟩
      ·simp only [AP]
       go_simp
       refine hK.out _ _ ?_ (fun hHeld => ?_)
       ·exact HV.out _ ((HT2.out.alloc _).mono (fun b hb => by cases hb))
       clear hK K
       try simp only [Act.put, AP]
       refine wpAnyH_ready (rs := [4]) (by kernel_rfl) (by simp) ?_
       refine (AllReadyH.cons rfl (fun K hK => ?_) AllReadyH.nil)
       have hq := HT.out ((w2.alloc (.cells #[.int .i64 m.kind, .int .i64 m.key, .int .i64 m.val, .int .i64 m.max, .pointer (some ⟨ix.r, 0, none⟩), .slice (some ⟨g2, 0, none⟩) m.ids.length cap2] 117))) (HT2.out.alloc _)
       simp only [AP]
       go_simp
       refine hK.out _ _ ?_ (fun hHeld => ?_)
       ·exact HV.out _ ((HT2.out.alloc _).mono (fun b hb => by cases hb))
       clear hK K
       try simp only [Act.put, AP]
       clear hq
       refine wpAnyH_ready (rs := [16]) (by kernel_rfl) (by simp) ?_
       refine (AllReadyH.cons rfl (fun K hK => ?_) AllReadyH.nil)
       refine step_append_known rfl (.tmp 24) (.tmp 35) 98 98 rfl (.slice tg k t.cap) (.slice (some ⟨w2.heap.size, 0, none⟩) 1 1) (by simp [Act.eval]) (by simp [Act.eval]) HR3.out ?_
       refine hK.out _ _ ?_ (fun hHeld => ?_)
       ·exact HV.out _ HTa.out
       clear hK K
       try simp only [Act.put, AP]
       refine tk 17 (v := ?_) rfl ?_ ?_
       rotate_left
       ·(intro w hSw; (try dsimp only at hSw); go_simp; try with_reducible rfl)
       simp only [Act.put, AP]
       refine tk 18 (v := ?_) rfl ?_ ?_
       rotate_left
       ·(intro w hSw; (try dsimp only at hSw); go_simp; try with_reducible rfl)
       simp only [Act.put, AP]
       obtain ⟨e1, e2⟩ := HE.out
       refine wpAnyH_ready (rs := [19]) (by kernel_rfl) (by simp) ?_
       refine (AllReadyH.cons rfl (fun K hK => ?_) AllReadyH.nil)
       simp only [AP]
       go_simp
       refine hK.out _ _ ?_ (fun hHeld => ?_)
       ·exact HV.out _ HTb.out
       clear hK K
       try simp only [Act.put, AP]
       refine wpAnyH_done (by kernel_rfl) ?_ _
       clear e1 e2
       go_wp2
       exact ⟨⟨k + 1, by omega, by go_num, HF.out⟩, by simp [intOf]; omega⟩
  ·obtain rfl : k = L := by omega
   obtain ⟨t, htT, hC⟩ := HI.out
   have HF : Hid (∃ t', Value.pointer (some ⟨T, 0, none⟩) = .pointer (some ⟨t'.t, 0, none⟩) ∧ TCopyAt w wr x t' m2 k) := ⟨t, by rw [htT], hC⟩
   clear htT hC HI
   go_wp2
   go_ret
   obtain ⟨t', h1, h2⟩ := HF.out
   exact ⟨t', by rw [← h1]; rfl, h2⟩
end Go.Proofs.YtmhhahmjkopjhaaGreat
end
section
namespace Go.Proofs.YtmhhahmjkopjhaaGreat
open Go.RowKit
theorem duo_copy {w0 w w1 w2 w3 w4 : World} {x t : PT} {s : Mem.MS} {y y2 : RT} {u u2 : Mem.RS} {c : Int} {C G O : Nat} {rs : List Mem.Reg} (h : Duo w0 w x s y u c) (hC : Mem.CopyAt w w1 s C G s.rs.length rs) (hCG : C ≠ G) (hC0 : w.heap.size ≤ C) (hG0 : w.heap.size ≤ G)
  (hR : Mem.RCopyAt w1 w2 u u2 O u.all.length) (hT : CopAt w2 w3 t C t.t x.ls) (hY : TCopyAt w3 w4 y y2 O y.maps.length) : Duo w w4 t ⟨C, some G, s.rs.length, rs, s.next⟩ y2 u2 c := by
 have hP := Mem.pair_copy (⟨h.p.mem, h.r.mem, fun b hb => (h.apart b (Or.inr hb)).2, fun b hb => h.own b (Or.inr hb), fun b hb => h.own' b (Or.inr hb), h.touch⟩ : Mem.Pair w0 w s u) hC hCG hC0 hG0 hR
 have hM1 := hC.mem h.p.mem hCG
 have hs1 : ∀ b ∈ (⟨C, some G, s.rs.length, rs, s.next⟩ : Mem.MS).blocks, b < w1.heap.size := hM1.lt
 have hu2 : ∀ b ∈ u2.blocks, b < w2.heap.size := hR.ref.lt
 have htl : ∀ b ∈ t.blocks, b < w3.heap.size := hT.tab.lt
 have z1 := hC.touch.size
 have z2 := hR.touch.size
 have z3 := hT.touch.size
 have z4 := hY.touch.size
 have hy2 : y2.ps = y.ps := by rw [hY.ps, show y.maps.length = y.ps.length by simp [RT.ps], List.take_length]
 have hk2 : y2.maps.map (fun m => (m.kind, m.key, m.val, m.max)) = y.maps.map (fun m => (m.kind, m.key, m.val, m.max)) := by rw [hY.keys, List.take_length]
 have hi2 : y2.maps.map RMap.ids = y.maps.map RMap.ids := by rw [hY.ids, List.take_length]
 refine ⟨⟨hT.tab.still hY.touch, hP.mem.touch (hT.touch.trans hY.touch (by simp)) (by simp), hT.mem, fun b hb hx => ?_⟩, ⟨hY.ref, hP.ref.touch (hT.touch.trans hY.touch (by simp)) (by simp), by rw [hY.mem, hR.m], fun b hb hx => ?_, fun i j id m' hm' hid => ?_⟩, h.rel.copy h.p.mem hC hR, by rw [hT.qs, PT.ls_qs, h.qs, hy2], by rw [hT.ds, PT.ls_ds, h.ds, hk2], fun b hb => ⟨fun hx => ?_, fun hx => ?_⟩, fun b hb => ?_, fun b hb => ?_, ((hC.touch.trans hR.touch (by simp)).trans hT.touch (by simp)).trans hY.touch (by simp), by rw [hy2]; exact h.clock⟩
 ·have := hT.own b hb
  have := hs1 b hx
  omega
 ·have := hY.own b hb
  have := hu2 b hx
  omega
 ·have h1 := congrArg (fun l => l[i]?) hi2
  have h2 := congrArg (fun l => l[i]?) hk2
  simp only [List.getElem?_map, hm', Option.map_some] at h1 h2
  cases hm : y.maps[i]? with
  | none => rw [hm] at h1; cases h1
  | some m =>
   rw [hm] at h1 h2
   simp only [Option.map_some, Option.some.injEq, Prod.mk.injEq] at h1 h2
   rw [h1] at hid
   obtain ⟨r, hr, e1, e2, e3, e4⟩ := h.r.ids i j id m hm hid
   have hlt := (List.getElem?_eq_some_iff.1 hr).1
   have hlk := hR.like id hlt
   rw [List.getD_eq_getElem?_getD (l := u.all), hr] at hlk
   have hlt2 : id < u2.all.length := by rw [hR.len]; exact hlt
   exact ⟨_, Mem.rgetD_of hlt2, by rw [hlk.live]; exact e1, by rw [hlk.base]; exact e2, by rw [hlk.bytes, h2.2.2.1]; exact e3, by rw [hlk.perm]; exact e4⟩
 ·have h1 := hY.own b hx
  rcases hb with hb | hb
  ·have := htl b hb
   omega
  ·have := hs1 b hb
   omega
 ·rcases hb with hb | hb
  ·have := hT.own b hb
   have := hu2 b hx
   omega
  ·have := hs1 b hb
   have := hR.own b hx
   omega
 ·rcases hb with hb | hb
  ·have := hT.own b hb
   omega
  ·exact hP.own b hb
 ·rcases hb with hb | hb
  ·have := hY.own b hb
   omega
  ·exact hP.own' b hb
end Go.Proofs.YtmhhahmjkopjhaaGreat
end
section
namespace Go.Proofs.YtmhhahmjkopjhaaGreat
open Go.RowKit
def Regs (ds : List MDef) (rs : List Mem.Reg) : Prop := ∀ (k : Nat) (d : MDef), ds[k]? = some d → ∀ sl : Nat, (sl : Int) < d.max → ∃ r ∈ rs, r.perm = 3 ∧ r.base = plI k sl ∧ (r.bytes.length : Int) = d.val
theorem plcs_of {ds : List MDef} : ∀ {k i sl : Nat} {d : MDef}, i < k → ds[i]? = some d → (sl : Int) < d.max → (plI i sl, d.val) ∈ plcs ds k := by
 intro k i sl d hi hd hs
 unfold plcs
 refine List.mem_flatMap.2 ⟨i, List.mem_range.2 hi, ?_⟩
 rw [hd]
 exact List.mem_map.2 ⟨sl, List.mem_range.2 (by omega), rfl⟩
theorem Regs.of_adds {ds : List MDef} {a b : List Mem.Reg × Nat} (h : PAdds (plcs ds ds.length) a b) (hv : ∀ d ∈ ds, 1 ≤ d.val) : Regs ds b.1 := fun k d hd sl hs => by
 have hk := (List.getElem?_eq_some_iff.1 hd).1
 obtain ⟨r, hr, id, ho, hn⟩ := h.facts.2.2.2.1 _ (plcs_of hk hd hs)
 have h1 := hv d (List.mem_of_getElem? hd)
 refine ⟨r, hr, hn.hperm, hn.hbase, ?_⟩
 rw [hn.hbytes]
 simp
 omega
theorem id_eq {w : World} {s : Mem.MS} (h : Mem.MemAt w s) {r r2 : Mem.Reg} (hr : r ∈ s.rs) (hr2 : r2 ∈ s.rs) (hid : r2.id = r.id) : r2 = r := by
 obtain ⟨i, hi, rfl⟩ := List.getElem_of_mem hr
 obtain ⟨j, hj, rfl⟩ := List.getElem_of_mem hr2
 have hp := List.pairwise_iff_getElem.1 h.ids
 rcases Nat.lt_trichotomy i j with hij | rfl | hij
 ·exact absurd hid.symm (hp i j hi hj hij)
 ·rfl
 ·exact absurd hid (hp j i hj hi hij)
theorem write_all {w w2 : World} {s s2 : Mem.MS} (h : Mem.MemAt w s) (h2 : Mem.MemAt w2 s2) {r : Mem.Reg} (hr : r ∈ s.rs) (hp : r.perm = 3) {vs : List Int} (hl : vs.length = r.bytes.length) (e : s2.rs = Mem.writeRs s.rs r.base vs) :
  (Mem.readE s2.rs r.base vs.length = 0 ∧ Mem.readV s2.rs r.base vs.length = vs) ∧
  (∀ r2 ∈ s.rs, r2.perm = 3 → r2.base ≠ r.base → Mem.readE s2.rs r2.base r2.bytes.length = 0 ∧ Mem.readV s2.rs r2.base r2.bytes.length = Mem.readV s.rs r2.base r2.bytes.length) := by
 have hw := (MemAt.write_at h hr hp hl).2
 rw [hw] at e
 have hm : Mem.layR r 0 vs ∈ s2.rs := by
  rw [e]
  unfold Mem.updR
  exact List.mem_map.2 ⟨r, hr, by rw [if_pos rfl]⟩
 have hb := layR_all hl
 constructor
 ·have := MemAt.read_at h2 hm hp
  rw [hb] at this
  exact this
 ·intro r2 hr2 hp2 hne
  have hid : r2.id ≠ r.id := fun hx => hne (by rw [id_eq h hr hr2 hx])
  have hm2 : r2 ∈ s2.rs := by
   rw [e]
   unfold Mem.updR
   exact List.mem_map.2 ⟨r2, hr2, by rw [if_neg hid]⟩
  have h3 := MemAt.read_at h2 hm2 hp2
  have h4 := MemAt.read_at h hr2 hp2
  exact ⟨h3.1, by rw [h3.2, h4.2]⟩
theorem Regs.write {w : World} {s : Mem.MS} {ds : List MDef} (h : Mem.MemAt w s) (hg : Regs ds s.rs) {r : Mem.Reg} (hr : r ∈ s.rs) (hp : r.perm = 3) {vs : List Int} (hl : vs.length = r.bytes.length) : Regs ds (Mem.writeRs s.rs r.base vs) := fun k d hd sl hs => by
 obtain ⟨r2, h1, h2, h3, h4⟩ := hg k d hd sl hs
 rw [(MemAt.write_at h hr hp hl).2]
 unfold Mem.updR
 by_cases he : r2.id = r.id
 ·obtain rfl := id_eq h hr h1 he
  refine ⟨Mem.layR r2 0 vs, List.mem_map.2 ⟨r2, h1, by rw [if_pos rfl]⟩, h2, h3, ?_⟩
  rw [layR_all hl, hl, h4]
 ·exact ⟨r2, List.mem_map.2 ⟨r2, h1, by rw [if_neg he]⟩, h2, h3, h4⟩
theorem PT.at_ds {x : PT} {k : Nat} {d : MDef} {q : PX} (hd : x.ds[k]? = some d) (hq : x.qs[k]? = some q) : ∃ m, x.maps[k]? = some m ∧ m.d = d ∧ m.q = q := by
 unfold PT.ds at hd
 unfold PT.qs at hq
 rw [List.getElem?_map] at hd hq
 cases hm : x.maps[k]? with
 | none => rw [hm] at hd; cases hd
 | some m =>
  rw [hm] at hd hq
  exact ⟨m, rfl, by injection hd, by injection hq⟩
structure Solo (w0 w : World) (x : PT) (s : Mem.MS) (ds : List MDef) (qs : List PX) : Prop where
 p : PBoth w x s
 regs : Regs ds s.rs
 ds : x.ds = ds
 qs : x.qs = qs
 own : ∀ b, b ∈ x.blocks ∨ b ∈ s.blocks → w0.heap.size ≤ b
 touch : Touch [] w0 w
theorem Solo.still {w0 w w' : World} {x : PT} {s : Mem.MS} {ds : List MDef} {qs : List PX} (h : Solo w0 w x s ds qs) (ht : Touch [] w w') : Solo w0 w' x s ds qs :=
 ⟨h.p.still ht, h.regs, h.ds, h.qs, h.own, h.touch.trans ht (by simp)⟩
theorem Solo.step {w0 w w' : World} {x x' : PT} {s : Mem.MS} {ds : List MDef} {qs qs' : List PX} (h : Solo w0 w x s ds qs) (st : PStep w w' x x' qs') : Solo w0 w' x' s ds qs' :=
 ⟨h.p.step st, h.regs, by rw [st.ds, h.ds], st.qs, fun b hb => by
  have := h.touch.size
  rcases hb with hb | hb
  ·rcases st.blocks b hb with h1 | h1
   ·exact h.own b (Or.inl h1)
   ·omega
  ·exact h.own b (Or.inr hb), h.touch.trans st.touch (fun b hb => Or.inr (h.own b (Or.inl hb)))⟩
theorem Solo.upd {w0 w w' : World} {x x' : PT} {s : Mem.MS} {ds : List MDef} {qs qs' : List PX} {rs : List Mem.Reg} (h : Solo w0 w x s ds qs) (st : PUSt w w' x x' s qs' rs) (hg : Regs ds rs) : Solo w0 w' x' { s with rs := rs } ds qs' :=
 ⟨st.both, hg, by rw [st.ds, h.ds], st.qs, fun b hb => by
  have := h.touch.size
  rcases hb with hb | hb
  ·rcases st.blocks b hb with h1 | h1
   ·exact h.own b (Or.inl h1)
   ·omega
  ·rw [st.sblk] at hb
   exact h.own b (Or.inr hb), h.touch.trans st.touch (fun b hb => Or.inr (h.own b (List.mem_append.1 hb)))⟩
theorem Solo.new {w0 w w' : World} {x : PT} {s s' : Mem.MS} {ds : List MDef} (h : PNewAt w w' x s s' ds) (hv : ∀ d ∈ ds, 1 ≤ d.val) (h0 : Touch [] w0 w) (hs : ∀ b ∈ s.blocks, w0.heap.size ≤ b) : Solo w0 w' x s' ds (ds.map newQ) :=
 ⟨h.both, Regs.of_adds h.adds hv, h.ds, h.qs, fun b hb => by
  have := h0.size
  rcases hb with hb | hb
  ·have := h.own b hb; omega
  ·rcases h.mown b hb with h1 | h1
   ·exact hs b h1
   ·omega, h0.trans h.touch (fun b hb => Or.inr (hs b hb))⟩
theorem Solo.read {w0 w : World} {x : PT} {s : Mem.MS} {ds : List MDef} {qs : List PX} (h : Solo w0 w x s ds qs) {k : Nat} {d : MDef} (hd : ds[k]? = some d) {sl : Nat} (hs : (sl : Int) < d.max) :
  Mem.readE s.rs (plI k sl) d.val = 0 ∧ ((Mem.readV s.rs (plI k sl) d.val).length : Int) = d.val ∧ ∀ y ∈ Mem.readV s.rs (plI k sl) d.val, 0 ≤ y ∧ y ≤ 255 := by
 obtain ⟨r, hr, hp, hb, hl⟩ := h.regs k d hd sl hs
 have := MemAt.read_at h.p.mem hr hp
 rw [hb, hl] at this
 rw [this.1, this.2]
 exact ⟨rfl, hl, (h.p.mem.ok r hr).byte⟩
theorem Solo.write {w0 w w2 : World} {x : PT} {s s2 : Mem.MS} {ds : List MDef} {qs : List PX} (h : Solo w0 w x s ds qs) (h2 : Mem.MemAt w2 s2) {k : Nat} {d : MDef} (hd : ds[k]? = some d) {sl : Nat} (hs : (sl : Int) < d.max) {vs : List Int} (hl : (vs.length : Int) = d.val) (e : s2.rs = Mem.writeRs s.rs (plI k sl) vs) :
  Mem.readV s2.rs (plI k sl) d.val = vs ∧ ∀ (k' : Nat) (d' : MDef) (sl' : Nat), ds[k']? = some d' → (sl' : Int) < d'.max → plI k' sl' ≠ plI k sl → Mem.readV s2.rs (plI k' sl') d'.val = Mem.readV s.rs (plI k' sl') d'.val := by
 obtain ⟨r, hr, hp, hb, hrl⟩ := h.regs k d hd sl hs
 rw [← hb] at e
 obtain ⟨e1, e2⟩ := write_all h.p.mem h2 hr hp (vs := vs) (by omega) e
 rw [hb, hl] at e1
 refine ⟨e1.2, fun k' d' sl' hd' hs' hne => ?_⟩
 obtain ⟨r2, h1, h2, h3, h4⟩ := h.regs k' d' hd' sl' hs'
 have := (e2 r2 h1 h2 (by rw [h3, hb]; exact hne)).2
 rw [h3, h4] at this
 exact this
theorem Solo.writes {w0 w : World} {x : PT} {s : Mem.MS} {ds : List MDef} {qs : List PX} (h : Solo w0 w x s ds qs) {k : Nat} {d : MDef} (hd : ds[k]? = some d) {sl : Nat} (hs : (sl : Int) < d.max) {vs : List Int} (hl : (vs.length : Int) = d.val) :
  Mem.writeE s.rs (plI k sl) vs = 0 ∧ Regs ds (Mem.writeRs s.rs (plI k sl) vs) := by
 obtain ⟨r, hr, hp, hb, hrl⟩ := h.regs k d hd sl hs
 rw [← hb]
 exact ⟨(MemAt.write_at h.p.mem hr hp (by omega)).1, Regs.write h.p.mem h.regs hr hp (by omega)⟩
theorem load_read {rs : List Mem.Reg} {p n : Int} (h0 : 0 < n) (hw : Mem.wordB n = true) (hr : Mem.readE rs p n = 0) : Mem.loadE rs p n = 0 ∧ Mem.loadV rs p n = Mem.num (fun j => (Mem.readV rs p n).getD j 0) n.toNat := by
 unfold Mem.readE at hr
 rw [if_neg (by omega), if_neg (by omega)] at hr
 unfold Mem.loadE Mem.loadV Mem.readV
 rw [if_pos hw, if_pos ⟨hw, hr⟩, if_neg (by omega)]
 exact ⟨hr, rfl⟩
end Go.Proofs.YtmhhahmjkopjhaaGreat
end
section
namespace Go.Proofs.YtmhhahmjkopjhaaGreat
open Go.RowKit
theorem KeyAt.new1 (w : World) (a : Int) (h : 0 ≤ a ∧ a ≤ 255) : KeyAt (w.alloc (.cells #[.int .u8 a] 5)) (some ⟨w.heap.size, 0, none⟩) 1 [a] := by
 have hB := Blk.newA w #[.int .u8 a] _ 5 rfl
 refine ⟨rfl, by simpa using h, by simp, fun _ => ⟨_, 0, rfl, fun j hj => ?_⟩⟩
 simp at hj
 subst hj
 exact hB.cell rfl
theorem KeyAt.new2 (w : World) (a b : Int) (h : 0 ≤ a ∧ a ≤ 255) (h' : 0 ≤ b ∧ b ≤ 255) : KeyAt (w.alloc (.cells #[.int .u8 a, .int .u8 b] 5)) (some ⟨w.heap.size, 0, none⟩) 2 [a, b] := by
 have hB := Blk.newA w #[.int .u8 a, .int .u8 b] _ 5 rfl
 refine ⟨rfl, by simpa using ⟨h, h'⟩, by simp, fun _ => ⟨_, 0, rfl, fun j hj => ?_⟩⟩
 simp at hj
 have : j = 0 ∨ j = 1 := by omega
 rcases this with rfl | rfl <;> exact hB.cell rfl
theorem DefsAt.one (w : World) (d : MDef) : DefsAt (w.alloc (.cells d.cells.toArray 36)) (some ⟨w.heap.size, 0, none⟩) 1 [d] := by
 have hB := Blk.newA w d.cells.toArray _ 36 rfl
 refine ⟨rfl, by omega, fun _ => ⟨_, 0, rfl, fun i d' hd j v hv => ?_⟩⟩
 match i, hd with
 | 0, hd =>
  simp at hd
  subst hd
  simp only [Nat.zero_mul, Nat.zero_add]
  exact hB.cell hv
theorem FreeAll.nil (ds : List MDef) (h : ds.length ≤ 8) (h2 : ∀ d ∈ ds, 0 ≤ d.max ∧ d.max ≤ 64) : roomOk ds [] := by
 have := maxSum_bd ds h2
 exact ⟨fun i d _ _ s _ => by simp [Mem.busyB], by simp; omega⟩
def fD : MDef := ⟨1, 1, 2, 2⟩
def fQ : PX := ((newQ fD).putA [7] 0).2
theorem upd_eqs {x : PT} {ds : List MDef} {qs : List PX} (h1 : x.ds = ds) (h2 : x.qs = qs) {k : Nat} {d : MDef} {q : PX} (hd : ds[k]? = some d) (hq : qs[k]? = some q) {bs vs : List Int} {fl : Int} (hb : (bs.length : Int) = d.key) (hv : (vs.length : Int) = d.val) :
  updP x k bs vs fl = if (q.putA bs fl).1.2.2 = 0 then (0, qs.set k (q.putA bs fl).2, some (plI k (q.putA bs fl).1.1)) else ((q.putA bs fl).1.2.2, qs.set k (q.putA bs fl).2, none) := by
 subst h1
 subst h2
 obtain ⟨m, hm, hmd, hmq⟩ := PT.at_ds hd hq
 subst hmd
 subst hmq
 have hc : chkP x.ds k bs.length = 0 := by
  unfold chkP
  rw [if_pos ⟨by omega, by have := (List.getElem?_eq_some_iff.1 hd).1; omega⟩, Int.toNat_natCast, hd]
  dsimp only
  rw [if_pos hb]
 unfold updP
 rw [if_pos hc, Int.toNat_natCast, hm]
 dsimp only
 rw [if_pos hv]
theorem look_eqs {x : PT} {ds : List MDef} {qs : List PX} (h1 : x.ds = ds) (h2 : x.qs = qs) {k : Nat} {d : MDef} {q : PX} (hd : ds[k]? = some d) (hq : qs[k]? = some q) {bs : List Int} (hb : (bs.length : Int) = d.key) :
  lookP x k bs = ((match (q.findA bs).1 with
   | some s => plI k (s : Int)
   | none => 0, 0), qs.set k (q.findA bs).2) := by
 subst h1
 subst h2
 obtain ⟨m, hm, hmd, hmq⟩ := PT.at_ds hd hq
 subst hmd
 subst hmq
 have hc : chkP x.ds k bs.length = 0 := by
  unfold chkP
  rw [if_pos ⟨by omega, by have := (List.getElem?_eq_some_iff.1 hd).1; omega⟩, Int.toNat_natCast, hd]
  dsimp only
  rw [if_pos hb]
 unfold lookP
 rw [if_pos hc, Int.toNat_natCast, hq] <;> rfl
theorem first_any (w : World) : Calls Tryz.prog 7 #[] w fun e w' => e = .returned (.bool true) ∧ Touch [] w w' := by
 go_enter Tryz.func7, Tryz.ntmps7
 go_wp2_with fail
 refine (Mem.newM_any _).mono ?_
 rintro e w2 ⟨rfl, hm, ht⟩
 go_wp2_with fail
 have HM := toHid (And.intro hm ht)
 have ht2 := (Touch.refl [] w2).alloc (.cells fD.cells.toArray 36)
 have H1 := toHid (pnew_any (hm.touch ht2 (by simp)) (by show 0 ≤ 1000000; omega) (sc := 1) (DefsAt.one w2 fD))
 clear hm ht ht2
 refine Calls.mono H1.out ?_
 rintro e w3 hp
 have hp : ∃ x s', e = .returned (.tuple #[.pointer (some ⟨x.t, 0, none⟩), .int .i64 0]) ∧ s'.m = w.heap.size ∧ Solo w w3 x s' [fD] [newQ fD] := by
  rcases hp with hp | hp | ⟨_, _, x, s', he, hN⟩
  ·exact absurd hp.1 (by decide)
  ·exact absurd (FreeAll.nil [fD] (by simp) (by decide)) hp.2.1
  ·exact ⟨x, s', he, hN.m, Solo.new hN (by decide) (HM.out.2.trans ((Touch.refl [] w2).alloc _) (by simp)) (fun b hb => by
    have : b = w.heap.size := by simpa [Mem.MS.blocks, Mem.MS.new] using hb
    omega)⟩
 obtain ⟨x, s, rfl, hsm, hS⟩ := hp
 have HS := toHid (And.intro hS hsm)
 clear hS hsm H1 HM
 go_wp2_with fail
 have ht3 := ((Touch.refl [] w3).alloc (.cells #[.int .u8 7] 5)).trans ((Touch.refl [] _).alloc (.cells #[.int .u8 1, .int .u8 2] 5)) (S' := []) (by simp)
 have hS3 := HS.out.1.still ht3
 have hk7 := (KeyAt.new1 w3 7 (by decide)).touch ((Touch.refl [] _).alloc (.cells #[.int .u8 1, .int .u8 2] 5))
 have hxb : ∀ b off, (some ⟨w3.heap.size, 0, none⟩ : Option Addr) = some ⟨b, off, none⟩ → b ∉ x.blocks := fun b off e hx => by
  injection e with e
  injection e with e
  have := HS.out.1.p.tab.lt b hx
  omega
 have hxb2 : ∀ b off, (some ⟨w3.heap.size + 1, 0, none⟩ : Option Addr) = some ⟨b, off, none⟩ → b ∉ x.blocks := fun b off e hx => by
  injection e with e
  injection e with e
  have := HS.out.1.p.tab.lt b hx
  omega
 have hsz : (w3.alloc (.cells #[.int .u8 7] 5)).heap.size = w3.heap.size + 1 := World.size_alloc _ _
 have hv12 := KeyAt.new2 (w3.alloc (.cells #[.int .u8 7] 5)) 1 2 (by decide) (by decide)
 rw [hsz] at hv12
 have H1 := toHid (pupdate_any hS3.p 0 hk7 1 (by omega) (fun b off e _ => hxb b off e) hv12 2 (fun b off e _ => hxb2 b off e) 0 (by omega))
 rw [show updP x 0 [7] [1, 2] 0 = (0, [fQ], some (plI 0 0)) from (upd_eqs HS.out.1.ds HS.out.1.qs (k := 0) (d := fD) (q := newQ fD) rfl rfl rfl rfl).trans rfl] at H1
 have HS3 := toHid hS3
 clear ht3 hS3 hk7 hxb hxb2 hsz hv12
 refine Calls.mono H1.out ?_
 rintro e w4 ⟨rfl, x1, st⟩
 replace st : PUSt _ w4 x x1 s [fQ] (Mem.writeRs s.rs (plI 0 0) [1, 2]) := st
 obtain ⟨he, hg⟩ := HS3.out.writes (k := 0) (d := fD) rfl (sl := 0) (by decide) (vs := [1, 2]) rfl
 rw [show updE s.rs [1, 2] (0, [fQ], some (plI 0 0)) = 0 from he]
 have HS4 := toHid (HS3.out.upd st hg)
 have HV := toHid (HS3.out.write st.both.mem (k := 0) (d := fD) rfl (sl := 0) (by decide) (vs := [1, 2]) rfl rfl).1
 have HE : Hid (x1.t = x.t) := st.t
 clear st he hg H1
 dsimp only at HV
 generalize Mem.writeRs s.rs (plI 0 0) [1, 2] = rs1 at *
 go_wp2_with fail
 have ht4 := (Touch.refl [] w4).alloc (.cells #[.int .u8 7] 5)
 have hS4 := HS4.out.still ht4
 have H1 := toHid (plookup_any hS4.p.tab 0 (KeyAt.new1 w4 7 (by decide)) 1 (by omega))
 rw [show lookP x1 0 [7] = ((137438953472, 0), [(fQ.findA [7]).2]) from (look_eqs hS4.ds hS4.qs (k := 0) (d := fD) (q := fQ) rfl rfl rfl).trans rfl, HE.out] at H1
 have HS5 := toHid hS4
 clear ht4 hS4 HS4 HS3
 refine Calls.mono H1.out ?_
 rintro e w5 ⟨rfl, x2, st⟩
 have HS6 := toHid (HS5.out.step st)
 clear st H1 HS5
 have H1 := toHid (Mem.load_any HS6.out.p.mem 137438953472 2 (by omega) (by omega))
 have hl := load_read (n := 2) (by omega) (by decide) (HS6.out.read (k := 0) (d := fD) rfl (sl := 0) (by decide)).1
 rw [show Mem.loadE rs1 137438953472 2 = 0 from hl.1, show Mem.loadV rs1 137438953472 2 = 513 from hl.2.trans (by show Mem.num (fun j => (Mem.readV rs1 (plI ((0 : Nat) : Int) ((0 : Nat) : Int)) 2).getD j 0) 2 = 513; rw [show Mem.readV rs1 (plI ((0 : Nat) : Int) ((0 : Nat) : Int)) 2 = [1, 2] from HV.out]; rfl)] at H1
 rw [show ({ s with rs := rs1 } : Mem.MS).m = w.heap.size from HS.out.2] at H1
 clear hl
 go_wp2_with fail
 refine Calls.mono H1.out ?_
 rintro e w6 ⟨rfl, k, rfl⟩
 have HT := toHid (HS6.out.touch.trans ((Touch.refl [] w5).drewN k) (by simp))
 clear H1 HS6
 go_wp2
 go_ret
 exact ⟨rfl, HT.out⟩
end Go.Proofs.YtmhhahmjkopjhaaGreat
end
section
namespace Go.Proofs.YtmhhahmjkopjhaaGreat
open Go.ChangeShapes Go.WideShapes Go.ChangeAt Go.RowKit
theorem laidOut : laidOutB Tryz.prog = true := by kernel_rfl
theorem cellsOp : Tryz.prog.cellsOf 41 = 5 := by kernel_rfl
theorem cellsDef : Tryz.prog.cellsOf 36 = 4 := by kernel_rfl
theorem cellTypesOp : Tryz.prog.cellTypes Tryz.prog.depth 41 = some [3, 3, 39, 39, 23] := by kernel_rfl
theorem cellTypesDef : Tryz.prog.cellTypes Tryz.prog.depth 36 = some [34, 3, 3, 3] := by kernel_rfl
theorem cell_int {P : Program} {w : World} {r : Reach} {base : Nat} {t : TypeId} {v : Value} {k : IntKind} (ht : P.underlying t = some (.int k)) (h : Cell.okWide P w r base t v) : ∃ n, v = .int k n ∧ k.has n := by
 simp only [Cell.okWide, ht] at h
 cases v <;> simp_all [Cell.ok]
theorem cell_slice {P : Program} {w : World} {r : Reach} {base : Nat} {t e : TypeId} {v : Value} (ht : P.underlying t = some (.slice e)) (h : Cell.okWide P w r base t v) : ∃ a len cap, v = .slice a len cap := by
 simp only [Cell.okWide, ht] at h
 cases v <;> simp_all [Cell.ok]
theorem int_open {P : Program} {w : World} {r : Reach} {base : Nat} {t : TypeId} {v : Value} {k : IntKind} (ht : P.underlying t = some (.int k)) (h : Value.okWide P w r base t v) : ∃ n, v = .int k n ∧ k.has n := by
 simp only [Value.okWide, ht] at h
 exact cell_int ht h
theorem slice_open {P : Program} {w : World} {r : Reach} {base : Nat} {t e : TypeId} {v : Value} (ht : P.underlying t = some (.slice e)) (h : Value.okWide P w r base t v) : ∃ a len cap, v = .slice a len cap := by
 simp only [Value.okWide, ht] at h
 exact cell_slice ht h
theorem has_i64 {n : Int} (h : IntKind.i64.has n) : -9223372036854775808 ≤ n ∧ n ≤ 9223372036854775807 := by
 simp [IntKind.has, IntKind.min, IntKind.max, IntKind.signed, IntKind.bits] at h
 omega
theorem has_u64 {n : Int} (h : IntKind.u64.has n) : 0 ≤ n ∧ n ≤ 18446744073709551615 := by
 simp [IntKind.has, IntKind.min, IntKind.max, IntKind.signed, IntKind.bits] at h
 omega
theorem val_i64 {W : World} {base : Nat} {v : Value} (h : Value.okWide Tryz.prog W .any base 3 v) : ∃ n, v = .int .i64 n ∧ -9223372036854775808 ≤ n ∧ n ≤ 9223372036854775807 := by
 obtain ⟨n, rfl, hn⟩ := int_open Tryz.underlying3 h
 exact ⟨n, rfl, has_i64 hn⟩
theorem val_u64 {W : World} {base : Nat} {v : Value} (h : Value.okWide Tryz.prog W .any base 23 v) : ∃ n, v = .int .u64 n ∧ 0 ≤ n ∧ n ≤ 18446744073709551615 := by
 obtain ⟨n, rfl, hn⟩ := int_open Tryz.underlying23 h
 exact ⟨n, rfl, has_u64 hn⟩
theorem wf_u64 {n : Int} (h : (Lit.int .u64 n).wf = true) : 0 ≤ n ∧ n ≤ 18446744073709551615 := by
 simp [Lit.wf, IntKind.min, IntKind.max, IntKind.signed, IntKind.bits] at h
 omega
theorem wf_i64 {n : Int} (h : (Lit.int .i64 n).wf = true) : -9223372036854775808 ≤ n ∧ n ≤ 9223372036854775807 := by
 simp [Lit.wf, IntKind.min, IntKind.max, IntKind.signed, IntKind.bits] at h
 omega
theorem wf_u8 {n : Int} (h : (Lit.int .u8 n).wf = true) : 0 ≤ n ∧ n ≤ 255 := by
 simp [Lit.wf, IntKind.min, IntKind.max, IntKind.signed, IntKind.bits] at h
 omega
theorem five {cs : Array Value} (h : cs.size = 5) : ∃ c0 c1 c2 c3 c4, cs = #[c0, c1, c2, c3, c4] := by
 obtain ⟨l⟩ := cs
 match l, h with
 | [c0, c1, c2, c3, c4], _ => exact ⟨c0, c1, c2, c3, c4, rfl⟩
theorem four {cs : Array Value} (h : cs.size = 4) : ∃ c0 c1 c2 c3, cs = #[c0, c1, c2, c3] := by
 obtain ⟨l⟩ := cs
 match l, h with
 | [c0, c1, c2, c3], _ => exact ⟨c0, c1, c2, c3, rfl⟩
theorem op_cells {P : Program} {w : World} {r : Reach} {base : Nat} {t3 tb tu e : TypeId} (u3 : P.underlying t3 = some (.int .i64)) (uu : P.underlying tu = some (.int .u64)) (ub : P.underlying tb = some (.slice e))
  {c0 c1 c2 c3 c4 : Value} (hc : ∀ (i : Nat) v, (#[c0, c1, c2, c3, c4] : Array Value)[i]? = some v → ∃ u, ([t3, t3, tb, tb, tu] : List TypeId)[i % 5]? = some u ∧ Cell.okWide P w r base u v) : ∃ o : OpT, (.agg #[c0, c1, c2, c3, c4]) = opT o := by
 obtain ⟨x0, hu0, h0⟩ := hc 0 c0 rfl
 obtain ⟨x1, hu1, h1⟩ := hc 1 c1 rfl
 obtain ⟨x2, hu2, h2⟩ := hc 2 c2 rfl
 obtain ⟨x3, hu3, h3⟩ := hc 3 c3 rfl
 obtain ⟨x4, hu4, h4⟩ := hc 4 c4 rfl
 simp at hu0 hu1 hu2 hu3 hu4
 subst hu0 hu1 hu2 hu3 hu4
 obtain ⟨k0, rfl, _⟩ := cell_int u3 h0
 obtain ⟨m0, rfl, _⟩ := cell_int u3 h1
 obtain ⟨ka, kl, kc, rfl⟩ := cell_slice ub h2
 obtain ⟨va, vl, vc, rfl⟩ := cell_slice ub h3
 obtain ⟨f0, rfl, _⟩ := cell_int uu h4
 exact ⟨⟨k0, m0, ka, kl, kc, [], va, vl, vc, [], f0⟩, rfl⟩
theorem op_open {W : World} {base : Nat} {v : Value} (h : Value.okWide Tryz.prog W .any base 41 v) : ∃ o : OpT, v = opT o := by
 simp only [Value.okWide, Tryz.underlying41] at h
 obtain ⟨cs, rfl, hsz, ts, hts, _, hc⟩ := h
 rw [cellTypesOp] at hts
 injection hts with hts
 subst hts
 rw [cellsOp] at hsz
 obtain ⟨c0, c1, c2, c3, c4, rfl⟩ := five hsz
 exact op_cells Tryz.underlying3 Tryz.underlying23 Tryz.underlying39 hc
theorem def_cells {P : Program} {w : World} {r : Reach} {base : Nat} {tk t3 : TypeId} (uk : P.underlying tk = some (.int .i64)) (u3 : P.underlying t3 = some (.int .i64))
  {c0 c1 c2 c3 : Value} (hc : ∀ (i : Nat) v, (#[c0, c1, c2, c3] : Array Value)[i]? = some v → ∃ u, ([tk, t3, t3, t3] : List TypeId)[i % 4]? = some u ∧ Cell.okWide P w r base u v) : ∃ d : MDef, (.agg #[c0, c1, c2, c3]) = Value.agg d.cells.toArray := by
 obtain ⟨x0, hu0, h0⟩ := hc 0 c0 rfl
 obtain ⟨x1, hu1, h1⟩ := hc 1 c1 rfl
 obtain ⟨x2, hu2, h2⟩ := hc 2 c2 rfl
 obtain ⟨x3, hu3, h3⟩ := hc 3 c3 rfl
 simp at hu0 hu1 hu2 hu3
 subst hu0 hu1 hu2 hu3
 obtain ⟨a, rfl, _⟩ := cell_int uk h0
 obtain ⟨b, rfl, _⟩ := cell_int u3 h1
 obtain ⟨c, rfl, _⟩ := cell_int u3 h2
 obtain ⟨d, rfl, _⟩ := cell_int u3 h3
 exact ⟨⟨a, b, c, d⟩, rfl⟩
theorem def_open {W : World} {base : Nat} {v : Value} (h : Value.okWide Tryz.prog W .any base 36 v) : ∃ d : MDef, v = .agg d.cells.toArray := by
 simp only [Value.okWide, Tryz.underlying36] at h
 obtain ⟨cs, rfl, hsz, ts, hts, _, hc⟩ := h
 rw [cellTypesDef] at hts
 injection hts with hts
 subst hts
 rw [cellsDef] at hsz
 obtain ⟨c0, c1, c2, c3, rfl⟩ := four hsz
 exact def_cells Tryz.underlying34 Tryz.underlying3 hc
structure ScriptT (w : World) (sa : Option Addr) (n : Nat) (f : Nat → OpT) : Prop where
 small : n ≤ 9223372036854775807
 at_ : ∀ j, j < n → ∃ b off, sa = some ⟨b, off, none⟩ ∧ (f j).Ok w ∧ ∀ r v, (f j).cells[r]? = some v → w.cell? ⟨b, off + j * 5 + r, none⟩ = some v
theorem OpT.Ok.touch {w w' : World} {o : OpT} (h : o.Ok w) (ht : Touch [] w w') : o.Ok w' := ⟨h.k0, h.k1, h.m0, h.m1, h.f0, h.f1, h.key.touch ht, h.val.touch ht, h.kcap⟩
section
variable {H : Type} {enc : TypeId × Value → H} {W : World}
theorem key_in {m : Nat} {v : Value} {x : DataW H × List MemPlace} (h : DataW.trod enc Tryz.prog W 0 (fun _ => true) true m 39 [v] = some x) : ∃ sa sl sc bs, v = .slice sa sl sc ∧ KeyAt W sa sl bs ∧ sl ≤ sc := by
 rcases open_ints Tryz.underlying39 Tryz.underlying5 (by kernel_rfl) h with ⟨hcs, _⟩ | ⟨a, l, c, zs, hcs, _, hl, hm, hz, _, hcell, hwz⟩
 ·simp at hcs
  exact ⟨none, 0, 0, [], hcs, ⟨rfl, by simp, by simp, by simp⟩, Nat.le_refl _⟩
 ·simp at hcs
  have hz' : zs.length = c := by simpa using hz
  unfold maxLen at hm
  have hlen : (zs.take l).length = l := by simp; omega
  refine ⟨some a, l, c, zs.take l, hcs, ⟨hlen.symm, fun y hy => wf_u8 (hwz y (List.mem_of_mem_take hy)), by omega, fun hp => ?_⟩, hl⟩
  obtain ⟨b, off, spot⟩ := a
  have hc := hcell 0 (by omega)
  have hspot : spot = none := by simpa [Addr.add] using World.cell?_spot hc
  subst hspot
  refine ⟨b, off, rfl, fun j hj => ?_⟩
  have hjl : j < l := by omega
  have hj' := hcell j (by omega)
  rw [Addr.add_lit] at hj'
  rw [hj', List.getD_eq_getElem?_getD, List.getD_eq_getElem?_getD, List.getElem?_take, if_pos hjl]
theorem op_at {m : Nat} {cs : List Value} {x : DataW H × List MemPlace} (h : DataW.trod enc Tryz.prog W 0 (fun _ => true) true m 41 cs = some x) : ∃ o : OpT, o.Ok W ∧ cs = o.cells := by
 obtain ⟨xs, k, _, _, hl, hxl, hf⟩ := DataW.trod_struct Tryz.underlying41 h
 rw [cellsOp] at hl
 match cs, hl with
 | [u0, u1, u2, u3, u4], _ =>
  have g0 : DataW.trod enc Tryz.prog W 0 (fun _ => true) true k 3 (List.take (Tryz.prog.cellsOf 3) (List.drop 0 [u0, u1, u2, u3, u4])) = xs[0]? := hf 0 _ rfl
  have g1 : DataW.trod enc Tryz.prog W 0 (fun _ => true) true k 3 (List.take (Tryz.prog.cellsOf 3) (List.drop 1 [u0, u1, u2, u3, u4])) = xs[1]? := hf 1 _ rfl
  have g2 : DataW.trod enc Tryz.prog W 0 (fun _ => true) true k 39 (List.take (Tryz.prog.cellsOf 39) (List.drop 2 [u0, u1, u2, u3, u4])) = xs[2]? := hf 2 _ rfl
  have g3 : DataW.trod enc Tryz.prog W 0 (fun _ => true) true k 39 (List.take (Tryz.prog.cellsOf 39) (List.drop 3 [u0, u1, u2, u3, u4])) = xs[3]? := hf 3 _ rfl
  have g4 : DataW.trod enc Tryz.prog W 0 (fun _ => true) true k 23 (List.take (Tryz.prog.cellsOf 23) (List.drop 4 [u0, u1, u2, u3, u4])) = xs[4]? := hf 4 _ rfl
  have k3 : Tryz.prog.cellsOf 3 = 1 := by kernel_rfl
  have kb : Tryz.prog.cellsOf 39 = 1 := by kernel_rfl
  have ku : Tryz.prog.cellsOf 23 = 1 := by kernel_rfl
  simp only [k3, kb, ku, List.drop_succ_cons, List.drop_zero, List.take_succ_cons, List.take_zero] at g0 g1 g2 g3 g4
  match xs, hxl with
  | [x0, x1, x2, x3, x4], _ =>
   obtain ⟨n0, e0, _, w0⟩ := DataW.trod_int Tryz.underlying3 (show _ = some x0 from g0)
   obtain ⟨n1, e1, _, w1⟩ := DataW.trod_int Tryz.underlying3 (show _ = some x1 from g1)
   obtain ⟨ka, kl, kc, kb, e2, hk, hkc⟩ := key_in (show _ = some x2 from g2)
   obtain ⟨va, vl, vc, vb, e3, hv, hvc⟩ := key_in (show _ = some x3 from g3)
   obtain ⟨n4, e4, _, w4⟩ := DataW.trod_int Tryz.underlying23 (show _ = some x4 from g4)
   simp at e0 e1 e4
   subst e0 e1 e2 e3 e4
   exact ⟨⟨n0, n1, ka, kl, kc, kb, va, vl, vc, vb, n4⟩, ⟨(wf_i64 w0).1, (wf_i64 w0).2, (wf_i64 w1).1, (wf_i64 w1).2, (wf_u64 w4).1, (wf_u64 w4).2, hk, hv, hkc⟩, rfl⟩
def OpT.zero : OpT := ⟨0, 0, none, 0, 0, [], none, 0, 0, [], 0⟩
theorem choose_op {Q : Nat → OpT → Prop} {m : Nat} (h : ∀ j, j < m → ∃ i, Q j i) : ∃ f : Nat → OpT, ∀ j, j < m → Q j (f j) := by
 refine ⟨fun j => if hj : j < m then Classical.choose (h j hj) else OpT.zero, fun j hj => ?_⟩
 simp only [hj, dif_pos]
 exact Classical.choose_spec (h j hj)
theorem script_in {sa : Option Addr} {n c : Nat} {d : DataW H} {p : List MemPlace} (h : DataW.Trod enc Tryz.prog W 0 (fun _ => true) true 24 (.slice sa n c) d p) : (∃ f, ScriptT W sa n f) ∧ n ≤ c := by
 obtain ⟨fuel, hf⟩ := h
 rcases Deep.open_slice Tryz.underlying24 hf with ⟨hcs, _⟩ | ⟨x, l, c', m, k, D, Pl, hcs, _, hl, hm, hmm, _, hx⟩
 ·simp [Value.cells] at hcs
  obtain ⟨rfl, rfl, rfl⟩ := hcs
  exact ⟨⟨fun _ => OpT.zero, by omega, fun j hj => by omega⟩, by omega⟩
 ·simp [Value.cells] at hcs
  obtain ⟨rfl, rfl, rfl⟩ := hcs
  simp only [if_true] at hmm
  subst hmm
  unfold maxLen at hm
  refine ⟨?_, by omega⟩
  by_cases h0 : n = 0
  ·exact ⟨fun _ => OpT.zero, by omega, fun j hj => by omega⟩
  ·rw [cellsOp] at hx
   have hx' : ∀ j, j < n → ∃ o : OpT, o.Ok W ∧ ∀ r v, o.cells[r]? = some v → W.cell? ((x.add (j * 5)).add r) = some v := by
    intro j hj
    obtain ⟨cs', h1, h2⟩ := hx j (by omega)
    obtain ⟨o, ok, rfl⟩ := op_at h2
    obtain ⟨_, hlen, hcell⟩ := World.cells?_some h1
    refine ⟨o, ok, fun r v hv => ?_⟩
    have hr : r < 5 := by have := (List.getElem?_eq_some_iff.1 hv).1; simpa [OpT.cells] using this
    rw [hcell r hr]
    exact hv
   obtain ⟨f, hf⟩ := choose_op hx'
   obtain ⟨b, off, spot⟩ := x
   have hc := (hf 0 (by omega)).2 0 _ rfl
   have hspot : spot = none := by simpa [Addr.add] using World.cell?_spot hc
   subst hspot
   refine ⟨f, by omega, fun j hj => ⟨b, off, rfl, (hf j hj).1, fun r v hv => ?_⟩⟩
   have := (hf j hj).2 r v hv
   rw [Addr.add_lit, Addr.add_lit] at this
   exact this
theorem def_at {m : Nat} {cs : List Value} {x : DataW H × List MemPlace} (h : DataW.trod enc Tryz.prog W 0 (fun _ => true) true m 36 cs = some x) : ∃ d : MDef, cs = d.cells := by
 obtain ⟨xs, k, _, _, hl, hxl, hf⟩ := DataW.trod_struct Tryz.underlying36 h
 rw [cellsDef] at hl
 match cs, hl with
 | [u0, u1, u2, u3], _ =>
  have g0 : DataW.trod enc Tryz.prog W 0 (fun _ => true) true k 34 (List.take (Tryz.prog.cellsOf 34) (List.drop 0 [u0, u1, u2, u3])) = xs[0]? := hf 0 _ rfl
  have g1 : DataW.trod enc Tryz.prog W 0 (fun _ => true) true k 3 (List.take (Tryz.prog.cellsOf 3) (List.drop 1 [u0, u1, u2, u3])) = xs[1]? := hf 1 _ rfl
  have g2 : DataW.trod enc Tryz.prog W 0 (fun _ => true) true k 3 (List.take (Tryz.prog.cellsOf 3) (List.drop 2 [u0, u1, u2, u3])) = xs[2]? := hf 2 _ rfl
  have g3 : DataW.trod enc Tryz.prog W 0 (fun _ => true) true k 3 (List.take (Tryz.prog.cellsOf 3) (List.drop 3 [u0, u1, u2, u3])) = xs[3]? := hf 3 _ rfl
  have k3 : Tryz.prog.cellsOf 3 = 1 := by kernel_rfl
  have kk : Tryz.prog.cellsOf 34 = 1 := by kernel_rfl
  simp only [k3, kk, List.drop_succ_cons, List.drop_zero, List.take_succ_cons, List.take_zero] at g0 g1 g2 g3
  match xs, hxl with
  | [x0, x1, x2, x3], _ =>
   obtain ⟨n0, e0, _, w0⟩ := DataW.trod_int Tryz.underlying34 (show _ = some x0 from g0)
   obtain ⟨n1, e1, _, w1⟩ := DataW.trod_int Tryz.underlying3 (show _ = some x1 from g1)
   obtain ⟨n2, e2, _, w2⟩ := DataW.trod_int Tryz.underlying3 (show _ = some x2 from g2)
   obtain ⟨n3, e3, _, w3⟩ := DataW.trod_int Tryz.underlying3 (show _ = some x3 from g3)
   simp at e0 e1 e2 e3
   subst e0 e1 e2 e3
   exact ⟨⟨n0, n1, n2, n3⟩, rfl⟩
theorem choose_defs {Q : Nat → MDef → Prop} : ∀ {m : Nat}, (∀ j, j < m → ∃ i, Q j i) → ∃ ds : List MDef, ds.length = m ∧ ∀ j d, ds[j]? = some d → Q j d
 | 0, _ => ⟨[], rfl, fun j d h => by simp at h⟩
 | m + 1, h => by
  obtain ⟨ds, h1, h2⟩ := choose_defs (m := m) (fun j hj => h j (by omega))
  obtain ⟨d, hd⟩ := h m (by omega)
  refine ⟨ds ++ [d], by simp [h1], fun j d' hj => ?_⟩
  by_cases hjm : j < ds.length
  ·rw [List.getElem?_append_left hjm] at hj
   exact h2 j d' hj
  ·have hlt := (List.getElem?_eq_some_iff.1 hj).1
   simp at hlt
   have : j = ds.length := by omega
   subst this
   simp at hj
   subst hj
   rw [h1]
   exact hd
theorem defs_in {sa : Option Addr} {n c : Nat} {d : DataW H} {p : List MemPlace} (h : DataW.Trod enc Tryz.prog W 0 (fun _ => true) true 22 (.slice sa n c) d p) : ∃ ds, DefsAt W sa n ds := by
 obtain ⟨fuel, hf⟩ := h
 rcases Deep.open_slice Tryz.underlying22 hf with ⟨hcs, _⟩ | ⟨x, l, c', m, k, D, Pl, hcs, _, hl, hm, hmm, _, hx⟩
 ·simp [Value.cells] at hcs
  obtain ⟨rfl, rfl, rfl⟩ := hcs
  exact ⟨[], rfl, by omega, by omega⟩
 ·simp [Value.cells] at hcs
  obtain ⟨rfl, rfl, rfl⟩ := hcs
  simp only [if_true] at hmm
  subst hmm
  unfold maxLen at hm
  rw [cellsDef] at hx
  have hx' : ∀ j, j < n → ∃ d : MDef, ∀ r v, d.cells[r]? = some v → W.cell? ((x.add (j * 4)).add r) = some v := by
   intro j hj
   obtain ⟨cs', h1, h2⟩ := hx j (by omega)
   obtain ⟨d, rfl⟩ := def_at h2
   obtain ⟨_, hlen, hcell⟩ := World.cells?_some h1
   refine ⟨d, fun r v hv => ?_⟩
   have hr : r < 4 := by have := (List.getElem?_eq_some_iff.1 hv).1; simpa [MDef.cells] using this
   rw [hcell r hr]
   exact hv
  obtain ⟨ds, hl2, hf⟩ := choose_defs hx'
  refine ⟨ds, hl2.symm, by omega, fun hn => ?_⟩
  obtain ⟨b, off, spot⟩ := x
  have hc := hf 0 ds[0] (List.getElem?_eq_getElem (by omega)) 0 _ rfl
  have hspot : spot = none := by simpa [Addr.add] using World.cell?_spot hc
  subst hspot
  refine ⟨b, off, rfl, fun i d hd j v hv => ?_⟩
  have := hf i d hd j v hv
  rw [Addr.add_lit, Addr.add_lit] at this
  exact this
end
end Go.Proofs.YtmhhahmjkopjhaaGreat
end
section
namespace Go.Proofs.YtmhhahmjkopjhaaGreat
open Go.RowKit
def defV : Option PMap → Value
 | some m => .tuple #[.agg m.d.cells.toArray, .bool true]
 | none => .tuple #[.agg #[.int .i64 0, .int .i64 0, .int .i64 0, .int .i64 0], .bool false]
end Go.Proofs.YtmhhahmjkopjhaaGreat
end
section
namespace Go.Proofs.YtmhhahmjkopjhaaGreat
open Go.RowKit
theorem dump_len {w : World} {x : PT} {s : Mem.MS} (h : PBoth w x s) {k : Nat} {m : PMap} (hm : x.maps[k]? = some m) (rs : List Mem.Reg) : (m.dump k rs).length ≤ 1000 := by
 unfold PMap.dump heldP
 have h1 := List.length_filterMap_le (fun j => match m.q.slots.getD j none with
  | some b => some (b, Mem.readV rs (plI k j) m.d.val)
  | none => none) (List.range m.q.slots.length)
 rw [List.length_range] at h1
 have h2 := (h.tab.maps m (List.mem_of_getElem? hm)).good.m2
 exact Nat.le_trans h1 (by omega)
theorem ScriptT.touch {w w' : World} {sa : Option Addr} {n : Nat} {f : Nat → OpT} (h : ScriptT w sa n f) (ht : Touch [] w w') : ScriptT w' sa n f :=
 ⟨h.small, fun j hj => by
  obtain ⟨b, off, h1, h2, h3⟩ := h.at_ j hj
  exact ⟨b, off, h1, h2.touch ht, fun r v hv => ht.cell (h3 r v hv) (by simp)⟩⟩
end Go.Proofs.YtmhhahmjkopjhaaGreat
end
section
namespace Go.Proofs.YtmhhahmjkopjhaaGreat
open Go.RowKit
attribute [local go_sem ↓] Go.wp_at_zero Go.wp_at_succ
theorem copies_law {w : World} {sa : Option Addr} {n sc : Nat} {ds : List MDef} (hd : DefsAt w sa n ds) {ha : Option Addr} {hm hcap : Nat} {f : Nat → OpT} (hs : ScriptT w ha hm f) (hcm : hm ≤ hcap) {ta : Option Addr} {tm tcap : Nat} {g : Nat → OpT} (hg : ScriptT w ta tm g) (tcm : tm ≤ tcap) :
  Calls Tryz.prog 4 #[.slice sa n sc, .slice ha hm hcap, .slice ta tm tcap] w fun e w' => e = .returned (.bool true) ∧ Touch [] w w' := by
 have HD := toHid (And.intro hd (And.intro hs hg))
 have hn := hd.small
 have hms := hs.small
 have htms := hg.small
 have HL := toHid hd.len
 clear hd hs hg
 go_enter Tryz.func4, Tryz.ntmps4
 go_wp2_with fail
 refine (first_any _).mono ?_
 rintro e w2 ⟨rfl, ht2⟩
 have HD2 := toHid (And.intro (HD.out.1.touch ht2) (And.intro (HD.out.2.1.touch ht2) (HD.out.2.2.touch ht2)))
 have H1 := toHid (both_any (sc := sc) HD2.out.1 5 (by omega) (by omega))
 have HT2 := toHid ht2
 clear ht2
 go_wp2_with fail
 refine H1.out.mono ?_
 rintro e w3 hb
 rcases hb with ⟨s, u, why, hw, rfl, hP, hR⟩ | ⟨x, s, y, u, rfl, hD, hds, h8, hnx⟩
 ·have HT3 := toHid (HT2.out.trans hP.touch (by simp))
  clear hP hR H1
  go_wp2
  go_ret
  exact ⟨rfl, HT3.out⟩
 ·have hn8 : n ≤ 8 := by have := HL.out; omega
  have HP0 : Hid (∃ x' s' y' u', Duo w2 w3 x' s' y' u' ((0 : Nat) : Int) ∧ x'.t = x.t ∧ (s'.m, s'.next) = (s.m, s.next) ∧ y'.t = y.t ∧ u'.m = u.m ∧ x'.ds = ds) := ⟨x, s, y, u, hD, rfl, rfl, rfl, rfl, hds⟩
  have HNX := toHid hnx
  clear hD hds H1 h8 hnx
  generalize x.t = T at *
  generalize s.m = M at *
  generalize s.next = NX at *
  generalize y.t = Y at *
  generalize u.m = U at *
  go_upto_region 6 with fail
  go_cut [58, 59, 60] from 54 to 60 (fun a b i wx => ∃ h : Nat, h ≤ hm ∧ h ≤ 30 ∧ a = .slice ha h hcap ∧ b = .int .i64 h ∧ i = .int .i64 0 ∧ wx = w3)
  case first =>
   go_wp2
   all_goals
    go_meet
    first
     | exact ⟨hm, Nat.le_refl _, by omega, rfl, rfl, rfl, rfl⟩
     | exact ⟨30, by omega, Nat.le_refl _, rfl, rfl, rfl, rfl⟩
  case rest =>
   obtain ⟨h, hh1, hh2, rfl, rfl, rfl, rfl⟩ := hcut
   go_wp2_with fail
   go_loopw [60] (fun v w' => ∃ k : Nat, k ≤ h ∧ v = .int .i64 k ∧ Hid (∃ x' s' y' u', Duo w2 w' x' s' y' u' k ∧ x'.t = T ∧ (s'.m, s'.next) = (M, NX) ∧ y'.t = Y ∧ u'.m = U ∧ x'.ds = ds)) (fun v _ => h - (intOf v).toNat)
   case atStart => exact ⟨0, by omega, rfl, HP0⟩
   case round =>
    clear HP0
    obtain ⟨k, hk, rfl, HI⟩ := hrel
    by_cases hlt : k < h
    ·obtain ⟨x, s, y, u, hD, hxT, hsM, hyY, huU, hds⟩ := HI.out
     obtain ⟨ob, off, hoa, ok, hcells⟩ := HD2.out.2.1.at_ k (by omega)
     subst hoa
     generalize f k = o at *
     have c0 := hD.touch.cell (hcells 0 _ rfl) (by simp)
     have c1 := hD.touch.cell (hcells 1 _ rfl) (by simp)
     have c2 := hD.touch.cell (hcells 2 _ rfl) (by simp)
     have c3 := hD.touch.cell (hcells 3 _ rfl) (by simp)
     have c4 := hD.touch.cell (hcells 4 _ rfl) (by simp)
     rw [Nat.add_zero] at c0
     have hkm : (k : Int) < h := by omega
     have hta := (Touch.refl [] wr).alloc (.cells o.cells.toArray 41)
     have H1 := toHid (one_any (hD.still hta) (by omega) o ok)
     unfold opT at H1
     unfold OpT.cells at *
     rw [hxT, show s.m = M from congrArg Prod.fst hsM, hyY, huU] at H1
     have HX : Hid (x.t = T ∧ (s.m, s.next) = (M, NX) ∧ y.t = Y ∧ u.m = U ∧ x.ds = ds) := ⟨hxT, hsM, hyY, huU, hds⟩
     clear hD hta hcells HI ok hxT hsM hyY huU hds
     have hNB := Blk.newA wr #[.int .i64 o.k, .int .i64 o.mp, .slice o.ka o.kl o.kc, .slice o.va o.vl o.vc, .int .u64 o.fl] _ 41 rfl
     go_wp2_with fail
     refine Calls.mono H1.out ?_
     rintro e w7 ⟨rfl, x', s', y', u', hD7, e1, e2, e3, e4, e5⟩
     have HN : Hid (∃ x' s' y' u', Duo w2 w7 x' s' y' u' ((k + 1 : Nat) : Int) ∧ x'.t = T ∧ (s'.m, s'.next) = (M, NX) ∧ y'.t = Y ∧ u'.m = U ∧ x'.ds = ds) := ⟨x', s', y', u', hD7, e1.trans HX.out.1, e2.trans HX.out.2.1, e3.trans HX.out.2.2.1, e4.trans HX.out.2.2.2.1, e5.trans HX.out.2.2.2.2⟩
     clear hD7 e1 e2 e3 e4 e5 HX H1 c0 c1 c2 c3 c4 hNB
     go_wp2
     go_roundw
     case rel => exact ⟨k + 1, by omega, by go_num, HN⟩
     case measure => simp [intOf]; omega
    ·obtain ⟨x, s, y, u, hD, hxT, hsM, hyY, huU, hds⟩ := HI.out
     obtain rfl : k = h := by omega
     have hM1 := congrArg Prod.fst hsM
     have hM2 := congrArg Prod.snd hsM
     dsimp only at hM1 hM2
     obtain ⟨rfl, rfl, rfl, rfl⟩ : x.t = T ∧ s.m = M ∧ y.t = Y ∧ u.m = U := ⟨hxT, hM1, hyY, huU⟩
     have H1 := toHid (Mem.copy_any hD.p.mem)
     have HDD := toHid hD
     have HDS : Hid (x.ds = ds) := hds
     have hul : u.all.length < 1000 := by have := hD.rel.len; have := HNX.out; omega
     have hk30 : (k : Int) ≤ 30 := by omega
     clear hD hds hxT hsM hyY huU HI hM1 hM2
     go_wp2_with fail
     refine H1.out.mono ?_
     rintro e wa ⟨C, G, rs, rfl, hC, hCG, hC0, hG0⟩
     have H2 := toHid (Mem.rcopy_any (HDD.out.r.mem.touch hC.touch (by simp)) hul)
     have HC := toHid (And.intro hC (And.intro hCG (And.intro hC0 hG0)))
     clear hC hCG hC0 hG0 H1 hul
     go_wp2_with fail
     refine H2.out.mono ?_
     rintro e wb ⟨O, u2, rfl, hR⟩
     have H3 := toHid (pcopy_any (HDD.out.p.tab.still (HC.out.1.touch.trans hR.touch (by simp))) C)
     have HR := toHid hR
     clear hR H2
     go_wp2_with fail
     refine H3.out.mono ?_
     rintro e wc ⟨t2, rfl, hT⟩
     have H4 := toHid (rtcopy_any (HDD.out.r.tab.still ((HC.out.1.touch.trans HR.out.touch (by simp)).trans hT.touch (by simp))) (HDD.out.clocks (by omega)) O)
     have HT := toHid hT
     clear hT H3
     go_wp2_with fail
     refine H4.out.mono ?_
     rintro e wd ⟨y2, rfl, hY⟩
     have HE := toHid (duo_copy HDD.out HC.out.1 HC.out.2.1 HC.out.2.2.1 HC.out.2.2.2 HR.out HT.out hY)
     have HM2 : Hid (t2.ds = ds ∧ u2.m = O) := ⟨by rw [HT.out.ds, PT.ls_ds, HDS.out], HR.out.m⟩
     clear hY H4 HT HR HC
     go_wp2_with fail
     refine (pcopy_nil2 _ _).mono ?_
     rintro e we ⟨rfl, rfl⟩
     have hm2 := HM2.out.2
     have HQ0 : Hid (∃ x' s' y' u', Duo wr we x' s' y' u' ((k + 0 : Nat) : Int) ∧ x'.t = t2.t ∧ s'.m = C ∧ y'.t = y2.t ∧ u'.m = O ∧ x'.ds = ds) := ⟨t2, _, y2, u2, HE.out, rfl, rfl, rfl, hm2, HM2.out.1⟩
     clear hm2
     generalize t2.t = T2 at *
     generalize wr = wk at *
     generalize y2.t = Y2 at *
     go_upto_region 15 with fail
     go_cut [92, 93, 94] from 88 to 94 (fun a b i wx => ∃ h2 : Nat, h2 ≤ tm ∧ h2 ≤ 30 ∧ a = .slice ta h2 tcap ∧ b = .int .i64 h2 ∧ i = .int .i64 0 ∧ wx = we)
     case first =>
      go_wp2
      all_goals
       go_meet
       first
        | exact ⟨tm, Nat.le_refl _, by omega, rfl, rfl, rfl, rfl⟩
        | exact ⟨30, by omega, Nat.le_refl _, rfl, rfl, rfl, rfl⟩
     case rest =>
      obtain ⟨h2, hj1, hj2, rfl, rfl, rfl, rfl⟩ := hcut
      go_wp2_with fail
      have HWK := HE.out.touch
      have HTT := toHid (And.intro (HD2.out.2.2.touch HDD.out.touch) HWK)
      clear HWK HE HM2
      go_loopw [94] (fun v w' => ∃ j : Nat, j ≤ h2 ∧ v = .int .i64 j ∧ Hid (∃ x' s' y' u', Duo wk w' x' s' y' u' ((k + j : Nat) : Int) ∧ x'.t = T2 ∧ s'.m = C ∧ y'.t = Y2 ∧ u'.m = O ∧ x'.ds = ds)) (fun v _ => h2 - (intOf v).toNat)
      case atStart => exact ⟨0, by omega, rfl, HQ0⟩
      case round =>
       clear HQ0
       obtain ⟨j, hj, rfl, HI⟩ := hrel
       by_cases hlt2 : j < h2
       ·obtain ⟨x3, s3, y3, u3, hD, hxT, hsM, hyY, huU, hds⟩ := HI.out
        obtain ⟨ob, off, hoa, ok, hcells⟩ := HTT.out.1.at_ j (by omega)
        subst hoa
        generalize g j = o at *
        have c0 := hD.touch.cell (hcells 0 _ rfl) (by simp)
        have c1 := hD.touch.cell (hcells 1 _ rfl) (by simp)
        have c2 := hD.touch.cell (hcells 2 _ rfl) (by simp)
        have c3 := hD.touch.cell (hcells 3 _ rfl) (by simp)
        have c4 := hD.touch.cell (hcells 4 _ rfl) (by simp)
        rw [Nat.add_zero] at c0
        have hkm : (j : Int) < h2 := by omega
        have hta := (Touch.refl [] wr).alloc (.cells o.cells.toArray 41)
        have H1 := toHid (one_any (hD.still hta) (by omega) o ok)
        unfold opT at H1
        unfold OpT.cells at *
        rw [hxT, hsM, hyY, huU] at H1
        have HX : Hid (x3.t = T2 ∧ s3.m = C ∧ y3.t = Y2 ∧ u3.m = O ∧ x3.ds = ds) := ⟨hxT, hsM, hyY, huU, hds⟩
        clear hD hta hcells HI ok hxT hsM hyY huU hds
        have hNB := Blk.newA wr #[.int .i64 o.k, .int .i64 o.mp, .slice o.ka o.kl o.kc, .slice o.va o.vl o.vc, .int .u64 o.fl] _ 41 rfl
        go_wp2_with fail
        refine Calls.mono H1.out ?_
        rintro e w7 ⟨rfl, x', s', y', u', hD7, e1, e2, e3, e4, e5⟩
        have HN : Hid (∃ x' s' y' u', Duo wk w7 x' s' y' u' ((k + (j + 1) : Nat) : Int) ∧ x'.t = T2 ∧ s'.m = C ∧ y'.t = Y2 ∧ u'.m = O ∧ x'.ds = ds) := ⟨x', s', y', u', hD7, e1.trans HX.out.1, (congrArg Prod.fst e2).trans HX.out.2.1, e3.trans HX.out.2.2.1, e4.trans HX.out.2.2.2.1, e5.trans HX.out.2.2.2.2⟩
        clear hD7 e1 e2 e3 e4 e5 HX H1 c0 c1 c2 c3 c4 hNB
        go_wp2
        go_roundw
        case rel => exact ⟨j + 1, by omega, by go_num, HN⟩
        case measure => simp [intOf]; omega
       ·obtain ⟨x3, s3, y3, u3, hD, hxT, hsM, hyY, huU, hds⟩ := HI.out
        obtain rfl : j = h2 := by omega
        obtain ⟨rfl, rfl, rfl, rfl⟩ : x3.t = T2 ∧ s3.m = C ∧ y3.t = Y2 ∧ u3.m = O := ⟨hxT, hsM, hyY, huU⟩
        have HD3 := toHid (And.intro (HDD.out.still hD.touch) hD)
        have HDS3 : Hid (x3.ds = ds) := hds
        clear hD hds hxT hsM hyY huU HI HDD
        go_wp2_with fail
        go_loopw [108] (fun v w' => ∃ i : Nat, i ≤ n ∧ v = .int .i64 i ∧ Hid (Duo w2 w' x s y u k ∧ Duo wk w' x3 s3 y3 u3 ((k + j : Nat) : Int))) (fun v _ => n - (intOf v).toNat)
        case atStart => exact ⟨0, by omega, rfl, HD3⟩
        case round =>
         clear HD3
         obtain ⟨i, hi, rfl, HDD⟩ := hrel
         by_cases hin : i < n
         ·have hl := HL.out
          obtain ⟨m0, hm0⟩ : ∃ m0, x.maps[i]? = some m0 := by
           have h1 := congrArg List.length HDS.out
           simp [PT.ds] at h1
           exact ⟨_, List.getElem?_eq_getElem (by omega)⟩
          obtain ⟨n0, hn0⟩ : ∃ n0, x3.maps[i]? = some n0 := by
           have h1 := congrArg List.length HDS3.out
           simp [PT.ds] at h1
           exact ⟨_, List.getElem?_eq_getElem (by omega)⟩
          obtain ⟨m1, hm1, _⟩ := HDD.out.1.maps hm0
          obtain ⟨n1, hn1, _⟩ := HDD.out.2.maps hn0
          have H1 := toHid (pdump_any HDD.out.1.p hm0 (HDD.out.1.served hm0))
          rw [HDD.out.1.dump hm0 hm1] at H1
          have hdl := dump_len HDD.out.1.p hm0 s.rs
          rw [HDD.out.1.dump hm0 hm1] at hdl
          have hel := dump_len HDD.out.2.p hn0 s3.rs
          rw [HDD.out.2.dump hn0 hn1] at hel
          have HX := toHid (And.intro HDD.out (And.intro hm1 (And.intro hdl (And.intro hn0 (And.intro hn1 hel)))))
          have hi8 : (i : Int) < n := by omega
          unfold PDumpPost at H1
          generalize hps : m1.dump u.all = ps at *
          have HPS := toHid hps
          clear hps hm1 hdl hl hm0 HDD hn0 hn1 hel
          go_wp2_with fail
          refine Calls.mono H1.out ?_
          rintro e v1 ⟨⟨a1, rfl, hPL⟩, ht1⟩
          have HD8 := toHid (And.intro (HX.out.1.1.still ht1) (HX.out.1.2.still ht1))
          have H2 := toHid (pdump_any HD8.out.2.p HX.out.2.2.2.1 (HD8.out.2.served HX.out.2.2.2.1))
          rw [HD8.out.2.dump HX.out.2.2.2.1 HX.out.2.2.2.2.1] at H2
          have HPL := toHid hPL
          unfold PDumpPost at H2
          generalize hqs : n1.dump u3.all = qs at *
          have HQS := toHid hqs
          clear hPL ht1 H1 hqs
          go_wp2_with fail
          refine Calls.mono H2.out ?_
          rintro e v2 ⟨⟨a2, rfl, hQL⟩, ht2⟩
          have HD9 := toHid (And.intro (HD8.out.1.still ht2) (HD8.out.2.still ht2))
          have H3 := toHid (rdump_any HD9.out.1.r HX.out.2.1)
          rw [HPS.out] at H3
          replace HPL := toHid (HPL.out.touch ht2 (by simp))
          have HQL := toHid hQL
          clear hQL ht2 H2 HD8
          go_wp2_with fail
          refine Calls.mono H3.out ?_
          rintro e v3 ⟨⟨b1, rfl, hPL2⟩, ht3⟩
          have H4 := toHid (rsame_any (HPL.out.touch ht3 (by simp)) hPL2 HX.out.2.2.1)
          have HD10 := toHid (And.intro (HD9.out.1.still ht3) (HD9.out.2.still ht3))
          replace HQL := toHid (HQL.out.touch ht3 (by simp))
          clear hPL2 ht3 H3 HD9 HPL
          go_wp2_with fail
          refine Calls.mono H4.out ?_
          rintro e v4 ⟨rfl, ht4⟩
          have HD11 := toHid (And.intro (HD10.out.1.still ht4) (HD10.out.2.still ht4))
          have H5 := toHid (rdump_any HD11.out.2.r HX.out.2.2.2.2.1)
          rw [HQS.out] at H5
          replace HQL := toHid (HQL.out.touch ht4 (by simp))
          clear ht4 H4 HD10
          go_wp2_with fail
          refine Calls.mono H5.out ?_
          rintro e v5 ⟨⟨b2, rfl, hQL2⟩, ht5⟩
          have H6 := toHid (rsame_any (HQL.out.touch ht5 (by simp)) hQL2 HX.out.2.2.2.2.2)
          have HD12 := toHid (And.intro (HD11.out.1.still ht5) (HD11.out.2.still ht5))
          clear hQL2 ht5 H5 HD11 HQL
          go_wp2_with fail
          refine Calls.mono H6.out ?_
          rintro e v6 ⟨rfl, ht6⟩
          have HN := toHid (And.intro (HD12.out.1.still ht6) (HD12.out.2.still ht6))
          clear ht6 H6 HD12 HX
          go_wp2
          go_roundw
          case rel => exact ⟨i + 1, by omega, by go_num, HN⟩
          case measure => simp [intOf]; omega
         ·obtain rfl : i = n := by omega
          have HF := toHid (HT2.out.trans HDD.out.1.touch (by simp))
          clear HDD
          go_wp2
          go_ret
          exact ⟨rfl, HF.out⟩
end Go.Proofs.YtmhhahmjkopjhaaGreat
end
