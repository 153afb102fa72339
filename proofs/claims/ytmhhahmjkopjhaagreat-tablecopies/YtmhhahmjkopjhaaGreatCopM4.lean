/-
  Texts laid together: PRoom, PSettle, MNum, MLook, MLay, MApi, MApi2, MApi3, PAt, PLook, PTwin, PPush, PCopy, PUpd, PRead, PGet, TabS, TabP, PDump, PDump2, TabN, TabA, TabB, MRef2, MRef3, TabC, MKill.
-/
import Derived.Test.YtmhhahmjkopjhaaGreatCopM3
import Derived.BigQuiet
import Derived.Deep.QuietTactic
import Derived.Deep.RegionHeld3
import Derived.Deep.RegionLaw
set_option maxRecDepth 100000
set_option maxHeartbeats 8000000
section
namespace Go.Proofs.YtmhhahmjkopjhaaGreat
open Go.RowKit
structure PBoth (w : World) (x : PT) (s : Mem.MS) : Prop where
 tab : PTAt w x
 mem : Mem.MemAt w s
 at_ : x.mem = s.m
 apart : ∀ b ∈ x.blocks, b ∉ s.blocks
theorem PBoth.still {w w' : World} {x : PT} {s : Mem.MS} (h : PBoth w x s) (ht : Touch [] w w') : PBoth w' x s := ⟨h.tab.still ht, h.mem.touch ht (by simp), h.at_, h.apart⟩
theorem PBoth.step {w w2 : World} {x x1 : PT} {s : Mem.MS} {qs : List PX} (h : PBoth w x s) (st : PStep w w2 x x1 qs) : PBoth w2 x1 s := by
 have hlt : ∀ b ∈ s.blocks, b < w.heap.size := h.mem.lt
 refine ⟨st.at_, h.mem.touch st.touch (fun b hb hx => h.apart b hx hb), by rw [st.mem]; exact h.at_, fun b hb hx => ?_⟩
 rcases st.blocks b hb with h1 | h1
 ·exact h.apart b h1 hx
 ·have := hlt b hx
  omega
theorem PBoth.over {w w2 : World} {x : PT} {s s' : Mem.MS} (h : PBoth w x s) (hm : Mem.MemAt w2 s') (hs : s'.m = s.m) (hb : ∀ b ∈ s'.blocks, b ∈ s.blocks ∨ w.heap.size ≤ b) (ht : Touch s.blocks w w2) : PBoth w2 x s' :=
 ⟨h.tab.touch ht (fun b hx => h.apart b hx), hm, by rw [hs]; exact h.at_, fun b hx hy => by
  rcases hb b hy with h1 | h1
  ·exact h.apart b hx h1
  ·have := h.tab.lt b hx
   omega⟩
theorem busy_find {rs : List Mem.Reg} {p n : Int} (h1 : ∀ r ∈ rs, 1 ≤ r.bytes.length) (hn : 1 ≤ n) : Mem.busyB rs p n = false ↔ ∀ j : Int, 0 ≤ j → j < n → Mem.findR rs (p + j) = none := by
 constructor
 ·intro hb j h0 hj
  refine Mem.findR_none fun r hr => ?_
  cases hh : Mem.hasB r (p + j) with
  | false => rfl
  | true =>
   unfold Mem.hasB at hh
   have := of_decide_eq_true hh
   rw [Mem.busy_of hr (by omega) (by omega)] at hb
   cases hb
 ·intro hf
  cases hb : Mem.busyB rs p n with
  | false => rfl
  | true =>
   unfold Mem.busyB at hb
   rw [List.any_eq_true] at hb
   obtain ⟨r, hr, hb⟩ := hb
   have hb := of_decide_eq_true hb
   have hl := h1 r hr
   have h9 := hf (if p ≤ r.base then r.base - p else 0) (by split <;> omega) (by split <;> omega)
   unfold Mem.findR at h9
   rw [List.find?_eq_none] at h9
   have h8 := h9 r hr
   unfold Mem.hasB at h8
   simp only [decide_eq_true_eq] at h8
   split at h8 <;> omega
theorem isFree_any {w : World} {x : PT} {s : Mem.MS} (h : PBoth w x s) (p : Int) (n : Nat) (p0 : 0 ≤ p) (n1 : 1 ≤ n) (n2 : n ≤ 64) (hp : p + n ≤ 18446744073709551616) :
  Calls Tryz.prog 77 #[.pointer (some ⟨x.t, 0, none⟩), .int .u64 p, .int .i64 (n : Int)] w fun e w' => e = .returned (.bool (!Mem.busyB s.rs p n)) ∧ ∃ k, w' = w.drewN k := by
 have HH := toHid h
 have hB := busy_find (rs := s.rs) (p := p) (n := n) (fun r hr => (h.mem.ok r hr).size1) (by omega)
 have HYes : Hid (∀ j : Nat, j < n → (Mem.findR s.rs (p + j)).isSome = true → Mem.busyB s.rs p n = true) := fun j hj hs => by
  cases hb : Mem.busyB s.rs p n with
  | true => rfl
  | false =>
   rw [hB.1 hb j (by omega) (by omega)] at hs
   cases hs
 have HNo : Hid ((∀ j : Nat, j < n → Mem.findR s.rs (p + j) = none) → Mem.busyB s.rs p n = false) := fun hf => hB.2 (fun j h0 hj => by
  have := hf j.toNat (by omega)
  rwa [Int.toNat_of_nonneg h0] at this)
 have c0 : ∀ k, (w.drewN k).cell? ⟨x.t, 0, none⟩ = some (.pointer (some ⟨s.m, 0, none⟩)) := fun k => by
  have := ((h.still ((Touch.refl [] w).drewN k)).tab).c0
  rwa [h.at_] at this
 clear h hB
 go_enter Tryz.func77, Tryz.ntmps77
 go_wp2_with fail
 go_loopw [12] (fun t w' => ∃ k : Nat, k ≤ n ∧ t = .int .i64 k ∧ (∃ q, w' = w.drewN q) ∧ Hid (∀ j : Nat, j < k → Mem.findR s.rs (p + j) = none)) (fun t _ => n - (intOf t).toNat)
 case atStart => exact ⟨0, by omega, rfl, ⟨0, rfl⟩, fun j hj => by omega⟩
 case round =>
  obtain ⟨k, hk, rfl, ⟨q, rfl⟩, HI⟩ := hrel
  by_cases hlt : k < n
  ·have w1 : IntKind.u64.wrap (k : Int) = k := by rw [IntKind.wrap_u64]; omega
   have w2 : IntKind.u64.wrap (p + (k : Int)) = p + k := by rw [IntKind.wrap_u64]; omega
   have H1 := toHid (fun d => Mem.find_any (HH.out.still ((Touch.refl [] w).drewN d)).mem (p + (k : Int)) (by omega) (by omega))
   have d0 := c0 q
   cases hf : Mem.findR s.rs (p + (k : Int)) with
   | none =>
    simp only [hf] at H1
    have HN : Hid (∀ j : Nat, j < k + 1 → Mem.findR s.rs (p + j) = none) := fun j hj => by
     by_cases e : j = k
     ·rw [e]; exact hf
     ·exact HI.out j (by omega)
    clear c0 hf HI
    go_wp2_with fail
    refine Calls.mono (H1.out _) ?_
    rintro e w' ⟨rfl, d, rfl⟩
    rw [World.drewN_drewN]
    clear d0
    go_wp2
    exact ⟨⟨k + 1, by omega, by go_num, ⟨_, rfl⟩, HN⟩, by simp [intOf]; omega⟩
   | some r =>
    simp only [hf] at H1
    have hv := toHid (HYes.out k hlt (by rw [hf]; rfl))
    clear c0 hf HI
    go_wp2_with fail
    refine Calls.mono (H1.out _) ?_
    rintro e w' ⟨rfl, d, rfl⟩
    rw [World.drewN_drewN]
    clear d0
    go_wp2
    go_ret
    exact ⟨by rw [hv.out]; rfl, _, rfl⟩
  ·obtain rfl : k = n := by omega
   have hv := toHid (HNo.out HI.out)
   clear c0
   go_wp2
   go_ret
   exact ⟨by rw [hv.out]; rfl, _, rfl⟩
def maxSum (ds : List MDef) : Int := (ds.map MDef.max).sum
theorem maxSum_snoc (ds : List MDef) (k : Nat) (d : MDef) (h : ds[k]? = some d) : maxSum (ds.take (k + 1)) = maxSum (ds.take k) + d.max := by
 unfold maxSum
 rw [List.take_add_one, h]
 simp
theorem maxSum_bd (ds : List MDef) (h : ∀ d ∈ ds, 0 ≤ d.max ∧ d.max ≤ 64) : 0 ≤ maxSum ds ∧ maxSum ds ≤ 64 * ds.length := by
 unfold maxSum
 induction ds with
 | nil => simp
 | cons d ds ih =>
  have h1 := h d (by simp)
  have h2 := ih (fun d' hd => h d' (by simp [hd]))
  simp only [List.map_cons, List.sum_cons, List.length_cons]
  omega
def FreeAll (ds : List MDef) (rs : List Mem.Reg) (n : Nat) : Prop := ∀ (i : Nat) (d : MDef), i < n → ds[i]? = some d → ∀ s : Nat, (s : Int) < d.max → Mem.busyB rs (plI i s) d.val = false
def BoxCells (m : PMap) : Array Value := #[.int .i64 m.d.kind, .int .i64 m.d.key, .int .i64 m.d.val, .int .i64 m.d.max, ixV m.d.kind m.X]
def roomOk (ds : List MDef) (rs : List Mem.Reg) : Prop := FreeAll ds rs ds.length ∧ (rs.length : Int) + maxSum ds ≤ 4096
theorem hasRoom_any {w : World} {x : PT} {s : Mem.MS} (h : PBoth w x s) (hmx : ∀ m ∈ x.maps, 1 ≤ m.d.max ∧ m.d.max ≤ 64) :
  Calls Tryz.prog 46 #[.pointer (some ⟨x.t, 0, none⟩)] w fun e w' => (∃ b, e = .returned (.bool b) ∧ (b = true ↔ roomOk x.ds s.rs)) ∧ Touch [] w w' := by
 have hz := (zero_of_info (P := Tryz.prog) zero89).1
 have hsz := (zero_of_info (P := Tryz.prog) zero89).2
 have H0 := toHid (Mem.count_any h.mem)
 have HH := toHid (And.intro h hmx)
 have hmany := h.tab.many
 have c0 := h.tab.c0
 have c1 := h.tab.c1
 rw [h.at_] at c0
 unfold slV at c1
 have hlen := h.mem.many
 have hds : x.ds.length = x.maps.length := by simp [PT.ds]
 have hbd : ∀ k, 0 ≤ maxSum (x.ds.take k) ∧ maxSum (x.ds.take k) ≤ 512 := fun k => by
  have h1 := maxSum_bd (x.ds.take k) (fun d hd => by
   obtain ⟨m, hm, rfl⟩ := List.mem_map.1 (List.mem_of_mem_take hd)
   have := hmx m hm
   omega)
  have h2 : (x.ds.take k).length ≤ 8 := by rw [List.length_take]; omega
  omega
 have HBD := toHid hbd
 have HDS := toHid hds
 generalize hsg : (x.g.map fun b => (⟨b, 0, none⟩ : Addr)) = sg at *
 have HG := toHid hsg
 generalize hL : x.maps.length = L at *
 have HL := toHid hL
 generalize hR : s.rs.length = R at *
 have HR := toHid hR
 clear h hmx hbd hds hsg hL hR
 go_enter Tryz.func46, Tryz.ntmps46
 go_wp2_with fail
 refine Calls.mono H0.out ?_
 rintro e w ⟨rfl, rfl⟩
 go_wp2_with fail
 go_loopw [3, 17] (fun c t w' => ∃ k : Nat, k ≤ L ∧ t = .int .i64 k ∧ c = .int .i64 (R + maxSum (x.ds.take k)) ∧ Hid (Touch [] w w' ∧ FreeAll x.ds s.rs k)) (fun _ t _ => L - (intOf t).toNat)
 case atStart => exact ⟨0, by omega, rfl, by simp [maxSum], Touch.refl _ _, fun i d hi => by omega⟩
 case round =>
  obtain ⟨k, hk, rfl, rfl, HI⟩ := hrel
  by_cases hlt : k < L
  ·obtain ⟨m, hm⟩ : ∃ m, x.maps[k]? = some m := ⟨_, List.getElem?_eq_getElem (by rw [HL.out]; exact hlt)⟩
   have hmem := List.mem_of_getElem? hm
   have hB := HH.out.1.still HI.out.1
   obtain ⟨gb, hg⟩ := hB.tab.some_g hm
   have hsg := HG.out
   rw [hg, Option.map_some] at hsg
   subst hsg
   obtain ⟨b0, b1, b2, b3, b4⟩ := hB.tab.boxed hm hg
   have hmk := HH.out.2 m hmem
   have hok := hB.tab.ok m hmem
   have hdk : x.ds[k]? = some m.d := by unfold PT.ds; rw [List.getElem?_map, hm]; rfl
   have hsum := maxSum_snoc x.ds k m.d hdk
   have hbd1 := HBD.out k
   have hbd2 := HBD.out (k + 1)
   have hm1 := hok.v1
   have hm2 := hok.v2
   obtain ⟨V, hV⟩ : ∃ V : Nat, m.d.val = V := Int.eq_ofNat_of_zero_le (by omega)
   obtain ⟨M, hM⟩ : ∃ M : Nat, m.d.max = M := Int.eq_ofNat_of_zero_le (by omega)
   have HBX : Hid (∀ o, Touch [] wr (wr.alloc o)) := fun o => (Touch.refl [] wr).alloc o
   have hNB := Blk.newA wr (BoxCells m) _ 89 rfl
   have HNB := toHid hNB
   have HM := toHid (And.intro hm (And.intro hdk (And.intro hV hM)))
   have HB := toHid hB
   have hk8 : k < 8 := by omega
   rw [hV] at b2 hm1 hm2
   rw [hM] at b3 hmk hsum
   have HC : Hid (∀ w', Touch [] (wr.alloc (.cells (BoxCells m) 89)) w' → w'.cell? ⟨wr.heap.size, 2, none⟩ = some (.int .i64 (V : Int)) ∧ w'.cell? ⟨wr.heap.size, 3, none⟩ = some (.int .i64 (M : Int))) := fun w' ht => by
    have h1 := ht.blk hNB (by simp)
    rw [← hV, ← hM]
    exact ⟨h1.cell rfl, h1.cell rfl⟩
   have HT := toHid HI.out.1
   have HFA := toHid HI.out.2
   unfold BoxCells ixV at HC
   unfold ixV at b4
   generalize typF m.d.kind = ty at *
   generalize m.X = X at *
   generalize m.d.kind = kd at *
   generalize m.d.key = ky at *
   rw [hV, hM] at HC
   have HSUM := toHid hsum
   have w1 : IntKind.i64.wrap ((R : Int) + maxSum (x.ds.take k) + M) = R + maxSum (x.ds.take (k + 1)) := by rw [IntKind.wrap_i64]; omega
   have c3 := (HC.out _ (Touch.refl _ _)).2
   clear hB hmem hok hdk hNB hm hV hM HI hg hsum c0 c1 HNB
   generalize hwb : wr.alloc (.cells #[.int .i64 kd, .int .i64 ky, .int .i64 (V : Int), .int .i64 (M : Int), .iface ty (.pointer (some ⟨X, 0, none⟩))] 89) = wb at *
   have HWB := toHid hwb
   go_wp2_with fail
   clear hwb b0 b1 b2 b3 b4 c3
   have HTB : Hid (Touch [] wr wb) := by rw [← HWB.out]; exact HBX.out _
   have hM64 : M ≤ 64 := by omega
   go_loopw [30] (fun t w' => ∃ q : Nat, q ≤ M ∧ t = .int .i64 q ∧ Hid (Touch [] wb w' ∧ ∀ i : Nat, i < q → Mem.busyB s.rs (plI k i) V = false)) (fun t _ => M - (intOf t).toNat)
   case atStart => exact ⟨0, by omega, rfl, Touch.refl _ _, fun i hi => by omega⟩
   case round =>
    obtain ⟨q, hq, rfl, HJ⟩ := hrel
    obtain ⟨c2, c3⟩ := HC.out _ HJ.out.1
    by_cases hqt : q < M
    ·have hB2 := HB.out.still (HTB.out.trans HJ.out.1 (by simp))
     have HP := toHid (fun d => place_any (wr.drewN d) k q hk8 (by omega))
     have HF := toHid (fun d => isFree_any (hB2.still ((Touch.refl [] wr).drewN d)) (plI k q) V (by unfold plI; omega) (by omega) (by omega) (by unfold plI; omega))
     have hkx : (k : Int) = k := rfl
     have HNx : Hid (Mem.busyB s.rs (plI k q) V = false → ∀ n, Touch [] wb (wr.drewN n) ∧ ∀ i : Nat, i < q + 1 → Mem.busyB s.rs (plI k i) V = false) := fun hb n => ⟨HJ.out.1.drewN n, fun i hi => by
      by_cases e : i = q
      ·rw [e]; exact hb
      ·exact HJ.out.2 i (by omega)⟩
     have HBad : Hid (Mem.busyB s.rs (plI k q) V = true → ¬ roomOk x.ds s.rs) := fun hb hr => by
      obtain ⟨_, hdk, hV, hM⟩ := HM.out
      have h9 := hr.1 k m.d (by rw [HDS.out]; exact hlt) hdk q (by rw [hM]; omega)
      rw [hV, hb] at h9
      cases h9
     have HTT : Hid (∀ n, Touch [] w (wr.drewN n)) := fun n => ((HT.out.trans HTB.out (by simp)).trans HJ.out.1 (by simp)).drewN n
     generalize Mem.busyB s.rs (plI k q) V = fb at *
     generalize plI k q = pl at *
     clear hB2 HJ c3 HC
     cases fb with
     | true =>
      have HBad := toHid (HBad.out rfl)
      clear HNx
      go_wp2_with fail
      go_quiet (first | (go_at_call 42; refine Calls.quiet_of_same (HP.out _)) | (go_at_call 77; refine Calls.quiet_of (HF.out _)))
      go_wp2
      go_ret
      exact ⟨⟨false, rfl, by simpa using HBad.out⟩, HTT.out _⟩
     | false =>
      clear HBad HTT
      go_wp2_with fail
      go_quiet (first | (go_at_call 42; refine Calls.quiet_of_same (HP.out _)) | (go_at_call 77; refine Calls.quiet_of (HF.out _)))
      go_wp2
      exact ⟨⟨q + 1, by omega, by go_num, (HNx.out trivial _)⟩, by simp [intOf]; omega⟩
    ·obtain rfl : q = M := by omega
     have HNx : Hid (Touch [] w wr ∧ FreeAll x.ds s.rs (k + 1)) := ⟨(HT.out.trans HTB.out (by simp)).trans HJ.out.1 (by simp), fun i d hi hd u hu => by
      by_cases e : i = k
      ·subst e
       obtain ⟨_, hdk, hV, hM⟩ := HM.out
       rw [hdk] at hd
       injection hd with hd
       subst hd
       rw [hV]
       exact HJ.out.2 u (by omega)
      ·exact HFA.out i d (by omega) hd u hu⟩
     clear HC HJ
     go_wp2
     exact ⟨⟨k + 1, by omega, by go_num, rfl, HNx⟩, by simp [intOf]; omega⟩
  ·obtain rfl : L = k := by omega
   have hbd1 := HBD.out L
   have hT : x.ds.take L = x.ds := by rw [← HDS.out]; exact List.take_length
   have HR2 : Hid ((decide (R + maxSum (x.ds.take L) ≤ 4096) = true ↔ roomOk x.ds s.rs)) := by
    show _ ↔ _
    rw [decide_eq_true_iff, hT, ← HR.out]
    exact ⟨fun hh => ⟨by rw [HDS.out]; exact HI.out.2, hh⟩, fun hh => hh.2⟩
   have HT := toHid HI.out.1
   clear HI c0 c1 hT
   go_wp2
   go_ret
   exact ⟨⟨_, rfl, HR2.out⟩, HT.out⟩
end Go.Proofs.YtmhhahmjkopjhaaGreat
end
section
namespace Go.Proofs.YtmhhahmjkopjhaaGreat
open Go.RowKit
def PAdds : List (Int × Int) → List Mem.Reg × Nat → List Mem.Reg × Nat → Prop
 | [], a, b => b = a
 | p :: ps, a, b => ∃ (i : Nat) (r : Mem.Reg), i ≤ a.1.length ∧ Mem.RegOk r ∧ Mem.NewReg r a.2 p.1 p.2 3 ∧ PAdds ps (a.1.take i ++ r :: a.1.drop i, a.2 + 1) b
theorem PAdds.snoc {ps : List (Int × Int)} {p : Int × Int} : ∀ {a b : List Mem.Reg × Nat}, PAdds ps a b → ∀ {i : Nat} {r : Mem.Reg}, i ≤ b.1.length → Mem.RegOk r → Mem.NewReg r b.2 p.1 p.2 3 → PAdds (ps ++ [p]) a (b.1.take i ++ r :: b.1.drop i, b.2 + 1) := by
 induction ps with
 | nil =>
  intro a b h i r hi ho hn
  have h : b = a := h
  subst h
  exact ⟨i, r, hi, ho, hn, rfl⟩
 | cons q ps ih =>
  intro a b h i r hi ho hn
  obtain ⟨j, r2, h1, h2, h3, h4⟩ := h
  exact ⟨j, r2, h1, h2, h3, ih h4 hi ho hn⟩
theorem mem_put {rs : List Mem.Reg} {i : Nat} {r : Mem.Reg} (y : Mem.Reg) : y ∈ rs.take i ++ r :: rs.drop i ↔ y = r ∨ y ∈ rs := by
 rw [List.mem_append, List.mem_cons]
 constructor
 ·rintro (hx | rfl | hx)
  ·exact Or.inr (List.mem_of_mem_take hx)
  ·exact Or.inl rfl
  ·exact Or.inr (List.mem_of_mem_drop hx)
 ·rintro (rfl | hx)
  ·exact Or.inr (Or.inl rfl)
  ·rw [← List.take_append_drop i rs, List.mem_append] at hx
   rcases hx with hx | hx
   ·exact Or.inl hx
   ·exact Or.inr (Or.inr hx)
theorem PAdds.facts {ps : List (Int × Int)} : ∀ {a b : List Mem.Reg × Nat}, PAdds ps a b → b.1.length = a.1.length + ps.length ∧ b.2 = a.2 + ps.length ∧ (∀ r ∈ a.1, r ∈ b.1) ∧ (∀ p ∈ ps, ∃ r ∈ b.1, ∃ id, Mem.RegOk r ∧ Mem.NewReg r id p.1 p.2 3) ∧ (∀ r ∈ b.1, r ∈ a.1 ∨ ∃ p ∈ ps, ∃ id, Mem.NewReg r id p.1 p.2 3) := by
 induction ps with
 | nil =>
  intro a b h
  have h : b = a := h
  subst h
  exact ⟨rfl, rfl, fun _ hr => hr, by simp, fun _ hr => Or.inl hr⟩
 | cons q ps ih =>
  intro a b h
  obtain ⟨j, r2, h1, h2, h3, h4⟩ := h
  obtain ⟨e1, e2, e3, e4, e5⟩ := ih h4
  refine ⟨?_, ?_, fun r hr => e3 r ((mem_put r).2 (Or.inr hr)), fun p hp => ?_, fun r hr => ?_⟩
  ·rw [e1]
   simp
   omega
  ·rw [e2]
   simp
   omega
  ·rcases List.mem_cons.1 hp with rfl | hp
   ·exact ⟨r2, e3 r2 ((mem_put r2).2 (Or.inl rfl)), _, h2, h3⟩
   ·exact e4 p hp
  ·rcases e5 r hr with hx | ⟨p, hp, id, hx⟩
   ·rcases (mem_put r).1 hx with rfl | hx
    ·exact Or.inr ⟨q, by simp, _, h3⟩
    ·exact Or.inl hx
   ·exact Or.inr ⟨p, by simp [hp], id, hx⟩
def rowP (i : Nat) (v : Int) (n : Nat) : List (Int × Int) := (List.range n).map fun s : Nat => (plI i s, v)
theorem rowP_succ (i : Nat) (v : Int) (n : Nat) : rowP i v (n + 1) = rowP i v n ++ [(plI i n, v)] := by
 unfold rowP
 rw [List.range_succ, List.map_append]
 rfl
theorem rowP_len (i : Nat) (v : Int) (n : Nat) : (rowP i v n).length = n := by simp [rowP]
def plcs (ds : List MDef) (k : Nat) : List (Int × Int) := (List.range k).flatMap fun i => match ds[i]? with
 | some d => rowP i d.val d.max.toNat
 | none => []
theorem plcs_succ {ds : List MDef} {k : Nat} {d : MDef} (h : ds[k]? = some d) : plcs ds (k + 1) = plcs ds k ++ rowP k d.val d.max.toNat := by
 unfold plcs
 rw [List.range_succ, List.flatMap_append, List.flatMap_singleton, h]
theorem plcs_mem {ds : List MDef} {k : Nat} {p : Int × Int} (h : p ∈ plcs ds k) : ∃ (i : Nat) (d : MDef) (s : Nat), i < k ∧ ds[i]? = some d ∧ (s : Int) < d.max ∧ p = (plI i s, d.val) := by
 unfold plcs at h
 obtain ⟨i, hi, hp⟩ := List.mem_flatMap.1 h
 cases hd : ds[i]? with
 | none =>
  rw [hd] at hp
  cases hp
 | some d =>
  rw [hd] at hp
  obtain ⟨s, hs, rfl⟩ := List.mem_map.1 hp
  have := List.mem_range.1 hs
  exact ⟨i, d, s, List.mem_range.1 hi, hd, by omega, rfl⟩
theorem plcs_len {ds : List MDef} : ∀ {k : Nat}, k ≤ ds.length → (∀ d ∈ ds, 0 ≤ d.max) → ((plcs ds k).length : Int) = maxSum (ds.take k)
 | 0, _, _ => by simp [plcs, maxSum]
 | k + 1, hk, h => by
  have hd : ds[k]? = some ds[k] := List.getElem?_eq_getElem (by omega)
  rw [plcs_succ hd, maxSum_snoc ds k _ hd, List.length_append, rowP_len, ← plcs_len (k := k) (by omega) h]
  have := h _ (List.mem_of_getElem? hd)
  omega
theorem NewReg.off {r : Mem.Reg} {id b n p v : Int} (h : Mem.NewReg r id b n 3) (h0 : 0 ≤ n) (hp : p + v ≤ b ∨ b + n ≤ p) : ¬ (r.base < p + v ∧ p < r.base + (r.bytes.length : Int)) := by
 have h1 := h.hbase
 have h2 := h.hbytes
 rw [h1, h2, List.length_replicate]
 omega
theorem PAdds.free {ps : List (Int × Int)} {a b : List Mem.Reg × Nat} (h : PAdds ps a b) {p v : Int} (hf : Mem.busyB a.1 p v = false) (ho : ∀ q ∈ ps, 0 ≤ q.2 ∧ (p + v ≤ q.1 ∨ q.1 + q.2 ≤ p)) : Mem.busyB b.1 p v = false := by
 obtain ⟨_, _, _, _, e5⟩ := h.facts
 cases hb : Mem.busyB b.1 p v with
 | false => rfl
 | true =>
  unfold Mem.busyB at hb
  rw [List.any_eq_true] at hb
  obtain ⟨r, hr, hb⟩ := hb
  have hb := of_decide_eq_true hb
  rcases e5 r hr with hx | ⟨q, hq, id, hx⟩
  ·rw [Mem.busy_of hx hb.1 hb.2] at hf
   cases hf
  ·exact absurd hb (NewReg.off hx (ho q hq).1 (ho q hq).2)
theorem pl_apart {i j s t : Nat} (hs : s < 64) (ht : t < 64) {v u : Int} (v1 : 1 ≤ v) (v2 : v ≤ 64) (u1 : 1 ≤ u) (u2 : u ≤ 64) (h : i ≠ j ∨ s ≠ t) : plI i s + v ≤ plI j t ∨ plI j t + u ≤ plI i s := by
 unfold plI
 omega
structure SetAt (w w' : World) (x : PT) (s s' : Mem.MS) (ps : List (Int × Int)) : Prop where
 both : PBoth w' x s'
 m : s'.m = s.m
 own : ∀ b ∈ s'.blocks, b ∈ s.blocks ∨ w.heap.size ≤ b
 touch : Touch s.blocks w w'
 adds : PAdds ps (s.rs, s.next) (s'.rs, s'.next)
theorem SetAt.start {w : World} {x : PT} {s : Mem.MS} (h : PBoth w x s) : SetAt w w x s s [] := ⟨h, rfl, fun _ hb => Or.inl hb, Touch.refl _ _, rfl⟩
theorem SetAt.still {w w' w2 : World} {x : PT} {s s' : Mem.MS} {ps : List (Int × Int)} (h : SetAt w w' x s s' ps) (ht : Touch [] w' w2) : SetAt w w2 x s s' ps := ⟨h.both.still ht, h.m, h.own, h.touch.trans ht (by simp), h.adds⟩
theorem SetAt.add {w w' w2 : World} {x : PT} {s s' : Mem.MS} {ps : List (Int × Int)} {p v : Int} {e : Ending} (h : SetAt w w' x s s' ps) (hp : Mem.AddPost w' s' p v 3 e w2) (h0 : Mem.addE s'.rs p v 3 = 0) : ∃ s2, SetAt w w2 x s s2 (ps ++ [(p, v)]) ∧ Touch s'.blocks w' w2 ∧ ∀ b ∈ s2.blocks, b ∈ s'.blocks ∨ w'.heap.size ≤ b := by
 obtain ⟨_, ht, s2, hA, hO, _, hY⟩ := hp
 obtain ⟨hn, i, r, hi, hrs, hr⟩ := hY h0
 have hro : Mem.RegOk r := hA.ok r (by rw [hrs]; simp)
 have hsz := h.touch.size
 refine ⟨s2, ⟨h.both.over hA hO.1 hO.2 ht, by rw [hO.1, h.m], fun b hb => ?_, h.touch.trans ht (fun b hb => h.own b hb), ?_⟩, ht, hO.2⟩
 ·rcases hO.2 b hb with h1 | h1
  ·exact h.own b h1
  ·exact Or.inr (by omega)
 ·rw [hrs, hn]
  exact h.adds.snoc (p := (p, v)) hi hro hr
end Go.Proofs.YtmhhahmjkopjhaaGreat
end
section
namespace Go.Proofs.YtmhhahmjkopjhaaGreat.Mem
open Go.RowKit
def num (bs : Nat → Int) : Nat → Int
 | 0 => 0
 | n + 1 => num bs n + bs n * 256 ^ n
theorem num_bd (bs : Nat → Int) : ∀ n, (∀ j, j < n → 0 ≤ bs j ∧ bs j ≤ 255) → 0 ≤ num bs n ∧ num bs n < 256 ^ n
 | 0, _ => by simp [num]
 | n + 1, h => by
  have h1 := num_bd bs n (fun j hj => h j (by omega))
  have h2 := h n (by omega)
  have h3 : (0 : Int) < 256 ^ n := Int.pow_pos (by omega)
  have h4 : bs n * 256 ^ n ≤ 255 * 256 ^ n := Int.mul_le_mul_of_nonneg_right h2.2 (by omega)
  have h5 : 0 ≤ bs n * 256 ^ n := Int.mul_nonneg h2.1 (by omega)
  unfold num
  rw [Int.pow_succ]
  omega
theorem num_congr {f g : Nat → Int} : ∀ n, (∀ j, j < n → f j = g j) → num f n = num g n
 | 0, _ => rfl
 | n + 1, h => by unfold num; rw [num_congr n (fun j hj => h j (by omega)), h n (by omega)]
theorem or_place (a x : Int) (k : Nat) (hk : k ≤ 7) (ha0 : 0 ≤ a) (ha1 : a < 256 ^ k) (hx0 : 0 ≤ x) (hx1 : x ≤ 255) :
  bits .or .u64 a (IntKind.u64.wrap (x * 2 ^ (8 * k))) = a + x * 256 ^ k := by
 obtain ⟨A, rfl⟩ := Int.eq_ofNat_of_zero_le ha0
 obtain ⟨X, rfl⟩ := Int.eq_ofNat_of_zero_le hx0
 have hp : (2 : Int) ^ (8 * k) = 256 ^ k := by rw [Int.pow_mul]; rfl
 have hA : A < 2 ^ (8 * k) := by
  have : ((A : Nat) : Int) < ((2 ^ (8 * k) : Nat) : Int) := by rw [Int.natCast_pow]; show (A : Int) < (2 : Int) ^ (8 * k); rw [hp]; exact ha1
  omega
 have hle : (2 : Nat) ^ (8 * k) ≤ 2 ^ 56 := Nat.pow_le_pow_right (by omega) (by omega)
 have hX : 2 ^ (8 * k) * X < 18446744073709551616 := by
  have : 2 ^ (8 * k) * X ≤ 2 ^ 56 * 255 := Nat.mul_le_mul hle (by omega)
  omega
 have hc : (X : Int) * 2 ^ (8 * k) = ((2 ^ (8 * k) * X : Nat) : Int) := by rw [Int.natCast_mul, Int.natCast_pow, Int.mul_comm]; rfl
 rw [← hp, hc, IntKind.wrap_u64, Int.emod_eq_of_lt (by omega) (by omega), u64_or_nat A _ (by omega) hX, Nat.or_comm, ← Nat.two_pow_add_eq_or_of_lt hA]
 omega
theorem number_any (b off n c : Nat) (bs : Nat → Int) (w : World) (hn : n ≤ 8)
  (hc : ∀ j, j < n → w.cell? ⟨b, off + j, none⟩ = some (.int .u8 (bs j))) (hb : ∀ j, j < n → 0 ≤ bs j ∧ bs j ≤ 255) :
  Calls Tryz.prog 53 #[.slice (some ⟨b, off, none⟩) n c] w fun e w' => e = .returned (.int .u64 (num bs n)) ∧ w' = w := by
 have HC := toHid hc
 have HB := toHid hb
 clear hc hb
 go_enter Tryz.func53, Tryz.ntmps53
 go_wp2
 go_loop [3, 8] (fun v t => ∃ k : Nat, k ≤ n ∧ t = .int .i64 k ∧ v = .int .u64 (num bs k)) (fun _ t => n - (intOf t).toNat)
 case atStart => exact ⟨0, by omega, rfl, rfl⟩
 case round =>
  obtain ⟨k, hk, rfl, rfl⟩ := hrel
  by_cases hlt : k < n
  ·have c1 := HC.out k hlt
   have c2 := HB.out k hlt
   go_wp2
   refine ⟨⟨k + 1, by omega, by go_num, ?_⟩, by simp [intOf]; omega⟩
   have h1 := num_bd bs k (fun j hj => HB.out j (by omega))
   rw [or_place _ _ k (by omega) h1.1 h1.2 c2.1 c2.2]
   rfl
  ·have hkn : k = n := by omega
   subst hkn
   go_wp2
   go_ret
   exact ⟨rfl, rfl⟩
def byteOf (v : Int) (j : Nat) : Int := v / 256 ^ j % 256
theorem byteOf_bd (v : Int) (j : Nat) : 0 ≤ byteOf v j ∧ byteOf v j ≤ 255 := by unfold byteOf; omega
def spreadTo (v : Int) (k : Nat) : List Value := (List.range 8).map (fun j => if j < k then .int .u8 (byteOf v j) else .int .u8 0)
theorem spread_set (v : Int) (k : Nat) (_hk : k < 8) : (spreadTo v k).set k (.int .u8 (byteOf v k)) = spreadTo v (k + 1) := by
 apply List.ext_getElem
 ·simp [spreadTo]
 ·intro j h1 h2
  rw [List.getElem_set]
  simp only [spreadTo, List.getElem_map, List.getElem_range]
  by_cases e : k = j
  ·subst e
   simp
  ·rw [if_neg e]
   by_cases h : j < k
   ·rw [if_pos h, if_pos (by omega)]
   ·rw [if_neg h, if_neg (by omega)]
theorem spread_all (v : Int) : spreadTo v 8 = [.int .u8 (byteOf v 0), .int .u8 (byteOf v 1), .int .u8 (byteOf v 2), .int .u8 (byteOf v 3), .int .u8 (byteOf v 4), .int .u8 (byteOf v 5), .int .u8 (byteOf v 6), .int .u8 (byteOf v 7)] := rfl
theorem byte_shift (v : Int) (k : Nat) : v / 2 ^ (8 * k) % 256 = byteOf v k := by
 unfold byteOf
 rw [Int.pow_mul]
 rfl
theorem spread_any (v : Int) (w : World) (_hv0 : 0 ≤ v) :
  Calls Tryz.prog 64 #[.int .u64 v] w fun e w' => e = .returned (.agg #[.int .u8 (byteOf v 0), .int .u8 (byteOf v 1), .int .u8 (byteOf v 2), .int .u8 (byteOf v 3), .int .u8 (byteOf v 4), .int .u8 (byteOf v 5), .int .u8 (byteOf v 6), .int .u8 (byteOf v 7)]) ∧ Touch [] w w' := by
 have hz : Blk ((w.alloc (.cells #[.int .u8 0, .int .u8 0, .int .u8 0, .int .u8 0, .int .u8 0, .int .u8 0, .int .u8 0, .int .u8 0] 144)).alloc (.cells #[.int .u8 0, .int .u8 0, .int .u8 0, .int .u8 0, .int .u8 0, .int .u8 0, .int .u8 0, .int .u8 0] 144)) (w.heap.size + 1) (spreadTo v 0) 144 := by
  have := Blk.newA (w.alloc (.cells #[.int .u8 0, .int .u8 0, .int .u8 0, .int .u8 0, .int .u8 0, .int .u8 0, .int .u8 0, .int .u8 0] 144)) #[.int .u8 0, .int .u8 0, .int .u8 0, .int .u8 0, .int .u8 0, .int .u8 0, .int .u8 0, .int .u8 0] (spreadTo v 0) 144 rfl
  simpa using this
 have hz0 : Blk ((w.alloc (.cells #[.int .u8 0, .int .u8 0, .int .u8 0, .int .u8 0, .int .u8 0, .int .u8 0, .int .u8 0, .int .u8 0] 144)).alloc (.cells #[.int .u8 0, .int .u8 0, .int .u8 0, .int .u8 0, .int .u8 0, .int .u8 0, .int .u8 0, .int .u8 0] 144)) w.heap.size (spreadTo v 0) 144 :=
  (Blk.newA w #[.int .u8 0, .int .u8 0, .int .u8 0, .int .u8 0, .int .u8 0, .int .u8 0, .int .u8 0, .int .u8 0] (spreadTo v 0) 144 rfl).alloc _
 have HZ := toHid hz
 have HZ0 := toHid hz0
 clear hz hz0
 go_enter Tryz.func64, Tryz.ntmps64
 go_wp2
 go_loopw [5] (fun t w' => ∃ k : Nat, k ≤ 8 ∧ t = .int .i64 k ∧ Hid (Blk w' (w.heap.size + 1) (spreadTo v k) 144 ∧ Blk w' w.heap.size (spreadTo v 0) 144 ∧ Touch [] w w')) (fun t _ => 8 - (intOf t).toNat)
 case atStart => exact ⟨0, by omega, rfl, HZ.out, HZ0.out, ((Touch.refl _ w).alloc _).alloc _⟩
 case round =>
  rename_i wr
  obtain ⟨k, hk, rfl, HI⟩ := hrel
  by_cases hlt : k < 8
  ·have c1 := HI.out.1.cellN (i := k) (by simpa [spreadTo] using hlt)
   have f1 := HI.out.1.frozen k
   have HB := toHid (byte_shift v k)
   go_wp2
   rw [HB.out]
   refine ⟨⟨k + 1, by omega, by go_num, ?_, ?_, ?_⟩, by simp [intOf]; omega⟩
   ·rw [← spread_set v k hlt]
    exact HI.out.1.setCell k _
   ·exact HI.out.2.1.setCell_other _ _ (by simp)
   ·exact HI.out.2.2.setCell _ _ (Or.inr (by simp))
  ·obtain rfl : k = 8 := by omega
   have hB := HI.out.1
   rw [spread_all] at hB
   have hR := HI.out.2.1
   have ht := toHid HI.out.2.2
   have c0 : wr.cell? ⟨w.heap.size + 1, 0, none⟩ = some _ := hB.cell rfl
   have c1 : wr.cell? ⟨w.heap.size + 1, 1, none⟩ = some _ := hB.cell rfl
   have c2 : wr.cell? ⟨w.heap.size + 1, 2, none⟩ = some _ := hB.cell rfl
   have c3 : wr.cell? ⟨w.heap.size + 1, 3, none⟩ = some _ := hB.cell rfl
   have c4 : wr.cell? ⟨w.heap.size + 1, 4, none⟩ = some _ := hB.cell rfl
   have c5 : wr.cell? ⟨w.heap.size + 1, 5, none⟩ = some _ := hB.cell rfl
   have c6 : wr.cell? ⟨w.heap.size + 1, 6, none⟩ = some _ := hB.cell rfl
   have c7 : wr.cell? ⟨w.heap.size + 1, 7, none⟩ = some _ := hB.cell rfl
   have d0 : wr.cell? ⟨w.heap.size, 0, none⟩ = some _ := hR.cell rfl
   have d1 : wr.cell? ⟨w.heap.size, 1, none⟩ = some _ := hR.cell rfl
   have d2 : wr.cell? ⟨w.heap.size, 2, none⟩ = some _ := hR.cell rfl
   have d3 : wr.cell? ⟨w.heap.size, 3, none⟩ = some _ := hR.cell rfl
   have d4 : wr.cell? ⟨w.heap.size, 4, none⟩ = some _ := hR.cell rfl
   have d5 : wr.cell? ⟨w.heap.size, 5, none⟩ = some _ := hR.cell rfl
   have d6 : wr.cell? ⟨w.heap.size, 6, none⟩ = some _ := hR.cell rfl
   have d7 : wr.cell? ⟨w.heap.size, 7, none⟩ = some _ := hR.cell rfl
   have fz := hR.frozen
   clear hB hR HI HZ HZ0
   go_wp2
   refine bodyPost_ret (v := .agg #[.int .u8 (byteOf v 0), .int .u8 (byteOf v 1), .int .u8 (byteOf v 2), .int .u8 (byteOf v 3), .int .u8 (byteOf v 4), .int .u8 (byteOf v 5), .int .u8 (byteOf v 6), .int .u8 (byteOf v 7)]) (by simp [results, Tryz.results64, go_sem, d0, d1, d2, d3, d4, d5, d6, d7]) rfl ⟨rfl, ?_⟩
   exact (((((((ht.out.setCell _ _ (Or.inr (by simp))).setCell _ _ (Or.inr (by simp))).setCell _ _ (Or.inr (by simp))).setCell _ _ (Or.inr (by simp))).setCell _ _ (Or.inr (by simp))).setCell _ _ (Or.inr (by simp))).setCell _ _ (Or.inr (by simp))).setCell _ _ (Or.inr (by simp))
end Go.Proofs.YtmhhahmjkopjhaaGreat.Mem
end
section
namespace Go.Proofs.YtmhhahmjkopjhaaGreat.Mem
open Go.RowKit
theorem indexB_any (b off n c : Nat) (st : Nat → Bool) (w : World) (hn : n ≤ 65536)
  (hc : ∀ j, j < n → w.cell? ⟨b, off + j, none⟩ = some (.bool (st j))) :
  Calls Tryz.prog 99 #[.slice (some ⟨b, off, none⟩) n c, .bool false] w fun e w' => ((∃ i : Nat, i < n ∧ e = .returned (.int .i64 i) ∧ st i = false) ∨ (e = .returned (.int .i64 (-1)) ∧ ∀ j, j < n → st j = true)) ∧ w' = w := by
 have HC := toHid hc
 clear hc
 go_enter Tryz.func99, Tryz.ntmps99
 go_wp2
 go_loop [8] (fun t => ∃ k : Nat, k ≤ n ∧ t = .int .i64 k ∧ Hid (∀ j, j < k → st j = true)) (fun t => n - (intOf t).toNat)
 case atStart => exact ⟨0, by omega, rfl, fun j hj => by omega⟩
 case round =>
  obtain ⟨k, hk, rfl, HI⟩ := hrel
  by_cases hlt : k < n
  ·have c1 := HC.out k hlt
   cases hs : st k with
   | true =>
    rw [hs] at c1
    have HS := toHid hs
    clear hs
    go_wp2
    refine ⟨⟨k + 1, by omega, by go_num, fun j hj => ?_⟩, by simp [intOf]; omega⟩
    by_cases e : j = k
    ·subst e; exact HS.out
    ·exact HI.out j (by omega)
   | false =>
    rw [hs] at c1
    have HS := toHid hs
    clear hs
    go_wp2
    go_ret
    exact ⟨Or.inl ⟨k, hlt, rfl, HS.out⟩, rfl⟩
  ·have hkn : k = n := by omega
   subst hkn
   go_wp2
   go_ret
   exact ⟨Or.inr ⟨rfl, HI.out⟩, rfl⟩
def allSetB (r : Reg) (a n : Nat) : Bool := match r.sb with
 | none => true
 | some _ => ((r.set.drop a).take n).all (fun x => x)
theorem allSetB_yes {r : Reg} {a n : Nat} (h : ∀ j, j < n → r.set.getD (a + j) true = true) : allSetB r a n = true := by
 unfold allSetB
 cases r.sb with
 | none => rfl
 | some s =>
  simp only [List.all_eq_true]
  intro x hx
  obtain ⟨j, hj, rfl⟩ := List.getElem_of_mem hx
  rw [List.getElem_take, List.getElem_drop]
  have hjn : j < n := by rw [List.length_take] at hj; omega
  have := h j hjn
  rw [List.getD_eq_getElem?_getD, List.getElem?_eq_getElem (by rw [List.length_take, List.length_drop] at hj; omega)] at this
  simpa using this
theorem allSetB_no {r : Reg} {a n s i : Nat} (hs : r.sb = some s) (hi : i < n) (hl : a + n ≤ r.set.length) (h : r.set.getD (a + i) true = false) : allSetB r a n = false := by
 unfold allSetB
 rw [hs]
 simp only [List.all_eq_false]
 refine ⟨r.set.getD (a + i) true, ?_, by rw [h]; decide⟩
 rw [List.getD_eq_getElem?_getD, List.getElem?_eq_getElem (by omega)]
 simp only [Option.getD_some]
 rw [List.mem_iff_getElem]
 exact ⟨i, by rw [List.length_take, List.length_drop]; omega, by rw [List.getElem_take, List.getElem_drop]⟩
theorem run_eql_nil {P : Program} (w : World) (t e : TypeId) (a : Option Addr) (l c : Nat) (h : P.underlying t = some (.slice e)) : (binOp .eql t (.slice a l c) (.slice none 0 0)).run P w = .ok (.bool a.isNone) w := by
 simp only [binOp]
 simp [run_equal_slice_nil w t e a l c h]
theorem nil42 (w : World) : (binOp .eql 80 (.slice none 0 0) (.slice none 0 0)).run Tryz.prog w = .ok (.bool true) w := run_eql_nil w 80 4 none 0 0 Tryz.underlying80
theorem some42 (w : World) (a : Addr) (l c : Nat) : (binOp .eql 80 (.slice (some a) l c) (.slice none 0 0)).run Tryz.prog w = .ok (.bool false) w := run_eql_nil w 80 4 (some a) l c Tryz.underlying80
theorem allSet_any {w : World} {r : Reg} (h : RegAt w r) (ho : RegOk r) (a n : Nat) (hn : 1 ≤ n) (han : a + n ≤ r.bytes.length) :
  Calls Tryz.prog 79 #[.pointer (some ⟨r.p, 0, none⟩), .int .i64 a, .int .i64 n] w fun e w' => e = .returned (.bool (allSetB r a n)) ∧ w' = w := by
 have hsz := ho.size2
 have hc4 := h.c4
 unfold Reg.setV at hc4
 cases hs : r.sb with
 | none =>
  rw [hs] at hc4
  simp only at hc4
  have HR : Hid (allSetB r a n = true) := by show allSetB r a n = true; unfold allSetB; rw [hs]
  have hnil := nil42
  clear h ho
  go_enter Tryz.func79, Tryz.ntmps79
  go_wp2
  go_ret
  exact ⟨by rw [HR.out]; rfl, rfl⟩
 | some sb =>
  rw [hs] at hc4
  simp only at hc4
  have hset := h.set sb hs
  have hlen := ho.setLen sb hs
  have HI := toHid (indexB_any sb a n (r.bytes.length - a) (fun j => r.set.getD (a + j) true) w (by omega) (fun j hj => hset.cell (by rw [List.getElem?_map, List.getElem?_eq_getElem (by omega), List.getD_eq_getElem?_getD, List.getElem?_eq_getElem (by omega)]; rfl)))
  have HS := toHid hs
  have HL := toHid hlen
  have q1 : ¬ (r.bytes.length = a) := by omega
  have hnil := some42
  clear h ho hs hlen hset
  go_enter Tryz.func79, Tryz.ntmps79
  go_wp2_with (first | (go_at_call 95; go_in) | (go_at_call 99; refine HI.out.mono ?_; rintro e w ⟨(⟨i, hi, rfl, h1⟩ | ⟨rfl, h1⟩), rfl⟩))
  ·go_ret
   exact ⟨by rw [allSetB_no HS.out hi (by rw [HL.out]; omega) h1]; rfl, rfl⟩
  ·go_ret
   exact ⟨by rw [allSetB_yes h1]; rfl, rfl⟩
theorem oneCell_u8 {bs : List Int} : ∀ v ∈ bs.map (Value.int .u8), v.oneCell' = true := by
 intro v hv
 obtain ⟨x, _, rfl⟩ := List.mem_map.1 hv
 rfl
def BytesAt (w : World) (k off : Nat) (bs : List Int) : Prop := ∀ j v, (bs.map (Value.int .u8))[j]? = some v → w.cell? ⟨k, off + j, none⟩ = some v
theorem BytesAt.touch {S : List Nat} {w w' : World} {k off : Nat} {bs : List Int} (h : BytesAt w k off bs) (ht : Touch S w w') (hk : k ∉ S) : BytesAt w' k off bs := fun j v hj => ht.cell (h j v hj) hk
theorem BytesAt.of_blk {w : World} {k off : Nat} {xs : List Int} {t : TypeId} (h : Blk w k (xs.map (Value.int .u8)) t) (n : Nat) : BytesAt w k off ((xs.drop off).take n) := fun j v hj => by
 refine h.cell ?_
 rw [List.getElem?_map] at hj ⊢
 rw [List.getElem?_take] at hj
 split at hj
 ·rwa [List.getElem?_drop] at hj
 ·simp at hj
theorem copied_any (k off n c : Nat) (bs : List Int) (w : World) (hn : n ≤ 65536) (hl : bs.length = n) (hb : BytesAt w k off bs) (_hk : k < w.heap.size) :
  Calls Tryz.prog 72 #[.slice (some ⟨k, off, none⟩) n c] w fun e w' => e = .returned (.slice (some ⟨w.heap.size, 0, none⟩) n n) ∧ Blk w' w.heap.size (bs.map (Value.int .u8)) 5 ∧ Touch [] w w' := by
 have hmk := run_make_blk (P := Tryz.prog) Tryz.underlying39 info5 rfl n (by omega) (by omega) .i64
 have hN := Blk.new w (List.replicate n (Value.int .u8 0)) 5
 have ht : Touch [] w (w.alloc (.cells (List.replicate n (Value.int .u8 0)).toArray 5)) := (Touch.refl _ w).alloc _
 have hmk0 := hmk w
 clear hmk
 generalize w.alloc (.cells (List.replicate n (Value.int .u8 0)).toArray 5) = W1 at hmk0 hN ht
 have hcp : ∀ ty, (Builtin.copy_ #[39, 39] ty #[.slice (some ⟨w.heap.size, 0, none⟩) n n, .slice (some ⟨k, off, none⟩) n c]).run Tryz.prog W1 = _ := fun ty =>
  run_copy_blk W1 39 39 ty 5 Tryz.underlying39 (size_of_info info5) w.heap.size 0 n n ⟨k, off, none⟩ n c _ 5 (bs.map (Value.int .u8)) hN (by simp only [Nat.min_def, List.length_map, hl]; split <;> omega) (fun j v hj => by
   rw [Addr.add_lit]
   exact ht.cell (hb j v hj) (by simp)) (by simp; omega) oneCell_u8
 have hX : (List.replicate n (Value.int .u8 0)).take 0 ++ bs.map (Value.int .u8) ++ (List.replicate n (Value.int .u8 0)).drop (0 + (bs.map (Value.int .u8)).length) = bs.map (Value.int .u8) := by simp [hl]
 rw [hX] at hcp
 have hB := hN.setRow (bs.map (Value.int .u8))
 have ht2 := ht.setRow w.heap.size (bs.map (Value.int .u8)).toArray (Or.inr (Nat.le_refl _))
 generalize W1.setRow w.heap.size (bs.map (Value.int .u8)).toArray = W2 at hcp hB ht2
 have HC := toHid hcp
 have HB := toHid (And.intro hB ht2)
 clear hcp hB ht2 hX hN ht hb
 go_enter Tryz.func72, Tryz.ntmps72
 go_wp2_with fail
 rw [HC.out]
 go_wp2
 go_ret
 exact ⟨rfl, HB.out⟩
def layR (r : Reg) (a : Nat) (bs : List Int) : Reg :=
 {r with bytes := r.bytes.take a ++ bs ++ r.bytes.drop (a + bs.length), set := match r.sb with
  | none => r.set
  | some _ => r.set.take a ++ List.replicate bs.length true ++ r.set.drop (a + bs.length) }
theorem layR_len {r : Reg} {a : Nat} {bs : List Int} (h : a + bs.length ≤ r.bytes.length) : (layR r a bs).bytes.length = r.bytes.length := by
 simp only [layR, List.length_append, List.length_take, List.length_drop]
 omega
def setTo (st : List Bool) (a k : Nat) : List Value := (st.take a ++ List.replicate k true ++ st.drop (a + k)).map Value.bool
theorem setTo_succ (st : List Bool) (a k : Nat) (h : a + k < st.length) : (setTo st a k).set (a + k) (.bool true) = setTo st a (k + 1) := by
 unfold setTo
 rw [← List.map_set]
 congr 1
 have e : st.drop (a + k) = st[a + k] :: st.drop (a + k + 1) := List.drop_eq_getElem_cons h
 have e2 : (st.take a ++ List.replicate k true).length = a + k := by simp; omega
 rw [e]
 conv => lhs; arg 2; rw [← e2]
 rw [List.set_append_right _ _ (Nat.le_refl _), Nat.sub_self, List.set_cons_zero, List.replicate_succ', ← Nat.add_assoc]
 simp
theorem RegAt.laid {w w' : World} {r : Reg} {a : Nat} {bs : List Int} (_h : RegAt w r) (hl : a + bs.length ≤ r.bytes.length) (hp : Blk w' r.p r.cells 138)
  (hb : Blk w' r.bb ((layR r a bs).bytes.map (Value.int .u8)) 5) (hs : ∀ s, r.sb = some s → Blk w' s (setTo r.set a bs.length) 4) : RegAt w' (layR r a bs) where
 self := by
  have e : (layR r a bs).cells = r.cells := by
   unfold Reg.cells Reg.setV
   rw [layR_len hl]
   rfl
  rw [e]
  exact hp
 bytes := hb
 set := fun s hs' => by
  have hs'' : r.sb = some s := hs'
  have := hs s hs''
  unfold setTo at this
  simp only [layR, hs'']
  exact this
theorem rlay_any {w : World} {r : Reg} (h : RegAt w r) (ho : RegOk r) (a k off n c : Nat) (bs : List Int) (hn1 : 1 ≤ n) (hl : bs.length = n) (han : a + n ≤ r.bytes.length) (hb : BytesAt w k off bs) :
  Calls Tryz.prog 88 #[.pointer (some ⟨r.p, 0, none⟩), .int .i64 a, .slice (some ⟨k, off, none⟩) n c] w fun e w' => e = .returned (.tuple #[]) ∧ RegAt w' (layR r a bs) ∧ Touch (r.bb :: r.sb.toList) w w' := by
 have hsz := ho.size2
 have hown := ho.own
 simp only [Reg.blocks, List.nodup_cons, List.mem_cons, not_or] at hown
 have hcp : ∀ ty dc, (Builtin.copy_ #[39, 39] ty #[.slice (some ⟨r.bb, a, none⟩) (r.bytes.length - a) dc, .slice (some ⟨k, off, none⟩) n c]).run Tryz.prog w = _ := fun ty dc =>
  run_copy_blk w 39 39 ty 5 Tryz.underlying39 (size_of_info info5) r.bb a (r.bytes.length - a) dc ⟨k, off, none⟩ n c _ 5 (bs.map (Value.int .u8)) h.bytes (by simp only [Nat.min_def, List.length_map, hl]; split <;> omega) (fun j v hj => by
   rw [Addr.add_lit]
   exact hb j v hj) (by simp; omega) oneCell_u8
 have hX : (r.bytes.map (Value.int .u8)).take a ++ bs.map (Value.int .u8) ++ (r.bytes.map (Value.int .u8)).drop (a + (bs.map (Value.int .u8)).length) = (layR r a bs).bytes.map (Value.int .u8) := by
  simp [layR, List.map_take, List.map_drop]
 rw [hX] at hcp
 have hB := h.bytes.setRow ((layR r a bs).bytes.map (Value.int .u8))
 have hP := h.self.setRow_other r.bb ((layR r a bs).bytes.map (Value.int .u8)).toArray hown.1.1
 have hS : ∀ s, r.sb = some s → Blk (w.setRow r.bb ((layR r a bs).bytes.map (Value.int .u8)).toArray) s (setTo r.set a 0) 4 := fun s hs => by
  have : setTo r.set a 0 = r.set.map Value.bool := by simp [setTo]
  rw [this]
  refine (h.set s hs).setRow_other _ _ (fun e => hown.2.1 ?_)
  rw [hs, e]
  simp
 have ht : Touch (r.bb :: r.sb.toList) w (w.setRow r.bb ((layR r a bs).bytes.map (Value.int .u8)).toArray) := (Touch.refl _ w).setRow _ _ (Or.inl (by simp))
 generalize w.setRow r.bb ((layR r a bs).bytes.map (Value.int .u8)).toArray = W1 at hcp hB hP hS ht
 have hc3 := h.c3
 have q1 : ¬ (r.bytes.length = a) := by omega
 have q2 : (a : Int) ≤ r.bytes.length := by omega
 cases hsb : r.sb with
 | none =>
  have hc4 : W1.cell? ⟨r.p, 4, none⟩ = some r.setV := hP.cell rfl
  unfold Reg.setV at hc4
  rw [hsb] at hc4
  simp only at hc4
  have HF : Hid (RegAt W1 (layR r a bs) ∧ Touch (r.bb :: r.sb.toList) w W1) := ⟨h.laid (by omega) hP hB (fun s hs => by rw [hsb] at hs; cases hs), ht⟩
  rw [hsb] at HF
  have HC := toHid hcp
  have hnil := nil42
  clear hcp hX hB hP hS ht h ho hb
  go_enter Tryz.func88, Tryz.ntmps88
  go_wp2_with fail
  rw [HC.out]
  go_wp2
  exact bodyPost_ret (v := .tuple #[]) (by simp [results, Tryz.results88]) rfl ⟨rfl, HF.out⟩
 | some sb =>
  have hset := hS sb hsb
  have hlen := ho.setLen sb hsb
  have hc4 : W1.cell? ⟨r.p, 4, none⟩ = some r.setV := hP.cell rfl
  unfold Reg.setV at hc4
  rw [hsb] at hc4
  simp only at hc4
  rw [hsb] at ht
  have HT := toHid ht
  have HS := toHid hset
  have HP := toHid hP
  have HBB := toHid hB
  have HC := toHid hcp
  have hnil := some42
  have hne1 : ¬ sb = r.p := fun e => hown.1.2 (by rw [hsb, e]; simp)
  have hne2 : ¬ sb = r.bb := fun e => hown.2.1 (by rw [hsb, e]; simp)
  have HR := toHid h
  have HSB := toHid hsb
  clear hcp hX hB hP hS ht h ho hb hset hsb
  go_enter Tryz.func88, Tryz.ntmps88
  go_wp2_with fail
  rw [HC.out]
  go_wp2
  go_loopw [22] (fun t w' => ∃ i : Nat, i ≤ n ∧ t = .int .i64 i ∧ Hid (Blk w' sb (setTo r.set a i) 4 ∧ Blk w' r.p r.cells 138 ∧ Blk w' r.bb ((layR r a bs).bytes.map (Value.int .u8)) 5 ∧ Touch [r.bb, sb] w w')) (fun t _ => n - (intOf t).toNat)
  case atStart => exact ⟨0, by omega, rfl, HS.out, HP.out, HBB.out, HT.out⟩
  case round =>
   rename_i wr
   obtain ⟨i, hi, rfl, HI⟩ := hrel
   clear hc4
   have hc4 : wr.cell? ⟨r.p, 4, none⟩ = some r.setV := HI.out.2.1.cell rfl
   unfold Reg.setV at hc4
   rw [HSB.out] at hc4
   simp only at hc4
   by_cases hlt : i < n
   ·have c1 := HI.out.1.cellN (i := a + i) (by simp [setTo]; omega)
    have f1 := HI.out.1.frozen (a + i)
    go_wp2
    refine ⟨⟨i + 1, by omega, by go_num, ?_, ?_, ?_, ?_⟩, by simp [intOf]; omega⟩
    ·rw [← setTo_succ r.set a i (by omega)]
     exact HI.out.1.setCell _ _
    ·exact HI.out.2.1.setCell_other _ _ (fun e => hne1 e.symm)
    ·exact HI.out.2.2.1.setCell_other _ _ (fun e => hne2 e.symm)
    ·exact HI.out.2.2.2.setCell _ _ (Or.inl (by simp))
   ·obtain rfl : i = n := by omega
    go_wp2
    go_end0
    refine ⟨rfl, HR.out.laid (by omega) HI.out.2.1 HI.out.2.2.1 (fun s hs => ?_), by simpa using HI.out.2.2.2⟩
    rw [HSB.out] at hs
    injection hs with hs
    subst hs
    rw [hl]
    exact HI.out.1
end Go.Proofs.YtmhhahmjkopjhaaGreat.Mem
end
section
namespace Go.Proofs.YtmhhahmjkopjhaaGreat.Mem
open Go.RowKit
def updR (rs : List Reg) (id : Int) (f : Reg → Reg) : List Reg := rs.map (fun x => if x.id = id then f x else x)
theorem layR_ok {r : Reg} {a : Nat} {bs : List Int} (h : RegOk r) (hl : a + bs.length ≤ r.bytes.length) (hb : ∀ x ∈ bs, 0 ≤ x ∧ x ≤ 255) : RegOk (layR r a bs) where
 base0 := h.base0
 size1 := by rw [layR_len hl]; exact h.size1
 size2 := by rw [layR_len hl]; exact h.size2
 fits := by rw [layR_len hl]; exact h.fits
 perm0 := h.perm0
 perm1 := h.perm1
 plain := h.plain
 setLen := fun s hs => by
  have hs' : r.sb = some s := hs
  have := h.setLen s hs'
  rw [layR_len hl, ← this]
  simp only [layR, hs', List.length_append, List.length_take, List.length_drop, List.length_replicate]
  omega
 setNil := fun hs => by
  have hs' : r.sb = none := hs
  simp only [layR, hs']
  exact h.setNil hs'
 byte := fun x hx => by
  simp only [layR, List.mem_append] at hx
  rcases hx with (hx | hx) | hx
  ·exact h.byte x (List.mem_of_mem_take hx)
  ·exact hb x hx
  ·exact h.byte x (List.mem_of_mem_drop hx)
 own := h.own
theorem nodup_flat {l : List Reg} (h : (l.flatMap Reg.blocks).Nodup) {x y : Reg} (hx : x ∈ l) (hy : y ∈ l) (hne : x.id ≠ y.id) : ∀ b ∈ x.blocks, b ∉ y.blocks := by
 intro b hb hb'
 obtain ⟨i, hi, rfl⟩ := List.getElem_of_mem hx
 obtain ⟨j, hj, rfl⟩ := List.getElem_of_mem hy
 have hij : i ≠ j := fun e => hne (by subst e; rfl)
 have hp := (List.pairwise_flatMap.1 h).2
 rcases Nat.lt_or_gt_of_ne hij with hlt | hlt
 ·exact (List.pairwise_iff_getElem.1 hp) i j hi hj hlt b hb b hb' rfl
 ·exact (List.pairwise_iff_getElem.1 hp) j i hj hi hlt b hb' b hb rfl
theorem id_inj {l : List Reg} (h : l.Pairwise (fun a b => a.id ≠ b.id)) {x y : Reg} (hx : x ∈ l) (hy : y ∈ l) (he : x.id = y.id) : x = y := by
 obtain ⟨i, hi, rfl⟩ := List.getElem_of_mem hx
 obtain ⟨j, hj, rfl⟩ := List.getElem_of_mem hy
 rcases Nat.lt_trichotomy i j with hlt | rfl | hlt
 ·exact absurd he ((List.pairwise_iff_getElem.1 h) i j hi hj hlt)
 ·rfl
 ·exact absurd he.symm ((List.pairwise_iff_getElem.1 h) j i hj hi hlt)
theorem MemAt.upd {w w' : World} {s : MS} (h : MemAt w s) {r : Reg} (hr : r ∈ s.rs) {a : Nat} {bs : List Int} (hl : a + bs.length ≤ r.bytes.length) (hb : ∀ x ∈ bs, 0 ≤ x ∧ x ≤ 255)
  (hr' : RegAt w' (layR r a bs)) (ht : Touch (r.bb :: r.sb.toList) w w') : MemAt w' { s with rs := updR s.rs r.id (layR · a bs) } ∧ ({ s with rs := updR s.rs r.id (layR · a bs) } : MS).blocks = s.blocks := by
 have hsub : ∀ b, b ∈ r.bb :: r.sb.toList → b ∈ r.blocks := fun b hb => by
  unfold Reg.blocks
  exact List.mem_cons_of_mem _ hb
 have hap := h.apart
 simp only [MS.blocks, List.cons_append, List.nodup_cons, List.mem_append, List.nodup_append] at hap
 have hin : ∀ b ∈ r.blocks, b ∈ s.rs.flatMap Reg.blocks := fun b hb => List.mem_flatMap.2 ⟨r, hr, hb⟩
 have hptr : (updR s.rs r.id (layR · a bs)).map Reg.ptr = s.rs.map Reg.ptr := by
  unfold updR
  rw [List.map_map]
  refine List.map_congr_left (fun x _ => ?_)
  simp only [Function.comp]
  split <;> rfl
 have hbl : (updR s.rs r.id (layR · a bs)).flatMap Reg.blocks = s.rs.flatMap Reg.blocks := by
  unfold updR
  rw [List.flatMap_map]
  congr 1
  funext x
  split <;> rfl
 have hlen : (updR s.rs r.id (layR · a bs)).length = s.rs.length := by simp [updR]
 have hmem : ∀ x ∈ updR s.rs r.id (layR · a bs), x = layR r a bs ∨ (x ∈ s.rs ∧ x.id ≠ r.id) := by
  intro x hx
  unfold updR at hx
  obtain ⟨y, hy, rfl⟩ := List.mem_map.1 hx
  split
  ·rename_i he
   left
   rw [id_inj h.ids hy hr he]
  ·rename_i he
   exact Or.inr ⟨hy, he⟩
 have hpw : ∀ (R : Reg → Reg → Prop), (∀ x y, R x y → R (if x.id = r.id then layR x a bs else x) (if y.id = r.id then layR y a bs else y)) → s.rs.Pairwise R → (updR s.rs r.id (layR · a bs)).Pairwise R := by
  intro R hR hp
  unfold updR
  rw [List.pairwise_map]
  exact hp.imp (fun {x y} hxy => hR x y hxy)
 refine ⟨⟨?_, ?_, ?_, ?_, ?_, ?_, ?_, ?_, ?_⟩, ?_⟩
 ·show Blk w' s.m [slV s.g (updR s.rs r.id (layR · a bs)).length s.cap, .int .i64 s.next] 79
  rw [hlen]
  exact ht.blk h.self (fun hx => hap.1 (Or.inr (hin _ (hsub _ hx))))
 ·show RowAt w' 118 1 s.g (updR s.rs r.id (layR · a bs)).length s.cap ((updR s.rs r.id (layR · a bs)).map Reg.ptr)
  rw [hlen, hptr]
  exact h.row.touch ht (fun b hb hx => hap.2.2.2 b (by simp [hb]) b (hin _ (hsub _ hx)) rfl)
 ·intro x hx
  rcases hmem x hx with rfl | ⟨hx, hne⟩
  ·exact hr'
  ·exact (h.regs x hx).touch ht (fun b hb hh => nodup_flat hap.2.2.1 hx hr hne b hb (hsub _ hh))
 ·intro x hx
  rcases hmem x hx with rfl | ⟨hx, _⟩
  ·exact layR_ok (h.ok r hr) hl hb
  ·exact h.ok x hx
 ·show (s.m :: s.g.toList ++ (updR s.rs r.id (layR · a bs)).flatMap Reg.blocks).Nodup
  rw [hbl]
  exact h.apart
 ·have hsl : ∀ x ∈ s.rs, (if x.id = r.id then layR x a bs else x).bytes.length = x.bytes.length ∧ (if x.id = r.id then layR x a bs else x).base = x.base := by
   intro x hx
   split
   ·rename_i he
    rw [id_inj h.ids hx hr he]
    exact ⟨layR_len hl, rfl⟩
   ·exact ⟨rfl, rfl⟩
  unfold updR
  rw [List.pairwise_map]
  refine List.Pairwise.imp_of_mem ?_ h.sorted
  intro x y hx hy hxy
  rw [(hsl x hx).1, (hsl x hx).2, (hsl y hy).2]
  exact hxy
 ·refine hpw _ (fun x y hxy => ?_) h.ids
  split <;> split <;> exact hxy
 ·intro x hx
  rcases hmem x hx with rfl | ⟨hx, _⟩
  ·exact h.idlt r hr
  ·exact h.idlt x hx
 ·show (updR s.rs r.id (layR · a bs)).length ≤ 4096
  rw [hlen]
  exact h.many
 ·show s.m :: s.g.toList ++ (updR s.rs r.id (layR · a bs)).flatMap Reg.blocks = _
  rw [hbl]
  rfl
def mayB (r : Reg) (addr n perm : Int) : Bool := decide (addr - r.base ≤ (r.bytes.length : Int) - n ∧ bits .and .i64 r.perm perm ≠ 0)
def layE (rs : List Reg) (addr n : Int) : Int := match findR rs addr with
 | none => 10
 | some r => if mayB r addr n 2 = true then 0 else 10
def layRs (rs : List Reg) (addr : Int) (bs : List Int) : List Reg := match findR rs addr with
 | none => rs
 | some r => if mayB r addr bs.length 2 = true then updR rs r.id (layR · (addr - r.base).toNat bs) else rs
def LayPost (w : World) (s : MS) (addr : Int) (bs : List Int) (e : Ending) (w' : World) : Prop :=
 e = .returned (.int .i64 (layE s.rs addr bs.length)) ∧ Touch s.blocks w w' ∧ MemAt w' { s with rs := layRs s.rs addr bs } ∧ ({ s with rs := layRs s.rs addr bs } : MS).blocks = s.blocks
theorem accessV_mayB {r : Reg} {addr n perm : Int} : accessV (some r) addr n perm = if mayB r addr n perm = true then .tuple #[.pointer (some ⟨r.p, 0, none⟩), .int .i64 (addr - r.base), .int .i64 0] else .tuple #[.pointer none, .int .i64 0, .int .i64 10] := by
 unfold accessV mayB
 by_cases h : addr - r.base ≤ (r.bytes.length : Int) - n ∧ bits .and .i64 r.perm perm ≠ 0
 ·simp [h]
 ·simp [h]
theorem lay_any {w : World} {s : MS} (h : MemAt w s) (addr : Int) (k off n c : Nat) (bs : List Int) (ha0 : 0 ≤ addr) (ha1 : addr ≤ 18446744073709551615) (hn1 : 1 ≤ n) (hn2 : n ≤ 9223372036854775807) (hl : bs.length = n)
  (hb : BytesAt w k off bs) (hbb : ∀ x ∈ bs, 0 ≤ x ∧ x ≤ 255) :
  Calls Tryz.prog 65 #[.pointer (some ⟨s.m, 0, none⟩), .int .u64 addr, .slice (some ⟨k, off, none⟩) n c] w (LayPost w s addr bs) := by
 have hA := access_any h addr n 2 ha0 ha1 (by omega) (by omega)
 cases hf : findR s.rs addr with
 | none =>
  rw [hf] at hA
  have HF : ∀ k, Hid (LayPost w s addr bs (.returned (.int .i64 10)) (w.drewN k)) := fun k => by
   refine ⟨by simp only [layE, hf], (Touch.refl _ w).drewN k, ?_, ?_⟩
   ·simp only [layRs, hf]
    exact h.touch ((Touch.refl [] w).drewN k) (by simp)
   ·simp only [layRs, hf]
  have HA := toHid hA
  clear hA h hf hb
  go_enter Tryz.func65, Tryz.ntmps65
  go_wp2_with (go_at_call 78; refine HA.out.mono ?_; rintro e w' ⟨rfl, k2, rfl⟩; simp only [accessV])
  go_ret
  exact (HF _).out
 | some r =>
  rw [hf, accessV_mayB] at hA
  have hr := findR_mem hf
  cases hm : mayB r addr n 2 with
  | false =>
   rw [hm] at hA
   have HF : ∀ k, Hid (LayPost w s addr bs (.returned (.int .i64 10)) (w.drewN k)) := fun k => by
    refine ⟨by simp [layE, hf, hl, hm], (Touch.refl _ w).drewN k, ?_, ?_⟩
    ·simp only [layRs, hf, hl, hm]
     exact h.touch ((Touch.refl [] w).drewN k) (by simp)
    ·simp [layRs, hf, hl, hm]
   have HA := toHid hA
   clear hA h hf hb
   go_enter Tryz.func65, Tryz.ntmps65
   go_wp2_with (go_at_call 78; refine HA.out.mono ?_; rintro e w' ⟨rfl, k2, rfl⟩; simp only [Bool.false_eq_true, ↓reduceIte])
   go_ret
   exact (HF _).out
  | true =>
   rw [hm] at hA
   have hin := of_decide_eq_true hr.2
   have hreach := (of_decide_eq_true hm).1
   obtain ⟨a, ha⟩ : ∃ a : Nat, addr - r.base = a := ⟨(addr - r.base).toNat, by omega⟩
   rw [ha] at hA hreach
   have HF : ∀ w', RegAt w' (layR r a bs) → Touch (r.bb :: r.sb.toList) w w' → Hid (LayPost w s addr bs (.returned (.int .i64 0)) w') := fun w' h1 h2 => by
    have hu := h.upd hr.1 (a := a) (bs := bs) (by omega) hbb h1 h2
    refine ⟨by simp [layE, hf, hl, hm], h2.mono (fun x hx => Or.inl (s.mem_r hr.1 (by unfold Reg.blocks; exact List.mem_cons_of_mem _ hx))), ?_⟩
    have e : layRs s.rs addr bs = updR s.rs r.id (layR · a bs) := by
     have : a = (addr - r.base).toNat := by omega
     subst this
     simp [layRs, hf, hl, hm]
    rw [e]
    exact hu
   have HFH := toHid HF
   have HL : ∀ k2, Hid _ := fun k2 => toHid (rlay_any ((h.regs r hr.1).touch ((Touch.refl [] w).drewN k2) (by simp)) (h.ok r hr.1) a k off n c bs hn1 hl (by omega) (hb.touch ((Touch.refl [] w).drewN k2) (by simp)))
   have HA := toHid hA
   clear hA h hf hb HF hm
   go_enter Tryz.func65, Tryz.ntmps65
   go_wp2_with (go_at_call 78; refine HA.out.mono ?_; rintro e w' ⟨rfl, k2, rfl⟩; simp only [↓reduceIte])
   refine (HL _).out.mono ?_
   rintro e w' ⟨rfl, h1, h2⟩
   have H3 := HFH.out w' h1 ((((Touch.refl [] w).drewN k2).nil).trans h2 (fun x hx => Or.inl hx))
   clear h1 h2 HFH HL
   go_wp2
   go_ret
   exact H3.out
end Go.Proofs.YtmhhahmjkopjhaaGreat.Mem
end
section
namespace Go.Proofs.YtmhhahmjkopjhaaGreat.Mem
open Go.RowKit
def lookE (rs : List Reg) (addr n : Int) : Int := match findR rs addr with
 | none => 10
 | some r => if mayB r addr n 1 = true then (if allSetB r (addr - r.base).toNat n.toNat = true then 0 else 11) else 10
def tellR (rs : List Reg) (addr n : Int) : List Int := match findR rs addr with
 | none => []
 | some r => if mayB r addr n 1 = true ∧ allSetB r (addr - r.base).toNat n.toNat = true then (r.bytes.drop (addr - r.base).toNat).take n.toNat else []
def LookPost (w : World) (s : MS) (addr : Int) (n : Nat) (e : Ending) (w' : World) : Prop := (∃ k, w' = w.drewN k) ∧
   ((lookE s.rs addr n ≠ 0 ∧ tellR s.rs addr n = [] ∧ e = .returned (.tuple #[.slice none 0 0, .int .i64 (lookE s.rs addr n)])) ∨
    (lookE s.rs addr n = 0 ∧ ∃ r ∈ s.rs, ∃ a : Nat, a + n ≤ r.bytes.length ∧ tellR s.rs addr n = (r.bytes.drop a).take n ∧ e = .returned (.tuple #[.slice (some ⟨r.bb, a, none⟩) n n, .int .i64 0])))
theorem look_any {w : World} {s : MS} (h : MemAt w s) (addr : Int) (n : Nat) (ha0 : 0 ≤ addr) (ha1 : addr ≤ 18446744073709551615) (hn1 : 1 ≤ n) (hn2 : n ≤ 9223372036854775807) :
  Calls Tryz.prog 52 #[.pointer (some ⟨s.m, 0, none⟩), .int .u64 addr, .int .i64 n] w (LookPost w s addr n) := by
 have hA := access_any h addr n 1 ha0 ha1 (by omega) (by omega)
 cases hf : findR s.rs addr with
 | none =>
  rw [hf] at hA
  have HF : ∀ k, Hid (LookPost w s addr n (.returned (.tuple #[.slice none 0 0, .int .i64 10])) (w.drewN k)) := fun k => by
   have he : lookE s.rs addr n = 10 := by simp only [lookE, hf]
   exact ⟨⟨k, rfl⟩, Or.inl ⟨by rw [he]; decide, by simp only [tellR, hf], by rw [he]⟩⟩
  have HA := toHid hA
  clear hA h hf
  go_enter Tryz.func52, Tryz.ntmps52
  go_wp2_with (go_at_call 78; refine HA.out.mono ?_; rintro e w' ⟨rfl, k2, rfl⟩; simp only [accessV])
  go_ret2
  exact (HF _).out
 | some r =>
  rw [hf, accessV_mayB] at hA
  have hr := findR_mem hf
  cases hm : mayB r addr n 1 with
  | false =>
   rw [hm] at hA
   have HF : ∀ k, Hid (LookPost w s addr n (.returned (.tuple #[.slice none 0 0, .int .i64 10])) (w.drewN k)) := fun k => by
    have he : lookE s.rs addr n = 10 := by simp [lookE, hf, hm]
    exact ⟨⟨k, rfl⟩, Or.inl ⟨by rw [he]; decide, by simp [tellR, hf, hm], by rw [he]⟩⟩
   have HA := toHid hA
   clear hA h hf
   go_enter Tryz.func52, Tryz.ntmps52
   go_wp2_with (go_at_call 78; refine HA.out.mono ?_; rintro e w' ⟨rfl, k2, rfl⟩; simp only [Bool.false_eq_true, ↓reduceIte])
   go_ret2
   exact (HF _).out
  | true =>
   rw [hm] at hA
   have hin := of_decide_eq_true hr.2
   have hreach := (of_decide_eq_true hm).1
   obtain ⟨a, ha⟩ : ∃ a : Nat, addr - r.base = a := ⟨(addr - r.base).toNat, by omega⟩
   rw [ha] at hA hreach
   have hc3 := (h.regs r hr.1).c3
   have hsz := (h.ok r hr.1).size2
   have hal : a + n ≤ r.bytes.length := by omega
   have HS := fun k2 => toHid (allSet_any ((h.regs r hr.1).touch ((Touch.refl [] w).drewN k2) (by simp)) (h.ok r hr.1) a n hn1 hal)
   have HA := toHid hA
   cases hset : allSetB r a n with
   | false =>
    have HF : ∀ k, Hid (LookPost w s addr n (.returned (.tuple #[.slice none 0 0, .int .i64 11])) (w.drewN k)) := fun k => by
     have he : lookE s.rs addr n = 11 := by simp [lookE, hf, hm, ha, hset]
     exact ⟨⟨k, rfl⟩, Or.inl ⟨by rw [he]; decide, by simp [tellR, hf, hm, ha, hset], by rw [he]⟩⟩
    rw [hset] at HS
    clear hA h hf hset hm
    go_enter Tryz.func52, Tryz.ntmps52
    go_wp2_with (first | (go_at_call 78; refine HA.out.mono ?_; rintro e w' ⟨rfl, k2, rfl⟩; simp only [↓reduceIte]) | (go_at_call 79; refine (HS _).out.mono ?_; rintro e w' ⟨rfl, rfl⟩))
    go_ret2
    exact (HF _).out
   | true =>
    have HF : ∀ k, Hid (LookPost w s addr n (.returned (.tuple #[.slice (some ⟨r.bb, a, none⟩) (a + n - a) (a + n - a), .int .i64 0])) (w.drewN k)) := fun k => by
     have he : lookE s.rs addr n = 0 := by simp [lookE, hf, hm, ha, hset]
     exact ⟨⟨k, rfl⟩, Or.inr ⟨he, r, hr.1, a, hal, by simp [tellR, hf, hm, ha, hset], by rw [Nat.add_sub_cancel_left]⟩⟩
    rw [hset] at HS
    have q1 : ¬ (a + n = a) := by omega
    have q2 : (a : Int) + n ≤ r.bytes.length := by omega
    clear hA h hf hset hm hr
    go_enter Tryz.func52, Tryz.ntmps52
    go_wp2_with (first | (go_at_call 78; refine HA.out.mono ?_; rintro e w' ⟨rfl, k2, rfl⟩; simp only [↓reduceIte]) | (go_at_call 79; refine (HS _).out.mono ?_; rintro e w' ⟨rfl, rfl⟩))
    go_ret2
    exact (HF _).out
def wordB (n : Int) : Bool := n == 1 || n == 2 || n == 4 || n == 8
theorem word_of {n : Int} (h : wordB n = true) : n = 1 ∨ n = 2 ∨ n = 4 ∨ n = 8 := by
 unfold wordB at h
 simp at h
 omega
def loadE (rs : List Reg) (addr n : Int) : Int := if wordB n = true then lookE rs addr n else 2
def loadV (rs : List Reg) (addr n : Int) : Int := if wordB n = true ∧ lookE rs addr n = 0 then num (fun j => (tellR rs addr n).getD j 0) n.toNat else 0
def storeE (rs : List Reg) (addr n : Int) : Int := if wordB n = true then layE rs addr n else 2
def storeRs (rs : List Reg) (addr n v : Int) : List Reg := if wordB n = true then layRs rs addr ((List.range n.toNat).map (byteOf v)) else rs
theorem load_any {w : World} {s : MS} (h : MemAt w s) (addr n : Int) (ha0 : 0 ≤ addr) (ha1 : addr ≤ 18446744073709551615) :
  Calls Tryz.prog 28 #[.pointer (some ⟨s.m, 0, none⟩), .int .u64 addr, .int .i64 n] w fun e w' => e = .returned (.tuple #[.int .u64 (loadV s.rs addr n), .int .i64 (loadE s.rs addr n)]) ∧ ∃ k, w' = w.drewN k := by
 cases hw : wordB n with
 | false =>
  have he : loadE s.rs addr n = 2 := by unfold loadE; rw [hw]; rfl
  have hv : loadV s.rs addr n = 0 := by unfold loadV; rw [hw]; rfl
  rw [he, hv]
  have HW : Hid ((n == 1 || n == 2 || n == 4 || n == 8) = false) := hw
  clear h he hv hw
  go_enter Tryz.func28, Tryz.ntmps28
  go_wp2_with (go_at_call 51; refine (isWord_any n _).mono ?_; rintro e w' ⟨rfl, rfl⟩; rw [HW.out])
  go_ret2
  exact ⟨rfl, 0, rfl⟩
 | true =>
  have hnn := word_of hw
  obtain ⟨z, rfl⟩ : ∃ z : Nat, n = z := ⟨n.toNat, by omega⟩
  have hz1 : 1 ≤ z := by omega
  have hz2 : z ≤ 8 := by omega
  clear hnn
  have HL := toHid (look_any h addr z ha0 ha1 hz1 (by omega))
  have HW : Hid (((z : Int) == 1 || (z : Int) == 2 || (z : Int) == 4 || (z : Int) == 8) = true) := hw
  have he : loadE s.rs addr z = lookE s.rs addr z := by unfold loadE; rw [hw]; rfl
  by_cases h0 : lookE s.rs addr z = 0
  ·have hv : loadV s.rs addr z = num (fun j => (tellR s.rs addr z).getD j 0) z := by unfold loadV; rw [if_pos ⟨hw, h0⟩]; rfl
   have HE := toHid he
   have H0 := toHid h0
   have HV := toHid hv
   have HM := toHid h
   clear h he hv hw h0
   go_enter Tryz.func28, Tryz.ntmps28
   go_wp2_with (go_at_call 51; refine (isWord_any z _).mono ?_; rintro e w ⟨rfl, rfl⟩; rw [HW.out])
   refine HL.out.mono ?_
   rintro e w' ⟨⟨k, rfl⟩, (⟨h1, _, _⟩ | ⟨_, r, hr, a, hal, htell, rfl⟩)⟩
   ·exact absurd H0.out h1
   ·have hbb := BytesAt.of_blk (off := a) ((HM.out.regs r hr).bytes.drewN k) z
    have hok := HM.out.ok r hr
    have hlen : ((r.bytes.drop a).take z).length = z := by simp; omega
    have HN := toHid (number_any r.bb a z z (fun j => ((r.bytes.drop a).take z).getD j 0) (w.drewN k) hz2
     (fun j hj => hbb j _ (by rw [List.getElem?_map, List.getElem?_eq_getElem (by omega), List.getD_eq_getElem?_getD, List.getElem?_eq_getElem (by omega)]; rfl))
     (fun j hj => by
      rw [List.getD_eq_getElem?_getD, List.getElem?_eq_getElem (by omega)]
      exact hok.byte _ (List.mem_of_mem_drop (List.mem_of_mem_take (List.getElem_mem (by omega))))))
    have HT := toHid htell
    clear hbb htell
    go_wp2_with (go_at_call 53; refine HN.out.mono ?_; rintro e w' ⟨rfl, rfl⟩)
    go_ret2
    refine ⟨?_, k, rfl⟩
    rw [HE.out, H0.out, HV.out, HT.out]
    rfl
  ·have hv : loadV s.rs addr z = 0 := by unfold loadV; rw [if_neg (fun hh => h0 hh.2)]
   have HE := toHid he
   have H0 := toHid h0
   have HV := toHid hv
   generalize hx : lookE s.rs addr z = x at *
   have HX := toHid hx
   have hb : (x == 0) = false := by simpa using h0
   have hb2 : (x != 0) = true := by simpa using h0
   clear h he hv hw h0 hx
   go_enter Tryz.func28, Tryz.ntmps28
   go_wp2_with (go_at_call 51; refine (isWord_any z _).mono ?_; rintro e w ⟨rfl, rfl⟩; rw [HW.out])
   refine HL.out.mono ?_
   rintro e w' ⟨⟨k, rfl⟩, (⟨h1, _, rfl⟩ | ⟨h1, _⟩)⟩
   ·rw [HX.out]
    clear h1 HL
    go_wp2
    go_ret2
    exact ⟨by rw [HE.out, HV.out]; rfl, k, rfl⟩
   ·rw [HX.out] at h1
    exact absurd h1 H0.out
end Go.Proofs.YtmhhahmjkopjhaaGreat.Mem
end
section
namespace Go.Proofs.YtmhhahmjkopjhaaGreat.Mem
open Go.RowKit
theorem word_slice (b z : Nat) (hz : z ≤ 8) (w : World) : (Instr.sliceAt 144 (.pointer (some ⟨b, 0, none⟩)) none (some (.int .i64 (z : Int))) none).run Tryz.prog w = .ok (.slice (some ⟨b, 0, none⟩) z 8) w := by
 simp [Instr.sliceAt, run_underlying Tryz.underlying144, Instr.sureAddr, Instr.sliceBounds, Instr.sliceBound, asIntOf, sizeOf_of_info info5, hz, Addr.add]
def StorePost (w : World) (s : MS) (addr n v : Int) (e : Ending) (w' : World) : Prop :=
 e = .returned (.int .i64 (storeE s.rs addr n)) ∧ Touch s.blocks w w' ∧ MemAt w' { s with rs := storeRs s.rs addr n v } ∧ ({ s with rs := storeRs s.rs addr n v } : MS).blocks = s.blocks
theorem store_any {w : World} {s : MS} (h : MemAt w s) (addr n v : Int) (ha0 : 0 ≤ addr) (ha1 : addr ≤ 18446744073709551615) (hv0 : 0 ≤ v) :
  Calls Tryz.prog 38 #[.pointer (some ⟨s.m, 0, none⟩), .int .u64 addr, .int .i64 n, .int .u64 v] w (StorePost w s addr n v) := by
 cases hw : wordB n with
 | false =>
  have HF : Hid (StorePost w s addr n v (.returned (.int .i64 2)) w) := by
   have e : storeRs s.rs addr n v = s.rs := by unfold storeRs; rw [hw]; rfl
   refine ⟨by unfold storeE; rw [hw]; rfl, Touch.refl _ w, ?_, ?_⟩
   ·rw [e]; exact h
   ·rw [e]
  have HW : Hid ((n == 1 || n == 2 || n == 4 || n == 8) = false) := hw
  clear h hw
  go_enter Tryz.func38, Tryz.ntmps38
  go_wp2_with (go_at_call 51; refine (isWord_any n _).mono ?_; rintro e w ⟨rfl, rfl⟩; rw [HW.out])
  go_ret
  exact HF.out
 | true =>
  have hnn := word_of hw
  obtain ⟨z, rfl⟩ : ∃ z : Nat, n = z := ⟨n.toNat, by omega⟩
  have hz1 : 1 ≤ z := by omega
  have hz2 : z ≤ 8 := by omega
  clear hnn
  have HW : Hid (((z : Int) == 1 || (z : Int) == 2 || (z : Int) == 4 || (z : Int) == 8) = true) := hw
  have HWW := toHid hw
  have HM := toHid h
  have hws := fun b w => word_slice b z hz2 w
  clear h hw
  go_enter Tryz.func38, Tryz.ntmps38
  go_wp2_with (first | (go_at_call 51; refine (isWord_any z _).mono ?_; rintro e w ⟨rfl, rfl⟩; rw [HW.out]) | (go_at_call 64; refine (spread_any v _ hv0).mono ?_; rintro e w1 ⟨rfl, ht1⟩; have HT := toHid ht1; clear ht1))
  have ht2 := HT.out.alloc (.cells (spreadTo v 8).toArray 144)
  have hN := Blk.new w1 (spreadTo v 8) 144
  have hM := HM.out.touch ht2 (by simp)
  have hB : BytesAt (w1.alloc (.cells (spreadTo v 8).toArray 144)) w1.heap.size 0 ((List.range z).map (byteOf v)) := fun j x hj => by
   refine hN.cell ?_
   rw [Nat.zero_add]
   rw [List.getElem?_map, List.getElem?_map] at hj
   have hjz : j < z := by
    rcases Nat.lt_or_ge j z with h | h
    ·exact h
    ·rw [List.getElem?_eq_none (by simpa using h)] at hj
     simp at hj
   rw [List.getElem?_range hjz] at hj
   unfold spreadTo
   rw [List.getElem?_map, List.getElem?_range (by omega)]
   simp only [Option.map_some, Option.some.injEq] at hj ⊢
   rw [if_pos (by omega)]
   exact hj
  have HL := toHid (lay_any hM addr w1.heap.size 0 z 8 ((List.range z).map (byteOf v)) ha0 ha1 hz1 (by omega) (by simp) hB (fun x hx => by
   obtain ⟨j, _, rfl⟩ := List.mem_map.1 hx
   exact byteOf_bd v j))
  rw [spread_all] at HL ht2
  have HT2 := toHid ht2
  clear hN hM hB ht2
  refine HL.out.mono ?_
  rintro e w' ⟨rfl, h1, h2, h3⟩
  have HF : Hid (StorePost w s addr z v (.returned (.int .i64 (storeE s.rs addr z))) w') := by
   have e : storeRs s.rs addr z v = layRs s.rs addr ((List.range z).map (byteOf v)) := by unfold storeRs; rw [HWW.out]; rfl
   refine ⟨rfl, HT2.out.nil.trans h1 (fun x hx => Or.inl hx), ?_, ?_⟩
   ·rw [e]; exact h2
   ·rw [e]; exact h3
  have HE : Hid (storeE s.rs addr z = layE s.rs addr ((List.range z).map (byteOf v)).length) := by
   show storeE s.rs addr z = layE s.rs addr ((List.range z).map (byteOf v)).length
   unfold storeE
   rw [HWW.out]
   simp
  clear HL HT2 h1 h2 h3
  generalize layE s.rs addr ((List.range z).map (byteOf v)).length = x at HE
  go_wp2
  go_ret
  rw [HE.out] at HF
  exact HF.out
def writeE (rs : List Reg) (addr : Int) (bs : List Int) : Int := if bs.length = 0 then 0 else layE rs addr bs.length
def writeRs (rs : List Reg) (addr : Int) (bs : List Int) : List Reg := if bs.length = 0 then rs else layRs rs addr bs
def WritePost (w : World) (s : MS) (addr : Int) (bs : List Int) (e : Ending) (w' : World) : Prop :=
 e = .returned (.int .i64 (writeE s.rs addr bs)) ∧ Touch s.blocks w w' ∧ MemAt w' { s with rs := writeRs s.rs addr bs } ∧ ({ s with rs := writeRs s.rs addr bs } : MS).blocks = s.blocks
def ArgAt (w : World) (v : Value) (bs : List Int) : Prop := ∃ a c, v = .slice a bs.length c ∧ (∀ x ∈ bs, 0 ≤ x ∧ x ≤ 255) ∧ bs.length ≤ 9223372036854775807 ∧ (1 ≤ bs.length → ∃ k off, a = some ⟨k, off, none⟩ ∧ BytesAt w k off bs)
theorem write_any {w : World} {s : MS} (h : MemAt w s) (addr : Int) (v : Value) (bs : List Int) (ha0 : 0 ≤ addr) (ha1 : addr ≤ 18446744073709551615) (hv : ArgAt w v bs) :
  Calls Tryz.prog 49 #[.pointer (some ⟨s.m, 0, none⟩), .int .u64 addr, v] w (WritePost w s addr bs) := by
 obtain ⟨a, c, rfl, hbb, hn2, hb⟩ := hv
 by_cases h0 : bs.length = 0
 ·have HF : Hid (WritePost w s addr bs (.returned (.int .i64 0)) w) := by
   have e : writeRs s.rs addr bs = s.rs := by unfold writeRs; rw [if_pos h0]
   refine ⟨by unfold writeE; rw [if_pos h0], Touch.refl _ w, ?_, ?_⟩
   ·rw [e]; exact h
   ·rw [e]
  have h0' : ((bs.length : Int) == 0) = true := by simpa using h0
  clear h hb
  go_enter Tryz.func49, Tryz.ntmps49
  go_wp2
  go_ret
  exact HF.out
 ·obtain ⟨k, off, rfl, hbytes⟩ := hb (by omega)
  have HL := toHid (lay_any h addr k off bs.length c bs ha0 ha1 (by omega) hn2 rfl hbytes hbb)
  have HE : Hid (writeE s.rs addr bs = layE s.rs addr bs.length) := by
   show writeE s.rs addr bs = layE s.rs addr bs.length
   unfold writeE
   rw [if_neg h0]
  have HF : ∀ w', LayPost w s addr bs (.returned (.int .i64 (layE s.rs addr bs.length))) w' → Hid (WritePost w s addr bs (.returned (.int .i64 (layE s.rs addr bs.length))) w') := fun w' hh => by
   have e : writeRs s.rs addr bs = layRs s.rs addr bs := by unfold writeRs; rw [if_neg h0]
   refine ⟨by rw [HE.out], hh.2.1, ?_, ?_⟩
   ·rw [e]; exact hh.2.2.1
   ·rw [e]; exact hh.2.2.2
  have h0' : ((bs.length : Int) == 0) = false := by simpa using h0
  have HFF := toHid HF
  clear h hb HF hbytes hbb
  go_enter Tryz.func49, Tryz.ntmps49
  go_wp2_with fail
  refine HL.out.mono ?_
  rintro e w' hp
  obtain rfl := hp.1
  have H3 := HFF.out w' hp
  clear hp HFF HL
  generalize layE s.rs addr bs.length = x at H3
  go_wp2
  go_ret
  exact H3.out
end Go.Proofs.YtmhhahmjkopjhaaGreat.Mem
end
section
namespace Go.Proofs.YtmhhahmjkopjhaaGreat.Mem
open Go.RowKit
def SliceIs (w : World) (v : Value) (bs : List Int) : Prop := (bs = [] ∧ v = .slice none 0 0) ∨ (1 ≤ bs.length ∧ ∃ N, v = .slice (some ⟨N, 0, none⟩) bs.length bs.length ∧ Blk w N (bs.map (Value.int .u8)) 5)
def readE (rs : List Reg) (addr n : Int) : Int := if n < 0 then 2 else if n = 0 then 0 else lookE rs addr n
def readV (rs : List Reg) (addr n : Int) : List Int := if n ≤ 0 then [] else tellR rs addr n
def ReadPost (w : World) (s : MS) (addr n : Int) (e : Ending) (w' : World) : Prop := ∃ v, e = .returned (.tuple #[v, .int .i64 (readE s.rs addr n)]) ∧ SliceIs w' v (readV s.rs addr n) ∧ Touch [] w w'
def regOf (rs : List Reg) (id : Int) : Option Reg := rs.find? (fun r => r.id == id)
def BytesPost (w : World) (s : MS) (id : Int) (e : Ending) (w' : World) : Prop := Touch [] w w' ∧ match regOf s.rs id with
 | none => e = .returned (.tuple #[.slice none 0 0, .int .i64 14])
 | some r => ∃ v, e = .returned (.tuple #[v, .int .i64 0]) ∧ SliceIs w' v r.bytes
end Go.Proofs.YtmhhahmjkopjhaaGreat.Mem
end
section
namespace Go.Proofs.YtmhhahmjkopjhaaGreat
open Go.RowKit
theorem MemAt.find_at {w : World} {s : Mem.MS} (h : Mem.MemAt w s) {r : Mem.Reg} (hr : r ∈ s.rs) : Mem.findR s.rs r.base = some r := by
 refine Mem.findR_of h.sorted (fun x hx => (h.ok x hx).size1) hr ?_
 unfold Mem.hasB
 have := (h.ok r hr).size1
 rw [decide_eq_true_eq]
 omega
theorem bits31 : bits .and .i64 3 1 ≠ 0 := by decide
theorem bits32 : bits .and .i64 3 2 ≠ 0 := by decide
theorem MemAt.read_at {w : World} {s : Mem.MS} (h : Mem.MemAt w s) {r : Mem.Reg} (hr : r ∈ s.rs) (hp : r.perm = 3) : Mem.readE s.rs r.base r.bytes.length = 0 ∧ Mem.readV s.rs r.base r.bytes.length = r.bytes := by
 have hf := MemAt.find_at h hr
 have hok := h.ok r hr
 have h1 := hok.size1
 have hsb : r.sb = none := hok.plain.2 (by omega)
 have hm : Mem.mayB r r.base r.bytes.length 1 = true := by
  unfold Mem.mayB
  rw [decide_eq_true_eq, hp]
  exact ⟨by omega, bits31⟩
 have ha : Mem.allSetB r (r.base - r.base).toNat ((r.bytes.length : Nat) : Int).toNat = true := by
  unfold Mem.allSetB
  rw [hsb]
 constructor
 ·unfold Mem.readE
  rw [if_neg (by omega), if_neg (by omega)]
  unfold Mem.lookE
  rw [hf]
  dsimp only
  rw [if_pos hm, if_pos ha]
 ·unfold Mem.readV
  rw [if_neg (by omega)]
  unfold Mem.tellR
  rw [hf]
  dsimp only
  rw [if_pos ⟨hm, ha⟩, Int.sub_self]
  simp
theorem layR_all {r : Mem.Reg} {vs : List Int} (h : vs.length = r.bytes.length) : (Mem.layR r 0 vs).bytes = vs := by
 unfold Mem.layR
 simp [← h]
theorem MemAt.write_at {w : World} {s : Mem.MS} (h : Mem.MemAt w s) {r : Mem.Reg} (hr : r ∈ s.rs) (hp : r.perm = 3) {vs : List Int} (hl : vs.length = r.bytes.length) : Mem.writeE s.rs r.base vs = 0 ∧ Mem.writeRs s.rs r.base vs = Mem.updR s.rs r.id (Mem.layR · 0 vs) := by
 have hf := MemAt.find_at h hr
 have hok := h.ok r hr
 have h1 := hok.size1
 have hm : Mem.mayB r r.base vs.length 2 = true := by
  unfold Mem.mayB
  rw [decide_eq_true_eq, hp, hl]
  exact ⟨by omega, bits32⟩
 constructor
 ·unfold Mem.writeE Mem.layE
  rw [if_neg (by omega), hf]
  dsimp only
  rw [if_pos hm]
 ·unfold Mem.writeRs Mem.layRs
  rw [if_neg (by omega), hf]
  dsimp only
  rw [if_pos hm, Int.sub_self]
  rfl
end Go.Proofs.YtmhhahmjkopjhaaGreat
end
section
namespace Go.Proofs.YtmhhahmjkopjhaaGreat
open Go.RowKit
theorem PT.nth_mem {x : PT} {i : Int} {m : PMap} (h : x.nth i = some m) : ∃ k : Nat, i = k ∧ x.maps[k]? = some m := by
 unfold PT.nth at h
 split at h
 ·exact ⟨i.toNat, by omega, h⟩
 ·cases h
def lookP (x : PT) (i : Int) (bs : List Int) : (Int × Int) × List PX :=
 if chkP x.ds i bs.length = 0 then match x.qs[i.toNat]? with
  | some q => ((match (q.findA bs).1 with
   | some s => plI i (s : Int)
   | none => 0, 0), x.qs.set i.toNat (q.findA bs).2)
  | none => ((0, 14), x.qs)
 else ((0, chkP x.ds i bs.length), x.qs)
def PLookPost (w : World) (x : PT) (a : (Int × Int) × List PX) (e : Ending) (w' : World) : Prop := e = .returned (.tuple #[.int .u64 a.1.1, .int .i64 a.1.2]) ∧ ∃ x', PStep w w' x x' a.2
theorem pfind_lt {q : PX} {bs : List Int} {s : Nat} (h : (q.findA bs).1 = some s) : s < q.slots.length := by
 unfold PX.findA at h
 split at h
 ·unfold PX.find3 at h
  split at h
  ·exact (longTo_some h).1
  ·cases h
 ·unfold PX.find at h
  split at h
  ·exact sameP_lt h
  ·cases h
theorem method_find (k : Int) (k0 : 0 ≤ k) (k3 : k ≤ 3) (X : Nat) (n : Nat) : ∀ w : World, (method (n + 1) (typF k) (.pointer (some ⟨X, 0, none⟩)) "Find").run Tryz.prog w = .ok (findF k, .pointer (some ⟨X, 0, none⟩)) w := by
 obtain rfl | rfl | rfl | rfl : k = 0 ∨ k = 1 ∨ k = 2 ∨ k = 3 := by omega
 all_goals (intro w; kernel_rfl)
theorem call_find (k : Int) (k0 : 0 ≤ k) (k3 : k ≤ 3) : ∀ (args : Array Value) (w : World), (callFunc (findF k) args).run Tryz.prog w = .ok (.enter (findF k) args) w := by
 obtain rfl | rfl | rfl | rfl : k = 0 ∨ k = 1 ∨ k = 2 ∨ k = 3 := by omega
 all_goals (intro args w; kernel_rfl)
theorem plookup_any {w : World} {x : PT} (h : PTAt w x) (i : Int) {sa : Option Addr} {sl : Nat} {bs : List Int} (hk : KeyAt w sa sl bs) (sc : Nat) (hsc : sl ≤ sc) :
  Calls Tryz.prog 22 #[.pointer (some ⟨x.t, 0, none⟩), .int .i64 i, .slice sa sl sc] w (PLookPost w x (lookP x i bs)) := by
 have hz := (zero_of_info (P := Tryz.prog) zero89).1
 have hsz := (zero_of_info (P := Tryz.prog) zero89).2
 have H1 := toHid (asked_any h i sa sl sc (by have := hk.1; have := hk.2.2.1; omega))
 have hl := hk.1
 subst hl
 by_cases h0 : chkP x.ds i bs.length = 0
 ·obtain ⟨k, m, rfl, hm, hkey⟩ := chk_ok h0
  have hmem := List.mem_of_getElem? hm
  have hqs : x.qs[k]? = some m.q := by unfold PT.qs; rw [List.getElem?_map, hm]; rfl
  have hv : lookP x k bs = ((match (m.q.findA bs).1 with
   | some s => plI k (s : Int)
   | none => 0, 0), x.qs.set k (m.q.findA bs).2) := by
   unfold lookP
   rw [if_pos h0, Int.toNat_natCast, hqs]
  have ha : askV x k bs.length = m.v := by unfold askV; rw [if_pos h0, nth_of hm]; rfl
  rw [h0, ha] at H1
  rw [hv]
  have hok := h.ok m hmem
  have hgood := (h.maps m hmem).good
  have hkd := hok.kind
  have HMT := method_find m.d.kind (by rw [← hkd]; exact hgood.k0) (by rw [← hkd]; exact hgood.k3) m.X
  have HCF := call_find m.d.kind (by rw [← hkd]; exact hgood.k0) (by rw [← hkd]; exact hgood.k3)
  have HF := toHid (fun w0 (ht : Touch [] w w0) => kfind_any ((h.maps m hmem).still ht) (hk.touch ht) sc hsc)
  rw [hkd] at HF
  have HG := toHid (And.intro h (And.intro hm (hgood.findA bs)))
  have HS64 : Hid (∀ s, (m.q.findA bs).1 = some s → s < 64) := fun s hs => by
   have h1 := pfind_lt hs
   have h2 := hgood.m2
   omega
  have hk8 : k < 8 := by have := (List.getElem?_eq_some_iff.1 hm).1; have := h.many; omega
  unfold PMap.v ixV at H1
  generalize m.q.findA bs = fq at *
  obtain ⟨fo, q⟩ := fq
  generalize typF m.d.kind = ty at *
  generalize findF m.d.kind = ff at *
  clear h hk h0 hmem hqs hv ha hok hgood hkd hkey hm
  go_enter Tryz.func22, Tryz.ntmps22
  go_wp2_with fail
  refine Calls.mono H1.out ?_
  rintro e w2 ⟨rfl, ht2⟩
  have hta : ∀ o, Touch [] w (w2.alloc o) := fun o => ht2.alloc o
  have HT := toHid hta
  clear ht2 hta H1
  go_wp2_with fail
  refine Calls.mono (HF.out _ (HT.out _)) ?_
  rintro e w3 ⟨rfl, st⟩
  have HX := toHid (HG.out.1.step HG.out.2.1 (st.of_still (HT.out _)) HG.out.2.2.2)
  clear st HF HMT HCF
  cases fo with
  | none =>
   unfold foundV idx0
   go_wp2
   go_ret2
   exact ⟨rfl, HX.out⟩
  | some s =>
   have H3 := toHid (place_any w3 k s hk8 (HS64.out s rfl))
   unfold foundV idx0
   go_wp2_with fail
   refine Calls.mono H3.out ?_
   rintro e w3 ⟨rfl, rfl⟩
   go_wp2
   go_ret2
   exact ⟨rfl, HX.out⟩
 ·have hv : lookP x i bs = ((0, chkP x.ds i bs.length), x.qs) := if_neg h0
  have ha : askV x i bs.length = zeroV := if_neg h0
  rw [ha] at H1
  rw [hv]
  have HX := toHid h
  have hne : (chkP x.ds i bs.length != 0) = true := by simpa using h0
  generalize chkP x.ds i bs.length = ce at *
  unfold zeroV at H1
  clear h hk h0 hv ha
  go_enter Tryz.func22, Tryz.ntmps22
  go_wp2_with fail
  refine Calls.mono H1.out ?_
  rintro e w2 ⟨rfl, ht2⟩
  have HF : Hid (∀ o, ∃ x', PStep w (w2.alloc o) x x' x.qs) := fun o => ⟨x, PStep.refl HX.out (ht2.alloc o)⟩
  clear ht2
  go_wp2
  go_ret2
  exact ⟨rfl, HF.out _⟩
def delP (x : PT) (i : Int) (bs : List Int) : Int × List PX :=
 if chkP x.ds i bs.length = 0 then match x.qs[i.toNat]? with
  | some q => ((q.delA bs).1.2, x.qs.set i.toNat (q.delA bs).2)
  | none => (14, x.qs)
 else (chkP x.ds i bs.length, x.qs)
def PDelPost (w : World) (x : PT) (a : Int × List PX) (e : Ending) (w' : World) : Prop := e = .returned (.int .i64 a.1) ∧ ∃ x', PStep w w' x x' a.2
theorem method_del (k : Int) (k0 : 0 ≤ k) (k3 : k ≤ 3) (X : Nat) (n : Nat) : ∀ w : World, (method (n + 1) (typF k) (.pointer (some ⟨X, 0, none⟩)) "Del").run Tryz.prog w = .ok (delF k, .pointer (some ⟨X, 0, none⟩)) w := by
 obtain rfl | rfl | rfl | rfl : k = 0 ∨ k = 1 ∨ k = 2 ∨ k = 3 := by omega
 all_goals (intro w; kernel_rfl)
theorem call_del (k : Int) (k0 : 0 ≤ k) (k3 : k ≤ 3) : ∀ (args : Array Value) (w : World), (callFunc (delF k) args).run Tryz.prog w = .ok (.enter (delF k) args) w := by
 obtain rfl | rfl | rfl | rfl : k = 0 ∨ k = 1 ∨ k = 2 ∨ k = 3 := by omega
 all_goals (intro args w; kernel_rfl)
theorem pdelete_any {w : World} {x : PT} (h : PTAt w x) (i : Int) {sa : Option Addr} {sl : Nat} {bs : List Int} (hk : KeyAt w sa sl bs) (sc : Nat) (hsc : sl ≤ sc) :
  Calls Tryz.prog 25 #[.pointer (some ⟨x.t, 0, none⟩), .int .i64 i, .slice sa sl sc] w (PDelPost w x (delP x i bs)) := by
 have hz := (zero_of_info (P := Tryz.prog) zero89).1
 have hsz := (zero_of_info (P := Tryz.prog) zero89).2
 have H1 := toHid (asked_any h i sa sl sc (by have := hk.1; have := hk.2.2.1; omega))
 have hl := hk.1
 subst hl
 by_cases h0 : chkP x.ds i bs.length = 0
 ·obtain ⟨k, m, rfl, hm, hkey⟩ := chk_ok h0
  have hmem := List.mem_of_getElem? hm
  have hqs : x.qs[k]? = some m.q := by unfold PT.qs; rw [List.getElem?_map, hm]; rfl
  have hv : delP x k bs = ((m.q.delA bs).1.2, x.qs.set k (m.q.delA bs).2) := by
   unfold delP
   rw [if_pos h0, Int.toNat_natCast, hqs]
  have ha : askV x k bs.length = m.v := by unfold askV; rw [if_pos h0, nth_of hm]; rfl
  rw [h0, ha] at H1
  rw [hv]
  have hok := h.ok m hmem
  have hgood := (h.maps m hmem).good
  have hkd := hok.kind
  have HMT := method_del m.d.kind (by rw [← hkd]; exact hgood.k0) (by rw [← hkd]; exact hgood.k3) m.X
  have HCF := call_del m.d.kind (by rw [← hkd]; exact hgood.k0) (by rw [← hkd]; exact hgood.k3)
  have HF := toHid (fun w0 (ht : Touch [] w w0) => kdel_any ((h.maps m hmem).still ht) (hk.touch ht) sc hsc)
  rw [hkd] at HF
  have HG := toHid (And.intro h (And.intro hm (hgood.delA bs)))
  unfold PMap.v ixV at H1
  generalize m.q.delA bs = fq at *
  obtain ⟨⟨sd, er⟩, q⟩ := fq
  generalize typF m.d.kind = ty at *
  generalize delF m.d.kind = ff at *
  clear h hk h0 hmem hqs hv ha hok hgood hkd hkey hm
  go_enter Tryz.func25, Tryz.ntmps25
  go_wp2_with fail
  refine Calls.mono H1.out ?_
  rintro e w2 ⟨rfl, ht2⟩
  have hta : ∀ o, Touch [] w (w2.alloc o) := fun o => ht2.alloc o
  have HT := toHid hta
  clear ht2 hta H1
  go_wp2_with fail
  refine Calls.mono (HF.out _ (HT.out _)) ?_
  rintro e w3 ⟨rfl, st⟩
  have HX := toHid (HG.out.1.step HG.out.2.1 (st.of_still (HT.out _)) HG.out.2.2.2)
  clear st HF HMT HCF
  go_wp2
  go_ret
  exact ⟨rfl, HX.out⟩
 ·have hv : delP x i bs = (chkP x.ds i bs.length, x.qs) := if_neg h0
  have ha : askV x i bs.length = zeroV := if_neg h0
  rw [ha] at H1
  rw [hv]
  have HX := toHid h
  have hne : (chkP x.ds i bs.length != 0) = true := by simpa using h0
  generalize chkP x.ds i bs.length = ce at *
  unfold zeroV at H1
  clear h hk h0 hv ha
  go_enter Tryz.func25, Tryz.ntmps25
  go_wp2_with fail
  refine Calls.mono H1.out ?_
  rintro e w2 ⟨rfl, ht2⟩
  have HF : Hid (∀ o, ∃ x', PStep w (w2.alloc o) x x' x.qs) := fun o => ⟨x, PStep.refl HX.out (ht2.alloc o)⟩
  clear ht2
  go_wp2
  go_ret
  exact ⟨rfl, HF.out _⟩
theorem count_any {w : World} {x : PT} (h : PTAt w x) : Calls Tryz.prog 11 #[.pointer (some ⟨x.t, 0, none⟩)] w fun e w' => e = .returned (.int .i64 x.maps.length) ∧ w' = w := by
 have c1 := h.c1
 unfold slV at c1
 clear h
 go_enter Tryz.func11, Tryz.ntmps11
 go_wp2
 go_ret
 exact ⟨rfl, rfl⟩
end Go.Proofs.YtmhhahmjkopjhaaGreat
end
section
namespace Go.Proofs.YtmhhahmjkopjhaaGreat
open Go.RowKit
theorem pfind_own2 {q : PX} (hk : ¬ q.kind = 3) {i : Nat} {bs : List Int} (hi : q.slots[i]? = some (some bs)) (hl : (bs.length : Int) = q.size) (h1 : ∀ j, q.slots[j]? = some (some bs) → j = i) : (q.findA bs).1 = some i := by
 rw [pfind_ne hk]
 unfold PX.find
 rw [if_pos hl]
 cases hs : sameP q.slots bs with
 | none => exact absurd hi (same_not hs i)
 | some j => rw [h1 j (sameP_get hs)]
theorem kfind_own {w : World} {X : Nat} {bl : List Nat} {q : PX} (h : KAt w X bl q) {i : Nat} {bs : List Int} (hi : q.slots[i]? = some (some bs)) : (q.findA bs).1 = some i := by
 have hl := h.good.lens bs (List.mem_of_getElem? hi)
 rcases h.is with ⟨a1, rfl, a3, m, a4, a5⟩ | ⟨a1, b, n, a2, rfl, a4⟩ | ⟨a1, x, a2, rfl, rfl, a5, a6, a7⟩ | ⟨a1, x, a2, rfl, rfl, a5, a6⟩
 ·have hget : ∀ j : Nat, q.slots[j]? = some (some bs) → j < m ∧ bs = le4 (j : Int) := fun j hj => by
   rw [a5] at hj
   have hlt := (List.getElem?_eq_some_iff.1 hj).1
   have hm : j < m := by simpa [allKeys] using hlt
   rw [allKeys, List.map_map, List.getElem?_map, List.getElem?_range hm] at hj
   injection hj with hj
   injection hj with hj
   exact ⟨hm, hj.symm⟩
  have hm64 := a4.2.2
  refine pfind_own2 (by rw [a1]; decide) hi hl (fun j hj => ?_)
  obtain ⟨q1, q2⟩ := hget i hi
  obtain ⟨q3, q4⟩ := hget j hj
  have e1 : keyNum bs = i := by rw [q2, num_le4 _ (by omega) (by omega)]
  have e2 : keyNum bs = j := by rw [q4, num_le4 _ (by omega) (by omega)]
  omega
 ·obtain ⟨D, _, _, hS⟩ := a4.map.map
  exact pfind_own2 (by rw [a1]; decide) hi hl (fun j hj => hS.once hj hi)
 ·obtain ⟨D, _, _, hS⟩ := a6.map.map
  rw [a5] at hS
  exact pfind_own2 (by rw [a1]; decide) hi hl (fun j hj => hS.once hj hi)
 ·unfold PX.findA
  rw [if_pos a1]
  unfold PX.find3
  rw [pfits a2]
  have hT := a6.tied
  obtain ⟨p, hp, rfl⟩ := hT.form bs (by rw [a5]; exact List.mem_of_getElem? hi)
  have hn := a6.n12
  have hnum : keyNum (Lpm.keyP p x.n) = p.length := Lpm.keyNum_key p x.n (by omega)
  have hf : Lpm.fitsK (Lpm.keyP p x.n) x.n = true := by
   unfold Lpm.fitsK
   rw [Lpm.keyP_len, hnum, decide_eq_true rfl, decide_eq_true (by omega)]
   rfl
  rw [hf, if_pos rfl]
  show longTo q.slots (Lpm.keyP p x.n) q.slots.length = some i
  rw [← a5, Lpm.long_eq hT (by omega) (Lpm.keyP_len p x.n) (Lpm.keyP_bd p x.n) (by rw [hnum]; omega), Lpm.pathP_key p hp (by omega)]
  have hat : Lpm.atT x.T p = some i := (hT.at_ p i).2 ⟨hp, by rw [a5]; exact hi⟩
  rcases Lpm.longT_get p x.T with ⟨_, h2⟩ | ⟨s, k, h1, h2, h3, h4⟩
  ·have := h2 p.length
   rw [List.take_length, hat] at this
   cases this
  ·by_cases hk : k < p.length
   ·have := h4 p.length hk (Nat.le_refl _)
    rw [List.take_length, hat] at this
    cases this
   ·have : p.take k = p := by rw [show k = p.length by omega, List.take_length]
    rw [this, hat] at h3
    rw [h1]
    exact h3.symm
theorem ta00 (v : Value) (w : World) : (Instr.typeAssert (.iface 148 v) 87 148 true).run Tryz.prog w = .ok (.tuple #[v, .bool true]) w := by kernel_rfl
theorem ta01 (v : Value) (w : World) : (Instr.typeAssert (.iface 148 v) 87 150 true).run Tryz.prog w = .ok (.tuple #[.pointer none, .bool false]) w := by kernel_rfl
theorem ta02 (v : Value) (w : World) : (Instr.typeAssert (.iface 148 v) 87 152 true).run Tryz.prog w = .ok (.tuple #[.pointer none, .bool false]) w := by kernel_rfl
theorem ta03 (v : Value) (w : World) : (Instr.typeAssert (.iface 148 v) 87 154 true).run Tryz.prog w = .ok (.tuple #[.pointer none, .bool false]) w := by kernel_rfl
theorem ta10 (v : Value) (w : World) : (Instr.typeAssert (.iface 150 v) 87 148 true).run Tryz.prog w = .ok (.tuple #[.pointer none, .bool false]) w := by kernel_rfl
theorem ta11 (v : Value) (w : World) : (Instr.typeAssert (.iface 150 v) 87 150 true).run Tryz.prog w = .ok (.tuple #[v, .bool true]) w := by kernel_rfl
theorem ta12 (v : Value) (w : World) : (Instr.typeAssert (.iface 150 v) 87 152 true).run Tryz.prog w = .ok (.tuple #[.pointer none, .bool false]) w := by kernel_rfl
theorem ta13 (v : Value) (w : World) : (Instr.typeAssert (.iface 150 v) 87 154 true).run Tryz.prog w = .ok (.tuple #[.pointer none, .bool false]) w := by kernel_rfl
theorem ta20 (v : Value) (w : World) : (Instr.typeAssert (.iface 152 v) 87 148 true).run Tryz.prog w = .ok (.tuple #[.pointer none, .bool false]) w := by kernel_rfl
theorem ta21 (v : Value) (w : World) : (Instr.typeAssert (.iface 152 v) 87 150 true).run Tryz.prog w = .ok (.tuple #[.pointer none, .bool false]) w := by kernel_rfl
theorem ta22 (v : Value) (w : World) : (Instr.typeAssert (.iface 152 v) 87 152 true).run Tryz.prog w = .ok (.tuple #[v, .bool true]) w := by kernel_rfl
theorem ta23 (v : Value) (w : World) : (Instr.typeAssert (.iface 152 v) 87 154 true).run Tryz.prog w = .ok (.tuple #[.pointer none, .bool false]) w := by kernel_rfl
theorem ta30 (v : Value) (w : World) : (Instr.typeAssert (.iface 154 v) 87 148 true).run Tryz.prog w = .ok (.tuple #[.pointer none, .bool false]) w := by kernel_rfl
theorem ta31 (v : Value) (w : World) : (Instr.typeAssert (.iface 154 v) 87 150 true).run Tryz.prog w = .ok (.tuple #[.pointer none, .bool false]) w := by kernel_rfl
theorem ta32 (v : Value) (w : World) : (Instr.typeAssert (.iface 154 v) 87 152 true).run Tryz.prog w = .ok (.tuple #[.pointer none, .bool false]) w := by kernel_rfl
theorem ta33 (v : Value) (w : World) : (Instr.typeAssert (.iface 154 v) 87 154 true).run Tryz.prog w = .ok (.tuple #[v, .bool true]) w := by kernel_rfl
def TwinPost (w : World) (k : Int) (q : PX) (e : Ending) (w' : World) : Prop := ∃ C bl, e = .returned (ixV k C) ∧ KAt w' C bl q ∧ (∀ b ∈ bl, w.heap.size ≤ b) ∧ Touch [] w w'
theorem twin_any {w : World} {X : Nat} {bl : List Nat} {q : PX} (h : KAt w X bl q) : Calls Tryz.prog 40 #[ixV q.kind X] w (TwinPost w q.kind q) := by
 have H1 := toHid (kcopy_any h)
 have hg := h.good
 have hk : q.kind = 0 ∨ q.kind = 1 ∨ q.kind = 2 ∨ q.kind = 3 := by have := hg.k0; have := hg.k3; omega
 have HF : Hid (∀ C bl w', KAt w' C bl q → (∀ b ∈ bl, w.heap.size ≤ b) → Touch [] w w' → TwinPost w q.kind q (.returned (ixV q.kind C)) w') := fun C bl w' h1 h2 h3 => ⟨C, bl, rfl, h1, h2, h3⟩
 clear h hg
 rcases hk with hk | hk | hk | hk
 ·rw [hk] at H1 HF ⊢
  unfold ixV typF at *
  simp only [copyF, if_true, if_false, Int.reduceEq] at *
  have t0 := ta00
  have t1 := ta01
  have t2 := ta02
  have t3 := ta03
  go_enter Tryz.func40, Tryz.ntmps40
  go_wp2_with fail
  refine Calls.mono H1.out ?_
  rintro e w2 ⟨C, bl, rfl, hA, hb, ht⟩
  have HX := toHid (HF.out _ _ _ hA hb ht)
  clear hA hb ht
  go_wp2
  go_ret
  exact HX.out
 ·rw [hk] at H1 HF ⊢
  unfold ixV typF at *
  simp only [copyF, if_true, if_false, Int.reduceEq] at *
  have t0 := ta10
  have t1 := ta11
  have t2 := ta12
  have t3 := ta13
  go_enter Tryz.func40, Tryz.ntmps40
  go_wp2_with fail
  refine Calls.mono H1.out ?_
  rintro e w2 ⟨C, bl, rfl, hA, hb, ht⟩
  have HX := toHid (HF.out _ _ _ hA hb ht)
  clear hA hb ht
  go_wp2
  go_ret
  exact HX.out
 ·rw [hk] at H1 HF ⊢
  unfold ixV typF at *
  simp only [copyF, if_true, if_false, Int.reduceEq] at *
  have t0 := ta20
  have t1 := ta21
  have t2 := ta22
  have t3 := ta23
  go_enter Tryz.func40, Tryz.ntmps40
  go_wp2_with fail
  refine Calls.mono H1.out ?_
  rintro e w2 ⟨C, bl, rfl, hA, hb, ht⟩
  have HX := toHid (HF.out _ _ _ hA hb ht)
  clear hA hb ht
  go_wp2
  go_ret
  exact HX.out
 ·rw [hk] at H1 HF ⊢
  unfold ixV typF at *
  simp only [copyF, if_false, Int.reduceEq] at *
  have t0 := ta30
  have t1 := ta31
  have t2 := ta32
  have t3 := ta33
  go_enter Tryz.func40, Tryz.ntmps40
  go_wp2_with fail
  refine Calls.mono H1.out ?_
  rintro e w2 ⟨C, bl, rfl, hA, hb, ht⟩
  have HX := toHid (HF.out _ _ _ hA hb ht)
  clear hA hb ht
  go_wp2
  go_ret
  exact HX.out
end Go.Proofs.YtmhhahmjkopjhaaGreat
end
section
namespace Go.Proofs.YtmhhahmjkopjhaaGreat
open Go.RowKit
theorem info89 : (Tryz.prog.info? 89).map (fun i => (i.zero, i.size, i.bytes)) = some (some (.agg #[.int .i64 0, .int .i64 0, .int .i64 0, .int .i64 0, .nilIface]), 5, 48) := by kernel_rfl
def PT.add (x : PT) (g : Option Nat) (cap : Nat) (m : PMap) : PT := { x with g := g, cap := cap, maps := x.maps ++ [m] }
theorem PTAt.push {w : World} {x : PT} (h : PTAt w x) {m : PMap} (hm : KAt w m.X m.bl m.q) (ho : PMapOk m) (hsep : ∀ b ∈ m.bl, b ∉ x.blocks) (hn : x.maps.length < 8) :
  ∃ g' cap' w', (Builtin.append_ #[83, 83] 83 #[slV x.g x.maps.length x.cap, .slice (some ⟨w.heap.size, 0, none⟩) 1 1]).run Tryz.prog (w.alloc (.cells #[.int .i64 m.d.kind, .int .i64 m.d.key, .int .i64 m.d.val, .int .i64 m.d.max, ixV m.d.kind m.X] 89)) = .ok (slV g' (x.maps.length + 1) cap') w' ∧
   w'.cell? ⟨x.t, 1, none⟩ = some (slV x.g x.maps.length x.cap) ∧ w'.frozen? ⟨x.t, 1, none⟩ = false ∧
   PTAt (w'.setCell ⟨x.t, 1, none⟩ (slV g' (x.maps.length + 1) cap')) (x.add g' cap' m) ∧
   Touch x.top w w' ∧ Touch x.top w (w'.setCell ⟨x.t, 1, none⟩ (slV g' (x.maps.length + 1) cap')) ∧ (∀ b, g' = some b → x.g = some b ∨ w.heap.size ≤ b) := by
 obtain ⟨i, hi0, hz, hs0, hb⟩ := info_of info89
 have hN := Blk.newA w #[.int .i64 m.d.kind, .int .i64 m.d.key, .int .i64 m.d.val, .int .i64 m.d.max, ixV m.d.kind m.X] _ 89 rfl
 have hta : Touch [] w (w.alloc (.cells #[.int .i64 m.d.kind, .int .i64 m.d.key, .int .i64 m.d.val, .int .i64 m.d.max, ixV m.d.kind m.X] 89)) := (Touch.refl _ w).alloc _
 have hL := h.touch hta (by simp)
 have hlt := h.lt
 have hmlt := hm.lt
 obtain ⟨g', cap', w', hr, h2, h3, h4, _⟩ := run_append_row (P := Tryz.prog) _ 83 83 89 i _ 5 Tryz.underlying83 hi0 hz hs0 rfl (by omega) x.g x.maps.length x.cap _ hL.row ⟨w.heap.size, 0, none⟩ 1 1 m.cells rfl
  (fun j u hj => by
   rw [Addr.add_lit, Nat.zero_add]
   exact hN.cell hj) (fun u hu => by
   simp only [PMap.cells, List.mem_cons, List.not_mem_nil, or_false] at hu
   rcases hu with rfl | rfl | rfl | rfl | rfl <;> rfl) (by rw [hb]; omega) (by omega)
 have hap := h.apTop
 simp only [PT.top, List.nodup_cons, Option.mem_toList] at hap
 have htg : x.t ∉ x.g.toList := fun hx => hap.1 (by simpa using hx)
 have hself := h3.blk hL.self htg
 have hts : Touch [x.t] w' (w'.setCell ⟨x.t, 1, none⟩ (slV g' (x.maps.length + 1) cap')) := (Touch.refl _ w').setCell _ _ (Or.inl (by simp))
 have hg' : ∀ b, g' = some b → x.g = some b ∨ b = w.heap.size + 1 := fun b hb => by
  rcases h4 with h4 | h4
  ·rw [← h4]; exact Or.inl hb
  ·rw [hb] at h4; injection h4 with h4; exact Or.inr (by rw [h4]; simp)
 have htlt := hlt x.t (PT.mem_top (by simp [PT.top]))
 have hgt : g' ≠ some x.t := fun e => by
  rcases hg' _ e with hx | hx
  ·exact htg (by simpa using hx)
  ·omega
 have hgtop : ∀ b ∈ x.g.toList, b ∈ x.top := fun b hb => by unfold PT.top; exact List.mem_cons_of_mem _ hb
 have hT1 : Touch x.top w w' := (hta.mono (S' := x.top) (fun b hb => by cases hb)).trans h3 (fun b hb => Or.inl (hgtop b hb))
 have hT2 : Touch x.top w (w'.setCell ⟨x.t, 1, none⟩ (slV g' (x.maps.length + 1) cap')) := hT1.trans hts (fun b hb => Or.inl (by simp at hb; subst hb; simp [PT.top]))
 have hmT : ∀ m' ∈ x.maps ++ [m], KAt w m'.X m'.bl m'.q ∧ PMapOk m' ∧ ∀ b ∈ m'.bl, b ∉ x.top := fun m' hm' => by
  rcases List.mem_append.1 hm' with h9 | h9
  ·exact ⟨h.maps m' h9, h.ok m' h9, h.apT m' h9⟩
  ·rw [List.mem_singleton.1 h9]
   exact ⟨hm, ho, fun b hb hx => hsep b hb (PT.mem_top hx)⟩
 refine ⟨g', cap', w', hr, hself.cell rfl, hself.frozen 1, ⟨?_, ?_, fun m' hm' => ?_, fun m' hm' => (hmT m' hm').2.1, ?_, fun m' hm' b hb hx => ?_, fun i j mi mj hi hj hij y hy => ?_, ?_⟩, hT1, hT2, fun b hb => ?_⟩
 ·have := hself.setCell 1 (slV g' (x.maps.length + 1) cap')
  show Blk _ x.t [_, slV g' (x.maps ++ [m]).length cap'] _
  rw [List.length_append]
  exact this
 ·have := h2.touch hts (fun b hgb hx => by simp at hx; subst hx; exact hgt hgb)
  show RowAt _ 89 5 g' (x.maps ++ [m]).length cap' ((x.maps ++ [m]).flatMap PMap.cells)
  rw [List.length_append, List.flatMap_append, List.flatMap_singleton]
  exact this
 ·exact (hmT m' hm').1.touch hT2 (hmT m' hm').2.2
 ·show (x.t :: g'.toList).Nodup
  cases hgg : g' with
  | none => simp
  | some b =>
   simp only [Option.toList_some, List.nodup_cons, List.mem_singleton, List.not_mem_nil, not_false_eq_true, List.nodup_nil, and_true]
   intro e
   exact hgt (by rw [hgg, e])
 ·rcases List.mem_cons.1 (show b ∈ x.t :: g'.toList from hx) with hx | hx
  ·exact (hmT m' hm').2.2 b hb (by rw [hx]; simp [PT.top])
  ·rcases hg' b (by simpa using hx) with hx | hx
   ·exact (hmT m' hm').2.2 b hb (PT.mem_g hx)
   ·have := (hmT m' hm').1.lt b hb
    omega
 ·have hi : (x.maps ++ [m])[i]? = some mi := hi
  have hj : (x.maps ++ [m])[j]? = some mj := hj
  have hcase : ∀ k mk, (x.maps ++ [m])[k]? = some mk → x.maps[k]? = some mk ∨ (k = x.maps.length ∧ mk = m) := fun k mk hk => by
   rw [List.getElem?_append] at hk
   split at hk
   ·exact Or.inl hk
   ·rename_i hge
    have hk0 : k - x.maps.length = 0 := by
     have := (List.getElem?_eq_some_iff.1 hk).1
     simp at this
     omega
    rw [hk0] at hk
    simp at hk
    exact Or.inr ⟨by omega, hk.symm⟩
  rcases hcase i mi hi with a | ⟨a1, a2⟩
  ·rcases hcase j mj hj with b | ⟨b1, b2⟩
   ·exact h.apM i j mi mj a b hij y hy
   ·rw [b2]
    intro hx
    exact hsep y hx (PT.mem_map (List.mem_of_getElem? a) hy)
  ·rcases hcase j mj hj with b | ⟨b1, b2⟩
   ·intro hx
    rw [a2] at hy
    exact hsep y hy (PT.mem_map (List.mem_of_getElem? b) hx)
   ·omega
 ·show (x.maps ++ [m]).length ≤ 8
  rw [List.length_append]
  simp
  omega
 ·rcases hg' b hb with h9 | h9
  ·exact Or.inl h9
  ·exact Or.inr (by omega)
def NewIxPost (w : World) (k n : Int) (m : Nat) (e : Ending) (w' : World) : Prop := ∃ X bl, e = .returned (.tuple #[ixV k X, .int .i64 0]) ∧ KAt w' X bl (PX.new k n m) ∧ (∀ b ∈ bl, w.heap.size ≤ b) ∧ Touch [] w w'
def dV (d : MDef) : Value := .agg #[.int .i64 d.kind, .int .i64 d.key, .int .i64 d.val, .int .i64 d.max]
theorem KNewPost.ix {w w1 : World} {k n : Int} {m : Nat} {e : Ending} {w' : World} (h : KNewPost w1 (PX.new k n m) e w') (ht : Touch [] w w1) : ∃ X, e = .returned (.tuple #[.pointer (some ⟨X, 0, none⟩), .int .i64 0]) ∧ NewIxPost w k n m (.returned (.tuple #[ixV k X, .int .i64 0])) w' := by
 obtain ⟨X, bl, he, hA, hb, ht2⟩ := h
 have := ht.size
 exact ⟨X, he, X, bl, rfl, hA, fun b hx => by have := hb b hx; omega, ht.trans ht2 (by simp)⟩
theorem newIndex_any (w : World) (k n v : Int) (m : Nat) (k0 : 0 ≤ k) (k3 : k ≤ 3) (h : newOk k n m) : Calls Tryz.prog 45 #[dV ⟨k, n, v, m⟩] w (NewIxPost w k n m) := by
 have hta : ∀ o, Touch [] w (w.alloc o) := fun o => (Touch.refl [] w).alloc o
 have HT := toHid hta
 unfold dV
 have hk : k = 0 ∨ k = 1 ∨ k = 2 ∨ k = 3 := by omega
 rcases hk with rfl | rfl | rfl | rfl
 ·have hn : n = 4 := by
   have h1 := h.2.2.1
   have h2 := h.2.2.2
   simp at h1 h2
   omega
  subst hn
  have H1 := toHid (fun w1 => knew0_any w1 m h)
  clear h hta k0 k3
  go_enter Tryz.func45, Tryz.ntmps45
  go_wp2_with fail
  refine Calls.mono (H1.out _) ?_
  intro e w2 hp
  obtain ⟨X, rfl, hq⟩ := hp.ix (HT.out _)
  have HF := toHid hq
  clear hp hq
  go_wp2
  go_ret2
  exact HF.out
 ·obtain ⟨n, rfl⟩ : ∃ n' : Nat, n = n' := Int.eq_ofNat_of_zero_le (by have h1 := h.2.2.1; simp at h1; omega)
  have H1 := toHid (fun w1 => knew1_any w1 n m h)
  clear h hta k0 k3
  go_enter Tryz.func45, Tryz.ntmps45
  go_wp2_with fail
  refine Calls.mono (H1.out _) ?_
  intro e w2 hp
  obtain ⟨X, rfl, hq⟩ := hp.ix (HT.out _)
  have HF := toHid hq
  clear hp hq
  go_wp2
  go_ret2
  exact HF.out
 ·obtain ⟨n, rfl⟩ : ∃ n' : Nat, n = n' := Int.eq_ofNat_of_zero_le (by have h1 := h.2.2.1; simp at h1; omega)
  have H1 := toHid (fun w1 => knew2_any w1 n m h)
  clear h hta k0 k3
  go_enter Tryz.func45, Tryz.ntmps45
  go_wp2_with fail
  refine Calls.mono (H1.out _) ?_
  intro e w2 hp
  obtain ⟨X, rfl, hq⟩ := hp.ix (HT.out _)
  have HF := toHid hq
  clear hp hq
  go_wp2
  go_ret2
  exact HF.out
 ·obtain ⟨n, rfl⟩ : ∃ n' : Nat, n = (n' : Int) + 4 := ⟨(n - 4).toNat, by have h1 := h.2.2.1; simp at h1; omega⟩
  have H1 := toHid (fun w1 => knew3_any w1 n m h)
  clear h hta k0 k3
  go_enter Tryz.func45, Tryz.ntmps45
  go_wp2_with fail
  refine Calls.mono (H1.out _) ?_
  intro e w2 hp
  obtain ⟨X, rfl, hq⟩ := hp.ix (HT.out _)
  have HF := toHid hq
  clear hp hq
  go_wp2
  go_ret2
  exact HF.out
def NewIxBad (w : World) (e : Ending) (w' : World) : Prop := ∃ v, e = .returned (.tuple #[v, .int .i64 2]) ∧ Touch [] w w'
theorem newIndex_bad (w : World) (d : MDef) (h : ¬ (0 ≤ d.kind ∧ d.kind ≤ 3 ∧ newOk d.kind d.key d.max)) : Calls Tryz.prog 45 #[dV d] w (NewIxBad w) := by
 have hta : ∀ o, Touch [] w (w.alloc o) := fun o => (Touch.refl [] w).alloc o
 have HT := toHid hta
 obtain ⟨k, n, v, m⟩ := d
 unfold dV
 dsimp only at h ⊢
 have H0 : Hid (∀ w1 : World, ¬ (1 ≤ m ∧ m ≤ 64) → Calls Tryz.prog 73 #[.int .i64 m] w1 fun e w' => e = .returned (.tuple #[.pointer none, .int .i64 2]) ∧ w' = w1) := fun w1 h1 => Arr.new_bad w1 m h1
 by_cases hk : k = 0 ∨ k = 1 ∨ k = 2 ∨ k = 3
 ·rcases hk with rfl | rfl | rfl | rfl
  ·by_cases hn : n = 4
   ·subst hn
    have H1 := toHid (fun w1 => H0.out w1 (fun hm => h ⟨by omega, by omega, hm.1, hm.2, by decide, by decide⟩))
    clear h hta
    go_enter Tryz.func45, Tryz.ntmps45
    go_wp2_with fail
    refine Calls.mono (H1.out _) ?_
    rintro e w2 ⟨rfl, rfl⟩
    go_wp2
    go_ret2
    exact ⟨_, rfl, HT.out _⟩
   ·clear h hta
    go_enter Tryz.func45, Tryz.ntmps45
    go_wp2
    go_ret2
    exact ⟨_, rfl, HT.out _⟩
  ·have H1 := toHid (fun w1 => new_bad w1 n m (fun hm => h ⟨by omega, by omega, hm.1, hm.2.1, by simp; omega, by simp; omega⟩))
   clear h hta
   go_enter Tryz.func45, Tryz.ntmps45
   go_wp2_with fail
   refine Calls.mono (H1.out _) ?_
   rintro e w2 ⟨rfl, rfl⟩
   go_wp2
   go_ret2
   exact ⟨_, rfl, HT.out _⟩
  ·have H1 := toHid (fun w1 => lnew_bad w1 n m (fun hm => h ⟨by omega, by omega, hm.1, hm.2.1, by simp; omega, by simp; omega⟩))
   clear h hta
   go_enter Tryz.func45, Tryz.ntmps45
   go_wp2_with fail
   refine Calls.mono (H1.out _) ?_
   rintro e w2 ⟨rfl, rfl⟩
   go_wp2
   go_ret2
   exact ⟨_, rfl, HT.out _⟩
  ·have H1 := toHid (fun w1 => Lpm.inew_bad w1 n m (fun hm => h ⟨by omega, by omega, hm.1, hm.2.1, by simp; omega, by simp; omega⟩))
   clear h hta
   go_enter Tryz.func45, Tryz.ntmps45
   go_wp2_with fail
   refine Calls.mono (H1.out _) ?_
   rintro e w2 ⟨rfl, rfl⟩
   go_wp2
   go_ret2
   exact ⟨_, rfl, HT.out _⟩
 ·have e0 : ¬ k = 0 := fun e => hk (Or.inl e)
  have e1 : ¬ k = 1 := fun e => hk (Or.inr (Or.inl e))
  have e2 : ¬ k = 2 := fun e => hk (Or.inr (Or.inr (Or.inl e)))
  have e3 : ¬ k = 3 := fun e => hk (Or.inr (Or.inr (Or.inr e)))
  have b0 : (k == 0) = false := by simpa using e0
  have b1 : (k == 1) = false := by simpa using e1
  have b2 : (k == 2) = false := by simpa using e2
  have b3 : (k == 3) = false := by simpa using e3
  clear h hk H0 hta
  go_enter Tryz.func45, Tryz.ntmps45
  go_wp2
  go_ret2
  exact ⟨_, rfl, HT.out _⟩
end Go.Proofs.YtmhhahmjkopjhaaGreat
end
section
namespace Go.Proofs.YtmhhahmjkopjhaaGreat
open Go.RowKit
structure CopAt (w w' : World) (x : PT) (m T : Nat) (l : List (MDef × PX)) : Prop where
 tab : PTAt w' x
 t : x.t = T
 mem : x.mem = m
 ds : x.ds = l.map Prod.fst
 qs : x.qs = l.map Prod.snd
 own : ∀ b ∈ x.blocks, w.heap.size ≤ b
 touch : Touch [] w w'
theorem CopAt.push {w w1 w2 : World} {x : PT} {m T k : Nat} {l : List (MDef × PX)} {d : MDef} {q : PX} {X : Nat} {bl : List Nat} (h : CopAt w w1 x m T (l.take k)) (hd : l[k]? = some (d, q)) (hk : k < 8) (hok : PMapOk ⟨d, X, bl, q⟩) (ht : Touch [] w1 w2) (hA : KAt w2 X bl q) (hb : ∀ b ∈ bl, w1.heap.size ≤ b) :
  ∃ sg' cap' w3, (Builtin.append_ #[83, 83] 83 #[slV x.g x.maps.length x.cap, .slice (some ⟨w2.heap.size, 0, none⟩) 1 1]).run Tryz.prog (w2.alloc (.cells #[.int .i64 d.kind, .int .i64 d.key, .int .i64 d.val, .int .i64 d.max, ixV d.kind X] 89)) = .ok (.slice sg' (x.maps.length + 1) cap') w3 ∧
   w3.cell? ⟨T, 1, none⟩ = some (slV x.g x.maps.length x.cap) ∧ w3.frozen? ⟨T, 1, none⟩ = false ∧ Touch x.top w2 w3 ∧ Touch x.top w2 (w3.setCell ⟨T, 1, none⟩ (.slice sg' (x.maps.length + 1) cap')) ∧ ∃ x', CopAt w (w3.setCell ⟨T, 1, none⟩ (.slice sg' (x.maps.length + 1) cap')) x' m T (l.take (k + 1)) := by
 have hx2 : PTAt w2 x := h.tab.still ht
 have hlt := h.tab.lt
 have hsz := ht.size
 have hl : x.maps.length = k := by
  have h1 := congrArg List.length h.ds
  have h2 := (List.getElem?_eq_some_iff.1 hd).1
  simp [PT.ds] at h1
  omega
 have hsz0 := h.touch.size
 obtain ⟨g', cap', w3, hr, hc, hf, hA3, ht1, ht2, hg⟩ := hx2.push (m := ⟨d, X, bl, q⟩) hA hok (fun b hbx hx => by
  have := hb b hbx
  have := hlt b hx
  omega) (by omega)
 have htk : l.take (k + 1) = l.take k ++ [(d, q)] := by rw [List.take_add_one, hd]; rfl
 rw [h.t] at hc hf hA3 ht2
 refine ⟨g'.map fun b => (⟨b, 0, none⟩ : Addr), cap', w3, hr, hc, hf, ht1, ht2, x.add g' cap' ⟨d, X, bl, q⟩, hA3, h.t, h.mem, ?_, ?_, fun b hbx => ?_, ?_⟩
 ·rw [htk]
  show (x.maps ++ [_]).map PMap.d = _
  have h1 : x.maps.map PMap.d = (l.take k).map Prod.fst := h.ds
  rw [List.map_append, h1, List.map_append]
  rfl
 ·rw [htk]
  show (x.maps ++ [_]).map PMap.q = _
  have h1 : x.maps.map PMap.q = (l.take k).map Prod.snd := h.qs
  rw [List.map_append, h1, List.map_append]
  rfl
 ·rcases List.mem_append.1 hbx with hbx | hbx
  ·rcases List.mem_cons.1 (show b ∈ x.t :: g'.toList from hbx) with hbx | hbx
   ·exact h.own b (by rw [hbx]; exact PT.mem_top (by simp [PT.top]))
   ·rcases hg b (by simpa using hbx) with hbx | hbx
    ·exact h.own b (PT.mem_top (PT.mem_g hbx))
    ·omega
  ·rw [show (x.add g' cap' ⟨d, X, bl, q⟩).maps = x.maps ++ [⟨d, X, bl, q⟩] from rfl, List.flatMap_append, List.flatMap_singleton] at hbx
   rcases List.mem_append.1 hbx with hbx | hbx
   ·obtain ⟨m9, h9, hbx⟩ := List.mem_flatMap.1 hbx
    exact h.own b (PT.mem_map h9 hbx)
   ·have := hb b hbx
    omega
 ·exact (h.touch.trans ht (by simp)).trans ht2 (fun b hbx => Or.inr (h.own b (PT.mem_top hbx)))
def PT.ls (x : PT) : List (MDef × PX) := x.maps.map fun m => (m.d, m.q)
theorem PT.ls_ds (x : PT) : x.ls.map Prod.fst = x.ds := by unfold PT.ls PT.ds; rw [List.map_map]; rfl
theorem PT.ls_qs (x : PT) : x.ls.map Prod.snd = x.qs := by unfold PT.ls PT.qs; rw [List.map_map]; rfl
def PCopyPost (w : World) (x : PT) (m : Nat) (e : Ending) (w' : World) : Prop := ∃ t, e = .returned (.pointer (some ⟨t.t, 0, none⟩)) ∧ CopAt w w' t m t.t x.ls
theorem pcopy_nil2 (w : World) (t : Nat) : Calls Tryz.prog 19 #[.pointer (some ⟨t, 0, none⟩), .pointer none] w fun e w' => e = .returned (.pointer none) ∧ w' = w := by
 go_enter Tryz.func19, Tryz.ntmps19
 go_wp2
 go_ret
 exact ⟨rfl, rfl⟩
theorem pcopy_any {w : World} {x : PT} (h : PTAt w x) (m2 : Nat) : Calls Tryz.prog 19 #[.pointer (some ⟨x.t, 0, none⟩), .pointer (some ⟨m2, 0, none⟩)] w (PCopyPost w x m2) := by
 have c1 := h.c1
 have hmany := h.many
 have HH := toHid h
 unfold slV at c1
 generalize hsg : (x.g.map fun b => (⟨b, 0, none⟩ : Addr)) = sg at *
 have HG := toHid hsg
 generalize hL : x.maps.length = L at *
 have HL := toHid hL
 clear h hsg hL
 have hz := (zero_of_info (P := Tryz.prog) zero89).1
 have hsz := (zero_of_info (P := Tryz.prog) zero89).2
 have hB := Blk.newA w #[.pointer (some ⟨m2, 0, none⟩), .slice none 0 0] _ 85 rfl
 have HI0 : Hid (∃ t, CopAt w (w.alloc (.cells #[.pointer (some ⟨m2, 0, none⟩), .slice none 0 0] 85)) t m2 w.heap.size (x.ls.take 0)) := by
  refine ⟨⟨w.heap.size, m2, none, 0, []⟩, ⟨hB, ?_, ?_, ?_, ?_, ?_, ?_, by simp⟩, rfl, rfl, rfl, rfl, ?_, (Touch.refl _ w).alloc _⟩
  ·exact ⟨rfl, Nat.le_refl _, Nat.zero_le _, rfl⟩
  ·intro m hm; cases hm
  ·intro m hm; cases hm
  ·simp [PT.top]
  ·intro m hm; cases hm
  ·intro i j mi mj hi; simp at hi
  ·intro b hb; simp [PT.blocks, PT.top] at hb; omega
 replace c1 : ∀ o, (w.alloc o).cell? ⟨x.t, 1, none⟩ = some (.slice sg L x.cap) := fun o => ((Touch.refl [] w).alloc o).cell c1 (by simp)
 clear hB
 go_enter Tryz.func19, Tryz.ntmps19
 go_wp2_with fail
 clear c1
 generalize hT0 : w.heap.size = T at *
 have HT0 := toHid hT0
 clear hT0
 go_loopw [22] (fun t w' => ∃ k : Nat, k ≤ L ∧ t = .int .i64 k ∧ Hid (∃ t, CopAt w w' t m2 T (x.ls.take k))) (fun t _ => L - (intOf t).toNat)
 case atStart => exact ⟨0, by omega, rfl, HI0⟩
 case round =>
  obtain ⟨k, hk, rfl, HI⟩ := hrel
  clear HI0
  by_cases hlt : k < L
  ·obtain ⟨t, hC⟩ := HI.out
   have hR := HH.out.still hC.touch
   obtain ⟨m, hm⟩ : ∃ m, x.maps[k]? = some m := ⟨_, List.getElem?_eq_getElem (by rw [HL.out]; exact hlt)⟩
   have hmem := List.mem_of_getElem? hm
   obtain ⟨gb, hg⟩ := hR.some_g hm
   have hsg := HG.out
   rw [hg, Option.map_some] at hsg
   subst hsg
   obtain ⟨b0, b1, b2, b3, b4⟩ := hR.boxed hm hg
   have hlk : x.ls[k]? = some (m.d, m.q) := by unfold PT.ls; rw [List.getElem?_map, hm]; rfl
   have hK := hR.maps m hmem
   have hok := hR.ok m hmem
   have hkd := hok.kind
   have o1 := hC.tab.c1
   rw [hC.t] at o1
   have hNB := Blk.newA wr (BoxCells m) _ 89 rfl
   have hTV : Touch [] wr (wr.alloc (.cells (BoxCells m) 89)) := (Touch.refl [] wr).alloc _
   have hVt : wr.heap.size ∉ t.top := fun hx => by have := hC.tab.lt _ (PT.mem_top hx); omega
   have H9 : Hid (∀ u, Touch [] (wr.alloc (.cells (BoxCells m) 89)) u → Calls Tryz.prog 40 #[ixV m.d.kind m.X] u (TwinPost u m.d.kind m.q)) := fun u hu => by
    have h9 := twin_any (hK.still (hTV.trans hu (by simp)))
    rw [hkd] at h9
    exact h9
   have HTc : Hid (∀ u, Touch [] (wr.alloc (.cells (BoxCells m) 89)) u → u.cell? ⟨T, 1, none⟩ = some (slV t.g t.maps.length t.cap)) := fun u hu => (hTV.trans hu (by simp)).cell o1 (by simp)
   have HV : Hid (∀ u, Touch t.top (wr.alloc (.cells (BoxCells m) 89)) u → u.cell? ⟨wr.heap.size, 0, none⟩ = some (.int .i64 m.d.kind) ∧ u.cell? ⟨wr.heap.size, 1, none⟩ = some (.int .i64 m.d.key) ∧ u.cell? ⟨wr.heap.size, 2, none⟩ = some (.int .i64 m.d.val) ∧ u.cell? ⟨wr.heap.size, 3, none⟩ = some (.int .i64 m.d.max) ∧ u.cell? ⟨wr.heap.size, 4, none⟩ = some (ixV m.d.kind m.X)) := fun u hu => by
    have h9 := hu.blk hNB hVt
    exact ⟨h9.cell rfl, h9.cell rfl, h9.cell rfl, h9.cell rfl, h9.cell rfl⟩
   have HPU : Hid (∀ w1 C bl, Touch [] (wr.alloc (.cells (BoxCells m) 89)) w1 → KAt w1 C bl m.q → (∀ b ∈ bl, (wr.alloc (.cells (BoxCells m) 89)).heap.size ≤ b) → ∃ sg' cap' w3, (Builtin.append_ #[83, 83] 83 #[slV t.g t.maps.length t.cap, .slice (some ⟨w1.heap.size, 0, none⟩) 1 1]).run Tryz.prog (w1.alloc (.cells #[.int .i64 m.d.kind, .int .i64 m.d.key, .int .i64 m.d.val, .int .i64 m.d.max, ixV m.d.kind C] 89)) = .ok (.slice sg' (t.maps.length + 1) cap') w3 ∧
     w3.cell? ⟨T, 1, none⟩ = some (slV t.g t.maps.length t.cap) ∧ w3.frozen? ⟨T, 1, none⟩ = false ∧ Touch t.top w1 w3 ∧ Touch t.top w1 (w3.setCell ⟨T, 1, none⟩ (.slice sg' (t.maps.length + 1) cap')) ∧ ∃ x', CopAt w (w3.setCell ⟨T, 1, none⟩ (.slice sg' (t.maps.length + 1) cap')) x' m2 T (x.ls.take (k + 1))) := fun w1 C bl ht hA hb =>
    hC.push hlk (by omega) ⟨hkd, hok.key, hok.max, hok.v1, hok.v2⟩ (hTV.trans ht (by simp)) hA (fun b hbb => by have := hb b hbb; have := hTV.size; omega)
   have HTW := toHid hTV
   unfold BoxCells at *
   unfold ixV at *
   unfold TwinPost ixV at H9
   clear hC HI hR hm hmem hg hlk hK hok hkd o1 hNB hTV hVt
   go_upto_region 7 with fail
   clear b0 b1 b2 b3 b4
   generalize hV : wr.heap.size = V at *
   generalize hwv : wr.alloc (.cells #[.int .i64 m.d.kind, .int .i64 m.d.key, .int .i64 m.d.val, .int .i64 m.d.max, .iface (typF m.d.kind) (.pointer (some ⟨m.X, 0, none⟩))] 89) = wv at *
   clear hwv hV
   unfold slV at *
   generalize (t.g.map fun b => (⟨b, 0, none⟩ : Addr)) = tg at *
   generalize t.maps.length = tl at *
   generalize t.cap = tc at *
   generalize typF m.d.kind = ty at *
   generalize m.d.kind = kd at *
   generalize m.d.key = ky at *
   generalize m.d.val = vl at *
   generalize m.d.max = mx at *
   generalize m.X = X at *
   refine wp_region_held_drew (S := fun w' => w'.cell? ⟨V, 0, none⟩ = some (.int .i64 kd) ∧ w'.cell? ⟨V, 1, none⟩ = some (.int .i64 ky) ∧ w'.cell? ⟨V, 2, none⟩ = some (.int .i64 vl) ∧ w'.cell? ⟨V, 3, none⟩ = some (.int .i64 mx) ∧ w'.cell? ⟨V, 4, none⟩ = some (.iface ty (.pointer (some ⟨X, 0, none⟩)))) (by kernel_rfl) ?_ (fun hHeld => ?_)
   ·exact HV.out _ (Touch.refl t.top wv).drew
   refine tk 0 (v := ?_) rfl ?_ ?_
   rotate_left
   ·(intro w hSw; (try dsimp only at hSw); go_simp; try with_reducible rfl)
   simp only [Act.put, AP]
   refine tk 1 (v := ?_) rfl ?_ ?_
   rotate_left
   ·(intro w hSw; (try dsimp only at hSw); go_simp; try with_reducible rfl)
   simp only [Act.put, AP]
   refine tk 2 (v := ?_) rfl ?_ ?_
   rotate_left
   ·(intro w hSw; (try dsimp only at hSw); go_simp; try with_reducible rfl)
   simp only [Act.put, AP]
   refine tk 3 (v := ?_) rfl ?_ ?_
   rotate_left
   ·(intro w hSw; (try dsimp only at hSw); go_simp; try with_reducible rfl)
   simp only [Act.put, AP]
   refine tk 5 (v := ?_) rfl ?_ ?_
   rotate_left
   ·(intro w hSw; (try dsimp only at hSw); go_simp; try with_reducible rfl)
   simp only [Act.put, AP]
   refine tk 6 (v := ?_) rfl ?_ ?_
   rotate_left
   ·(intro w hSw; (try dsimp only at hSw); go_simp; try with_reducible rfl)
   simp only [Act.put, AP]
   refine tk 7 (v := ?_) rfl ?_ ?_
   rotate_left
   ·(intro w hSw; (try dsimp only at hSw); go_simp; try with_reducible rfl)
   simp only [Act.put, AP]
   refine tk 8 (v := ?_) rfl ?_ ?_
   rotate_left
   ·(intro w hSw; (try dsimp only at hSw); go_simp; try with_reducible rfl)
   simp only [Act.put, AP]
   refine wpAnyH_ready (rs := [4, 9]) (by kernel_rfl) (by simp) ?_
   refine (AllReadyH.cons rfl (fun K hK => ?_) (AllReadyH.cons rfl (fun K hK => ?_) AllReadyH.nil))
   ·have hq := HTc.out (wv.drew) ((Touch.refl [] wv).drew)
    simp only [AP]
    go_simp
    refine hK.out _ _ ?_ (fun hHeld => ?_)
    ·exact HV.out _ (((Touch.refl [] wv).drew).mono (fun b hb => by cases hb))
    clear hK K
    try simp only [Act.put, AP]
    clear hq
    refine wpAnyH_ready (rs := [9]) (by kernel_rfl) (by simp) ?_
    refine (AllReadyH.cons rfl (fun K hK => ?_) AllReadyH.nil)
    simp only [AP]
    go_simp
    refine Calls.mono (H9.out _ ((Touch.refl [] wv).drew)) ?_; rintro e w1 ⟨C, bl, rfl, hA, hb, ht9⟩
    have T1 : Touch [] wv w1 := ((Touch.refl [] wv).drew).trans ht9 (by simp)
    have hs9 : wv.heap.size ≤ (wv.drew).heap.size := ((Touch.refl [] wv).drew).size
    obtain ⟨sg', cap', w3, hr3, e1, e2, hTa, hTb, hF⟩ := HPU.out w1 C bl T1 hA (fun b hbb => by have := hb b hbb; omega)
    have HR3 := toHid hr3
    have HE := toHid (And.intro e1 e2)
    have HTa := toHid ((T1.mono (S' := t.top) (fun b hb => by cases hb)).trans hTa (fun b hb => Or.inl hb))
    have HTb := toHid ((T1.mono (S' := t.top) (fun b hb => by cases hb)).trans hTb (fun b hb => Or.inl hb))
    have HF := toHid hF
    have HT1 := toHid T1
    clear hr3 e1 e2 hTa hTb hF T1 hA hb ht9 hs9
    go_wp2_with fail
    refine hK.out _ _ ?_ (fun hHeld => ?_)
    ·exact HV.out _ ((HT1.out).mono (fun b hb => by cases hb))
    clear hK K
    try simp only [Act.put, AP]
    refine tk 10 (v := ?_) rfl ?_ ?_
    rotate_left
    ·(intro w hSw; (try dsimp only at hSw); go_simp; try with_reducible rfl)
    simp only [Act.put, AP]
    refine wpAnyH_ready (rs := [11]) (by kernel_rfl) (by simp) ?_
    refine (AllReadyH.cons rfl (fun K hK => ?_) AllReadyH.nil)
    simp only [AP]
    go_simp
    refine hK.out _ _ ?_ (fun hHeld => ?_)
    ·exact HV.out _ ((HT1.out.alloc _).mono (fun b hb => by cases hb))
    clear hK K
    try simp only [Act.put, AP]
    refine wpAnyH_ready (rs := [12]) (by kernel_rfl) (by simp) ?_
    refine (AllReadyH.cons rfl (fun K hK => ?_) AllReadyH.nil)
    refine step_append_known rfl (.tmp 30) (.tmp 37) 83 83 rfl (.slice tg tl tc) (.slice (some ⟨w1.heap.size, 0, none⟩) 1 1) (by simp [Act.eval]) (by simp [Act.eval]) HR3.out ?_
    refine hK.out _ _ ?_ (fun hHeld => ?_)
    ·exact HV.out _ HTa.out
    clear hK K
    try simp only [Act.put, AP]
    refine tk 13 (v := ?_) rfl ?_ ?_
    rotate_left
    ·(intro w hSw; (try dsimp only at hSw); go_simp; try with_reducible rfl)
    simp only [Act.put, AP]
    refine tk 14 (v := ?_) rfl ?_ ?_
    rotate_left
    ·(intro w hSw; (try dsimp only at hSw); go_simp; try with_reducible rfl)
    simp only [Act.put, AP]
    obtain ⟨e1, e2⟩ := HE.out
    refine wpAnyH_ready (rs := [15]) (by kernel_rfl) (by simp) ?_
    refine (AllReadyH.cons rfl (fun K hK => ?_) AllReadyH.nil)
    simp only [AP]
    go_simp
    refine hK.out _ _ ?_ (fun hHeld => ?_)
    ·exact HV.out _ HTb.out
    clear hK K
    try simp only [Act.put, AP]
    refine wpAnyH_done (by kernel_rfl) ?_ _
    clear e1 e2
    go_wp2
    exact ⟨⟨k + 1, by omega, by go_num, HF.out⟩, by simp [intOf]; omega⟩
   ·simp only [AP]
    go_simp
    refine Calls.mono (H9.out _ ((Touch.refl [] wv).drew)) ?_; rintro e w1 ⟨C, bl, rfl, hA, hb, ht9⟩
    have T1 : Touch [] wv w1 := ((Touch.refl [] wv).drew).trans ht9 (by simp)
    have hs9 : wv.heap.size ≤ (wv.drew).heap.size := ((Touch.refl [] wv).drew).size
    obtain ⟨sg', cap', w3, hr3, e1, e2, hTa, hTb, hF⟩ := HPU.out w1 C bl T1 hA (fun b hbb => by have := hb b hbb; omega)
    have HR3 := toHid hr3
    have HE := toHid (And.intro e1 e2)
    have HTa := toHid ((T1.mono (S' := t.top) (fun b hb => by cases hb)).trans hTa (fun b hb => Or.inl hb))
    have HTb := toHid ((T1.mono (S' := t.top) (fun b hb => by cases hb)).trans hTb (fun b hb => Or.inl hb))
    have HF := toHid hF
    have HT1 := toHid T1
    clear hr3 e1 e2 hTa hTb hF T1 hA hb ht9 hs9
    go_wp2_with fail
    refine hK.out _ _ ?_ (fun hHeld => ?_)
    ·exact HV.out _ ((HT1.out).mono (fun b hb => by cases hb))
    clear hK K
    try simp only [Act.put, AP]
    refine tk 10 (v := ?_) rfl ?_ ?_
    rotate_left
    ·(intro w hSw; (try dsimp only at hSw); go_simp; try with_reducible rfl)
    simp only [Act.put, AP]
    refine wpAnyH_ready (rs := [4, 11]) (by kernel_rfl) (by simp) ?_
    refine (AllReadyH.cons rfl (fun K hK => ?_) (AllReadyH.cons rfl (fun K hK => ?_) AllReadyH.nil))
    ·have hq := HTc.out (w1) (HT1.out)
     simp only [AP]
     go_simp
     refine hK.out _ _ ?_ (fun hHeld => ?_)
     ·exact HV.out _ ((HT1.out).mono (fun b hb => by cases hb))
     clear hK K
     try simp only [Act.put, AP]
     clear hq
     refine wpAnyH_ready (rs := [11]) (by kernel_rfl) (by simp) ?_
     refine (AllReadyH.cons rfl (fun K hK => ?_) AllReadyH.nil)
     simp only [AP]
     go_simp
     refine hK.out _ _ ?_ (fun hHeld => ?_)
     ·exact HV.out _ ((HT1.out.alloc _).mono (fun b hb => by cases hb))
     clear hK K
     try simp only [Act.put, AP]
     refine wpAnyH_ready (rs := [12]) (by kernel_rfl) (by simp) ?_
     refine (AllReadyH.cons rfl (fun K hK => ?_) AllReadyH.nil)
     refine step_append_known rfl (.tmp 30) (.tmp 37) 83 83 rfl (.slice tg tl tc) (.slice (some ⟨w1.heap.size, 0, none⟩) 1 1) (by simp [Act.eval]) (by simp [Act.eval]) HR3.out ?_
     refine hK.out _ _ ?_ (fun hHeld => ?_)
     ·exact HV.out _ HTa.out
     clear hK K
     try simp only [Act.put, AP]
     refine tk 13 (v := ?_) rfl ?_ ?_
     rotate_left
     ·(intro w hSw; (try dsimp only at hSw); go_simp; try with_reducible rfl)
     simp only [Act.put, AP]
     refine tk 14 (v := ?_) rfl ?_ ?_
     rotate_left
     ·(intro w hSw; (try dsimp only at hSw); go_simp; try with_reducible rfl)
     simp only [Act.put, AP]
     obtain ⟨e1, e2⟩ := HE.out
     refine wpAnyH_ready (rs := [15]) (by kernel_rfl) (by simp) ?_
     refine (AllReadyH.cons rfl (fun K hK => ?_) AllReadyH.nil)
     simp only [AP]
     go_simp
     refine hK.out _ _ ?_ (fun hHeld => ?_)
     ·exact HV.out _ HTb.out
     clear hK K
     try simp only [Act.put, AP]
     refine wpAnyH_done (by kernel_rfl) ?_ _
     clear e1 e2
     go_wp2
     exact ⟨⟨k + 1, by omega, by go_num, HF.out⟩, by simp [intOf]; omega⟩
    ·simp only [AP]
     go_simp
     refine hK.out _ _ ?_ (fun hHeld => ?_)
     ·exact HV.out _ ((HT1.out.alloc _).mono (fun b hb => by cases hb))
     clear hK K
     try simp only [Act.put, AP]
     refine wpAnyH_ready (rs := [4]) (by kernel_rfl) (by simp) ?_
     refine (AllReadyH.cons rfl (fun K hK => ?_) AllReadyH.nil)
     have hq := HTc.out ((w1.alloc (.cells #[.int .i64 kd, .int .i64 ky, .int .i64 vl, .int .i64 mx, .iface ty (.pointer (some ⟨C, 0, none⟩))] 89))) (HT1.out.alloc _)
     simp only [AP]
     go_simp
     refine hK.out _ _ ?_ (fun hHeld => ?_)
     ·exact HV.out _ ((HT1.out.alloc _).mono (fun b hb => by cases hb))
     clear hK K
     try simp only [Act.put, AP]
     clear hq
     refine wpAnyH_ready (rs := [12]) (by kernel_rfl) (by simp) ?_
     refine (AllReadyH.cons rfl (fun K hK => ?_) AllReadyH.nil)
     refine step_append_known rfl (.tmp 30) (.tmp 37) 83 83 rfl (.slice tg tl tc) (.slice (some ⟨w1.heap.size, 0, none⟩) 1 1) (by simp [Act.eval]) (by simp [Act.eval]) HR3.out ?_
     refine hK.out _ _ ?_ (fun hHeld => ?_)
     ·exact HV.out _ HTa.out
     clear hK K
     try simp only [Act.put, AP]
     refine tk 13 (v := ?_) rfl ?_ ?_
     rotate_left
     ·(intro w hSw; (try dsimp only at hSw); go_simp; try with_reducible rfl)
     simp only [Act.put, AP]
     refine tk 14 (v := ?_) rfl ?_ ?_
     rotate_left
     ·(intro w hSw; (try dsimp only at hSw); go_simp; try with_reducible rfl)
     simp only [Act.put, AP]
     obtain ⟨e1, e2⟩ := HE.out
     refine wpAnyH_ready (rs := [15]) (by kernel_rfl) (by simp) ?_
     refine (AllReadyH.cons rfl (fun K hK => ?_) AllReadyH.nil)
     simp only [AP]
     go_simp
     refine hK.out _ _ ?_ (fun hHeld => ?_)
     ·exact HV.out _ HTb.out
     clear hK K
     try simp only [Act.put, AP]
     refine wpAnyH_done (by kernel_rfl) ?_ _
     clear e1 e2
     go_wp2
     exact ⟨⟨k + 1, by omega, by go_num, HF.out⟩, by simp [intOf]; omega⟩
  ·obtain rfl : k = L := by omega
   obtain ⟨t, hC⟩ := HI.out
   have htk : x.ls.take k = x.ls := by
    have : x.ls.length = k := by unfold PT.ls; rw [List.length_map]; exact HL.out
    rw [← this]
    exact List.take_length
   rw [htk] at hC
   have HF : Hid (PCopyPost w x m2 (.returned (.pointer (some ⟨T, 0, none⟩))) wr) := ⟨t, by rw [hC.t], by rw [hC.t]; exact hC⟩
   clear hC HI htk
   go_wp2
   go_ret
   exact HF.out
end Go.Proofs.YtmhhahmjkopjhaaGreat
end
section
namespace Go.Proofs.YtmhhahmjkopjhaaGreat
open Go.RowKit
theorem method_put (k : Int) (k0 : 0 ≤ k) (k3 : k ≤ 3) (X : Nat) (n : Nat) : ∀ w : World, (method (n + 1) (typF k) (.pointer (some ⟨X, 0, none⟩)) "Put").run Tryz.prog w = .ok (putF k, .pointer (some ⟨X, 0, none⟩)) w := by
 obtain rfl | rfl | rfl | rfl : k = 0 ∨ k = 1 ∨ k = 2 ∨ k = 3 := by omega
 all_goals (intro w; kernel_rfl)
theorem call_put (k : Int) (k0 : 0 ≤ k) (k3 : k ≤ 3) : ∀ (args : Array Value) (w : World), (callFunc (putF k) args).run Tryz.prog w = .ok (.enter (putF k) args) w := by
 obtain rfl | rfl | rfl | rfl : k = 0 ∨ k = 1 ∨ k = 2 ∨ k = 3 := by omega
 all_goals (intro args w; kernel_rfl)
theorem poldFrom_lt (ws : List Int) : ∀ n a, a < ws.length → n ≤ ws.length → oldFrom ws n a < ws.length
 | 0, a, h, _ => h
 | n + 1, a, h, hn => by
  rw [oldFrom_succ]
  refine poldFrom_lt ws n _ ?_ (by omega)
  split <;> omega
theorem pput_slot {q : PX} (g : PGood q) {bs : List Int} {fl : Int} (h : (q.putA bs fl).1.2.2 = 0) : ∃ s : Nat, (q.putA bs fl).1.1 = s ∧ s < q.slots.length := by
 unfold PX.putA at h ⊢
 split at h
 ·rename_i hk
  rw [if_pos hk]
  unfold PX.put3 at h ⊢
  split at h
  ·rename_i hf
   rw [if_pos hf]
   split at h
   ·cases h
   ·rename_i hfl
    rw [if_neg hfl]
    cases hs : sameP q.slots (cutP bs) with
    | some i =>
     rw [hs] at h
     dsimp only at h ⊢
     split at h
     ·cases h
     ·rename_i h1
      rw [if_neg h1]
      exact ⟨i, rfl, sameP_lt hs⟩
    | none =>
     rw [hs] at h
     dsimp only at h ⊢
     split at h
     ·cases h
     ·rename_i h1
      rw [if_neg h1]
      cases hf2 : freeP q.slots with
      | some f => exact ⟨f, rfl, freeP_lt hf2⟩
      | none => rw [hf2] at h; cases h
  ·cases h
 ·rename_i hk
  rw [if_neg hk]
  unfold PX.put at h ⊢
  split at h
  ·rename_i hf
   rw [if_pos hf]
   split at h
   ·cases h
   ·rename_i hfl
    rw [if_neg hfl]
    cases hs : sameP q.slots bs with
    | some i =>
     rw [hs] at h
     dsimp only at h ⊢
     split at h
     ·cases h
     ·rename_i h1
      rw [if_neg h1]
      exact ⟨i, rfl, sameP_lt hs⟩
    | none =>
     rw [hs] at h
     dsimp only at h ⊢
     split at h
     ·cases h
     ·rename_i h0
      rw [if_neg h0]
      split at h
      ·cases h
      ·rename_i h1
       rw [if_neg h1]
       cases hr : q.room with
       | none => rw [hr] at h; cases h
       | some f =>
        refine ⟨f, rfl, ?_⟩
        unfold PX.room at hr
        cases hf2 : freeP q.slots with
        | some f2 =>
         rw [hf2] at hr
         injection hr with hr
         rw [← hr]
         exact freeP_lt hf2
        | none =>
         rw [hf2] at hr
         dsimp only at hr
         split at hr
         ·injection hr with hr
          rw [← hr, ← g.whens]
          have := g.m1
          have := g.whens
          exact poldFrom_lt _ _ _ (by omega) (Nat.le_refl _)
         ·cases hr
  ·cases h
def updP (x : PT) (i : Int) (bs vs : List Int) (fl : Int) : Int × List PX × Option Int :=
 if chkP x.ds i bs.length = 0 then match x.maps[i.toNat]? with
  | some m => if (vs.length : Int) = m.d.val then
    (if (m.q.putA bs fl).1.2.2 = 0 then (0, x.qs.set i.toNat (m.q.putA bs fl).2, some (plI i (m.q.putA bs fl).1.1))
    else ((m.q.putA bs fl).1.2.2, x.qs.set i.toNat (m.q.putA bs fl).2, none))
   else (2, x.qs, none)
  | none => (14, x.qs, none)
 else (chkP x.ds i bs.length, x.qs, none)
structure PUSt (w w' : World) (x x' : PT) (s : Mem.MS) (qs : List PX) (rs : List Mem.Reg) : Prop where
 both : PBoth w' x' { s with rs := rs }
 qs : x'.qs = qs
 t : x'.t = x.t
 ds : x'.ds = x.ds
 sblk : ({ s with rs := rs } : Mem.MS).blocks = s.blocks
 touch : Touch (x.blocks ++ s.blocks) w w'
 blocks : ∀ b ∈ x'.blocks, b ∈ x.blocks ∨ w.heap.size ≤ b
theorem PUSt.same {w w' : World} {x x' : PT} {s : Mem.MS} {qs : List PX} (h : PBoth w x s) (st : PStep w w' x x' qs) : PUSt w w' x x' s qs s.rs :=
 ⟨h.step st, st.qs, st.t, st.ds, rfl, st.touch.mono (fun _b hb => Or.inl (List.mem_append_left _ hb)), st.blocks⟩
def updE (rs : List Mem.Reg) (vs : List Int) (a : Int × List PX × Option Int) : Int := match a.2.2 with
 | some p => Mem.writeE rs p vs
 | none => a.1
def updRs (rs : List Mem.Reg) (vs : List Int) (a : Int × List PX × Option Int) : List Mem.Reg := match a.2.2 with
 | some p => Mem.writeRs rs p vs
 | none => rs
def PUpdPost (w : World) (x : PT) (s : Mem.MS) (vs : List Int) (a : Int × List PX × Option Int) (e : Ending) (w' : World) : Prop := e = .returned (.int .i64 (updE s.rs vs a)) ∧ ∃ x', PUSt w w' x x' s a.2.1 (updRs s.rs vs a)
theorem pupdate_any {w : World} {x : PT} {s : Mem.MS} (h : PBoth w x s) (i : Int) {sa : Option Addr} {sl : Nat} {bs : List Int} (hk : KeyAt w sa sl bs) (sc : Nat) (hsc : sl ≤ sc)
  (hout : ∀ b off, sa = some ⟨b, off, none⟩ → 1 ≤ bs.length → b ∉ x.blocks) {va : Option Addr} {vl : Nat} {vs : List Int} (hv : KeyAt w va vl vs) (vc : Nat) (hvout : ∀ b off, va = some ⟨b, off, none⟩ → 1 ≤ vs.length → b ∉ x.blocks) (fl : Int) (f0 : 0 ≤ fl) :
  Calls Tryz.prog 24 #[.pointer (some ⟨x.t, 0, none⟩), .int .i64 i, .slice sa sl sc, .slice va vl vc, .int .u64 fl] w (PUpdPost w x s vs (updP x i bs vs fl)) := by
 have hz := (zero_of_info (P := Tryz.prog) zero89).1
 have hsz := (zero_of_info (P := Tryz.prog) zero89).2
 have H1 := toHid (asked_any h.tab i sa sl sc (by have := hk.1; have := hk.2.2.1; omega))
 have hl := hk.1
 have hvl := hv.1
 subst hl hvl
 have hvl9 := hv.2.2.1
 by_cases h0 : chkP x.ds i bs.length = 0
 ·obtain ⟨k, m, rfl, hm, hkey⟩ := chk_ok h0
  have hmem := List.mem_of_getElem? hm
  have hv1 : updP x k bs vs fl = if (vs.length : Int) = m.d.val then
    (if (m.q.putA bs fl).1.2.2 = 0 then (0, x.qs.set k (m.q.putA bs fl).2, some (plI k (m.q.putA bs fl).1.1))
    else ((m.q.putA bs fl).1.2.2, x.qs.set k (m.q.putA bs fl).2, none))
   else (2, x.qs, none) := by
   unfold updP
   rw [if_pos h0, Int.toNat_natCast, hm]
  have ha : askV x k bs.length = m.v := by unfold askV; rw [if_pos h0, nth_of hm]; rfl
  rw [h0, ha] at H1
  rw [hv1]
  have hok := h.tab.ok m hmem
  have hgood := (h.tab.maps m hmem).good
  have hkd := hok.kind
  by_cases hvv : (vs.length : Int) = m.d.val
  ·rw [if_pos hvv]
   have hs : ((vs.length : Int) != m.d.val) = false := by simpa using hvv
   have HMT := method_put m.d.kind (by rw [← hkd]; exact hgood.k0) (by rw [← hkd]; exact hgood.k3) m.X
   have HCF := call_put m.d.kind (by rw [← hkd]; exact hgood.k0) (by rw [← hkd]; exact hgood.k3)
   have HF := toHid (fun w0 (ht : Touch [] w w0) => kput_any ((h.tab.maps m hmem).still ht) (hk.touch ht) (fun b off e hp hx => hout b off e hp (PT.mem_map hmem hx)) sc hsc fl f0)
   rw [hkd] at HF
   have HG := toHid (And.intro h (And.intro hm (hgood.putA bs fl)))
   have HSL := toHid (fun h9 => pput_slot hgood (bs := bs) (fl := fl) h9)
   have HV := toHid (And.intro hv (And.intro hvout hgood.m2))
   have hk8 : k < 8 := by have := (List.getElem?_eq_some_iff.1 hm).1; have := h.tab.many; omega
   unfold PMap.v ixV at H1
   generalize m.q.putA bs fl = pq at *
   obtain ⟨⟨sI, fr, er⟩, q⟩ := pq
   generalize hVL : vs.length = VL at *
   have HVL := toHid hVL
   generalize typF m.d.kind = ty at *
   generalize putF m.d.kind = ff at *
   generalize hmv : m.d.val = mv at *
   clear h hk hv hvout hout h0 hmem hv1 hkey hm hok hgood hkd hVL hmv ha hvv
   by_cases he : er = 0
   ·subst he
    rw [if_pos rfl]
    go_enter Tryz.func24, Tryz.ntmps24
    go_wp2_with fail
    refine Calls.mono H1.out ?_
    rintro e w2 ⟨rfl, ht2⟩
    have hta : ∀ o, Touch [] w (w2.alloc o) := fun o => ht2.alloc o
    have HT := toHid hta
    clear ht2 hta H1
    go_wp2_with fail
    refine Calls.mono (HF.out _ (HT.out _)) ?_
    rintro e w3 ⟨rfl, st⟩
    obtain ⟨x1, st1⟩ := HG.out.1.tab.step HG.out.2.1 (st.of_still (HT.out _)) HG.out.2.2.2
    obtain ⟨sN, hsI, hsN⟩ := HSL.out trivial
    have hsI : sI = sN := hsI
    subst hsI
    have hB := HG.out.1.step st1
    have hBd := hB.still ((Touch.refl [] w3).drew)
    have hs64 : sN < 64 := by have := HV.out.2.2; omega
    have HP := toHid (fun w0 => place_any w0 k sN hk8 hs64)
    have hkv := (HV.out.1.over st1.touch (fun b off e hp => HV.out.2.1 b off e (by rw [← HVL.out]; exact hp))).touch ((Touch.refl [] w3).drew)
    have hav : Mem.ArgAt w3.drew (.slice va VL vc) vs := ⟨va, vc, by rw [HVL.out], hkv.2.1, hkv.2.2.1, fun hp => by
     obtain ⟨b, off, e1, hc⟩ := hkv.2.2.2 hp
     refine ⟨b, off, e1, fun j v hj => ?_⟩
     have hjl : j < vs.length := by have := (List.getElem?_eq_some_iff.1 hj).1; simpa using this
     have := hc j hjl
     rw [List.getElem?_map, List.getElem?_eq_getElem hjl] at hj
     rw [List.getD_eq_getElem?_getD, List.getElem?_eq_getElem hjl] at this
     rw [this]
     exact hj⟩
    have HA := toHid (Mem.write_any hBd.mem (plI k sN) (.slice va VL vc) vs (by unfold plI; omega) (by unfold plI; omega) hav)
    have ht0 : x.t ∉ s.blocks := by rw [← st1.t]; exact hB.apart _ (PT.mem_top (by simp [PT.top]))
    have e0 := hBd.tab.c0
    rw [hBd.at_, st1.t] at e0
    have HSS : Hid (∀ w', Touch s.blocks w3.drew w' → w'.cell? ⟨x.t, 0, none⟩ = some (.pointer (some ⟨s.m, 0, none⟩))) := fun w' ht => ht.cell e0 ht0
    have HU : Hid (∀ w', Touch s.blocks w3.drew w' → Mem.MemAt w' { s with rs := Mem.writeRs s.rs (plI k sN) vs } → ({ s with rs := Mem.writeRs s.rs (plI k sN) vs } : Mem.MS).blocks = s.blocks → PUpdPost w x s vs (0, x.qs.set k q, some (plI k sN)) (.returned (.int .i64 (Mem.writeE s.rs (plI k sN) vs))) w') := fun w' ht hm hb =>
     ⟨rfl, x1, ⟨hBd.over hm rfl (fun b hb' => Or.inl (hb ▸ hb')) ht, st1.qs, st1.t, st1.ds, hb, ((st1.touch.drew).mono (S' := x.blocks ++ s.blocks) (fun b hb => Or.inl (List.mem_append_left _ hb))).trans ht (fun b hb => Or.inl (List.mem_append_right _ hb)), st1.blocks⟩⟩
    generalize plI k sN = pl at *
    clear st st1 hB hBd hs64 hkv hav ht0 e0 hsN HF HMT HCF HT
    go_wp2_with fail
    refine wp_region_held_drew (S := fun w' => w'.cell? ⟨x.t, 0, none⟩ = some (.pointer (some ⟨s.m, 0, none⟩))) (by kernel_rfl) ?_ (fun hHeld => ?_)
    ·exact HSS.out _ (Touch.refl _ _)
    refine tk 0 (v := ?_) rfl ?_ ?_
    rotate_left
    ·(intro w hSw; (try dsimp only at hSw); go_simp; try with_reducible rfl)
    simp only [Act.put, AP]
    refine tk 1 (v := ?_) rfl ?_ ?_
    rotate_left
    ·(intro w hSw; (try dsimp only at hSw); go_simp; try with_reducible rfl)
    simp only [Act.put, AP]
    refine tk 2 (v := ?_) rfl ?_ ?_
    rotate_left
    ·(intro w hSw; (try dsimp only at hSw); go_simp; try with_reducible rfl)
    simp only [Act.put, AP]
    refine tk 3 (v := ?_) rfl ?_ ?_
    rotate_left
    ·(intro w hSw; (try dsimp only at hSw); go_simp; try with_reducible rfl)
    simp only [Act.put, AP]
    refine tk 4 (v := ?_) rfl ?_ ?_
    rotate_left
    ·(intro w hSw; (try dsimp only at hSw); go_simp; try with_reducible rfl)
    simp only [Act.put, AP]
    refine tk 5 (v := ?_) rfl ?_ ?_
    rotate_left
    ·(intro w hSw; (try dsimp only at hSw); go_simp; try with_reducible rfl)
    simp only [Act.put, AP]
    refine tk 7 (v := ?_) rfl ?_ ?_
    rotate_left
    ·(intro w hSw; (try dsimp only at hSw); go_simp; try with_reducible rfl)
    simp only [Act.put, AP]
    refine wpAnyH_ready (rs := [6]) (by kernel_rfl) (by simp) ?_
    refine AllReadyH.cons rfl (fun K hK => ?_) AllReadyH.nil
    simp only [AP]
    go_simp
    refine Calls.mono (HP.out _) ?_; rintro e w4 ⟨rfl, rfl⟩
    go_wp2_with fail
    refine hK.out _ _ ?_ (fun hHeld => ?_)
    ·exact HSS.out _ (Touch.refl _ _)
    clear hK K
    try simp only [Act.put, AP]
    refine wpAnyH_ready (rs := [8]) (by kernel_rfl) (by simp) ?_
    refine AllReadyH.cons rfl (fun K hK => ?_) AllReadyH.nil
    simp only [AP]
    go_simp
    refine Calls.mono HA.out ?_; rintro e w4 ⟨rfl, ht4, hm4, hb4⟩; have HN := toHid (HU.out _ ht4 hm4 hb4); have HTX := toHid ht4; clear ht4 hm4 hb4
    go_wp2_with fail
    refine hK.out _ _ ?_ (fun hHeld => ?_)
    ·exact HSS.out _ HTX.out
    clear hK K
    try simp only [Act.put, AP]
    refine wpAnyH_ready (rs := [9]) (by kernel_rfl) (by simp) ?_
    refine AllReadyH.cons rfl (fun K hK => ?_) AllReadyH.nil
    simp only [AP]
    go_simp
    refine hK.out _ _ ?_ (fun hHeld => ?_)
    ·exact hHeld
    clear hK K
    try simp only [Act.put, AP]
    refine wpAnyH_done (by kernel_rfl) ?_ _
    clear hHeld HSS HA HU HTX
    go_wp2
    go_ret
    exact HN.out
   ·rw [if_neg he]
    have hne : (er != 0) = true := by simpa using he
    clear he
    go_enter Tryz.func24, Tryz.ntmps24
    go_wp2_with fail
    refine Calls.mono H1.out ?_
    rintro e w2 ⟨rfl, ht2⟩
    have hta : ∀ o, Touch [] w (w2.alloc o) := fun o => ht2.alloc o
    have HT := toHid hta
    clear ht2 hta H1
    go_wp2_with fail
    refine Calls.mono (HF.out _ (HT.out _)) ?_
    rintro e w3 ⟨rfl, st⟩
    obtain ⟨x1, st1⟩ := HG.out.1.tab.step HG.out.2.1 (st.of_still (HT.out _)) HG.out.2.2.2
    have HX := toHid (PUSt.same HG.out.1 st1)
    clear st st1 HF HMT HCF
    go_wp2
    go_ret
    exact ⟨rfl, x1, HX.out⟩
  ·rw [if_neg hvv]
   have hs : ((vs.length : Int) != m.d.val) = true := by simpa using hvv
   have HX := toHid h
   unfold PMap.v ixV at H1
   generalize vs.length = VL at *
   generalize typF m.d.kind = ty at *
   generalize m.d.val = mv at *
   clear h hk hv hvout hout h0 hmem hv1 hkey hm hok hgood hkd ha hvv
   go_enter Tryz.func24, Tryz.ntmps24
   go_wp2_with fail
   refine Calls.mono H1.out ?_
   rintro e w2 ⟨rfl, ht2⟩
   have HF : Hid (∀ o, ∃ x', PUSt w (w2.alloc o) x x' s x.qs s.rs) := fun o => ⟨x, PUSt.same HX.out (PStep.refl HX.out.tab (ht2.alloc o))⟩
   clear ht2
   go_wp2
   go_ret
   exact ⟨rfl, HF.out _⟩
 ·have hv1 : updP x i bs vs fl = (chkP x.ds i bs.length, x.qs, none) := if_neg h0
  have ha : askV x i bs.length = zeroV := if_neg h0
  rw [ha] at H1
  rw [hv1]
  have HX := toHid h
  have hne : (chkP x.ds i bs.length != 0) = true := by simpa using h0
  unfold zeroV at H1
  clear hk h0 hv hv1 ha hout hvout h
  generalize chkP x.ds i bs.length = ce at *
  go_enter Tryz.func24, Tryz.ntmps24
  go_wp2_with fail
  refine Calls.mono H1.out ?_
  rintro e w2 ⟨rfl, ht2⟩
  have HF : Hid (∀ o, ∃ x', PUSt w (w2.alloc o) x x' s x.qs s.rs) := fun o => ⟨x, PUSt.same HX.out (PStep.refl HX.out.tab (ht2.alloc o))⟩
  clear ht2
  go_wp2
  go_ret
  exact ⟨rfl, HF.out _⟩
end Go.Proofs.YtmhhahmjkopjhaaGreat
end
section
namespace Go.Proofs.YtmhhahmjkopjhaaGreat.Mem
open Go.RowKit
def ReadPost2 (w : World) (s : MS) (addr n : Int) (e : Ending) (w' : World) : Prop := ∃ v, e = .returned (.tuple #[v, .int .i64 (readE s.rs addr n)]) ∧ SliceIs w' v (readV s.rs addr n) ∧ (∀ b off l c, v = .slice (some ⟨b, off, none⟩) l c → w.heap.size ≤ b) ∧ Touch [] w w'
theorem read2_any {w : World} {s : MS} (h : MemAt w s) (addr n : Int) (ha0 : 0 ≤ addr) (ha1 : addr ≤ 18446744073709551615) (hn : n ≤ 9223372036854775807) :
  Calls Tryz.prog 41 #[.pointer (some ⟨s.m, 0, none⟩), .int .u64 addr, .int .i64 n] w (ReadPost2 w s addr n) := by
 by_cases hneg : n < 0
 ·have HF : Hid (ReadPost2 w s addr n (.returned (.tuple #[.slice none 0 0, .int .i64 2])) w) := ⟨_, by unfold readE; rw [if_pos hneg], Or.inl ⟨by unfold readV; rw [if_pos (by omega)], rfl⟩, (fun b _ _ _ e => by cases e), Touch.refl _ w⟩
  clear h
  go_enter Tryz.func41, Tryz.ntmps41
  go_wp2
  go_ret2
  exact HF.out
 ·by_cases h0 : n = 0
  ·subst h0
   have HF : Hid (ReadPost2 w s addr 0 (.returned (.tuple #[.slice none 0 0, .int .i64 0])) w) := ⟨_, rfl, Or.inl ⟨rfl, rfl⟩, (fun b _ _ _ e => by cases e), Touch.refl _ w⟩
   clear h
   go_enter Tryz.func41, Tryz.ntmps41
   go_wp2
   go_ret2
   exact HF.out
  ·obtain ⟨z, rfl⟩ : ∃ z : Nat, n = z := ⟨n.toNat, by omega⟩
   have hz1 : 1 ≤ z := by omega
   have hb0 : ((z : Int) == 0) = false := by simpa using h0
   have hE : readE s.rs addr z = lookE s.rs addr z := by unfold readE; rw [if_neg hneg, if_neg h0]
   have hV : readV s.rs addr z = tellR s.rs addr z := by unfold readV; rw [if_neg (by omega)]
   have HEV := toHid (And.intro hE hV)
   have HL := toHid (look_any h addr z ha0 ha1 hz1 (by omega))
   have HM := toHid h
   clear h hE hV h0
   go_enter Tryz.func41, Tryz.ntmps41
   go_wp2_with fail
   refine HL.out.mono ?_
   rintro e w' ⟨⟨k, rfl⟩, (⟨h1, h2, rfl⟩ | ⟨h1, r, hr, a, hal, htell, rfl⟩)⟩
   ·generalize hx : lookE s.rs addr z = x at *
    have HF : Hid (ReadPost2 w s addr z (.returned (.tuple #[.slice none 0 0, .int .i64 x])) (w.drewN k)) := ⟨_, by rw [HEV.out.1], Or.inl ⟨by rw [HEV.out.2, h2], rfl⟩, (fun b _ _ _ e => by cases e), (Touch.refl _ w).drewN k⟩
    have hb : (x == 0) = false := by simpa using h1
    have hb2 : (x != 0) = true := by simpa using h1
    clear HL h1 h2 hx
    go_wp2
    go_ret2
    exact HF.out
   ·have hbb := BytesAt.of_blk (off := a) ((HM.out.regs r hr).bytes.drewN k) z
    have hlen : ((r.bytes.drop a).take z).length = z := by simp; omega
    have hsz := (HM.out.ok r hr).size2
    have HC := toHid (copied_any r.bb a z z ((r.bytes.drop a).take z) (w.drewN k) (by omega) hlen hbb ((HM.out.regs r hr).bytes.lt))
    have HT := toHid (And.intro htell h1)
    clear hbb htell h1 HL
    go_wp2_with fail
    refine HC.out.mono ?_
    rintro e w2 ⟨rfl, hB, ht⟩
    have HF : Hid (ReadPost2 w s addr z (.returned (.tuple #[.slice (some ⟨w.heap.size, 0, none⟩) z z, .int .i64 0])) w2) := by
     refine ⟨_, by rw [HEV.out.1, HT.out.2], Or.inr ⟨by rw [HEV.out.2, HT.out.1, hlen]; exact hz1, w.heap.size, ?_, ?_⟩, (fun b _ _ _ e => by injection e with e; injection e with e; injection e with e; omega), ((Touch.refl [] w).drewN k).trans ht (by simp)⟩
     ·rw [HEV.out.2, HT.out.1, hlen]
     ·rw [HEV.out.2, HT.out.1]
      exact hB
    clear HC hB ht
    go_wp2
    go_ret2
    exact HF.out
end Go.Proofs.YtmhhahmjkopjhaaGreat.Mem
end
section
namespace Go.Proofs.YtmhhahmjkopjhaaGreat
open Go.RowKit
def getP (x : PT) (rs : List Mem.Reg) (i : Int) (bs : List Int) : (List Int × Int) × List PX :=
 if chkP x.ds i bs.length = 0 then match x.maps[i.toNat]? with
  | some m => ((match (m.q.findA bs).1 with
   | some s => (Mem.readV rs (plI i (s : Int)) m.d.val, Mem.readE rs (plI i (s : Int)) m.d.val)
   | none => ([], 14)), x.qs.set i.toNat (m.q.findA bs).2)
  | none => (([], 14), x.qs)
 else (([], chkP x.ds i bs.length), x.qs)
def PGetPost (w : World) (x : PT) (a : (List Int × Int) × List PX) (e : Ending) (w' : World) : Prop := ∃ v, e = .returned (.tuple #[v, .int .i64 a.1.2]) ∧ Mem.SliceIs w' v a.1.1 ∧ (∀ b off l c, v = .slice (some ⟨b, off, none⟩) l c → w.heap.size ≤ b) ∧ ∃ x', PStep w w' x x' a.2
theorem PStep.maps_at {w w' : World} {x x' : PT} {qs : List PX} (st : PStep w w' x x' qs) {k : Nat} {m : PMap} (hm : x.maps[k]? = some m) : ∃ m', x'.maps[k]? = some m' ∧ m'.d = m.d := by
 have h1 := congrArg (fun l => l[k]?) st.ds
 unfold PT.ds at h1
 simp only [List.getElem?_map, hm, Option.map_some] at h1
 cases hq : x'.maps[k]? with
 | none => rw [hq] at h1; cases h1
 | some m' =>
  rw [hq] at h1
  simp only [Option.map_some, Option.some.injEq] at h1
  exact ⟨m', rfl, h1⟩
theorem pget_any {w : World} {x : PT} {s : Mem.MS} (h : PBoth w x s) (i : Int) {sa : Option Addr} {sl : Nat} {bs : List Int} (hk : KeyAt w sa sl bs) (sc : Nat) (hsc : sl ≤ sc) :
  Calls Tryz.prog 23 #[.pointer (some ⟨x.t, 0, none⟩), .int .i64 i, .slice sa sl sc] w (PGetPost w x (getP x s.rs i bs)) := by
 have H1 := toHid (plookup_any h.tab i hk sc hsc)
 have hl := hk.1
 subst hl
 by_cases h0 : chkP x.ds i bs.length = 0
 ·obtain ⟨k, m, rfl, hm, hkey⟩ := chk_ok h0
  have hmem := List.mem_of_getElem? hm
  have hqs : x.qs[k]? = some m.q := by unfold PT.qs; rw [List.getElem?_map, hm]; rfl
  have hl : lookP x k bs = ((match (m.q.findA bs).1 with
   | some s => plI k (s : Int)
   | none => 0, 0), x.qs.set k (m.q.findA bs).2) := by
   unfold lookP
   rw [if_pos h0, Int.toNat_natCast, hqs] <;> rfl
  have hv : getP x s.rs k bs = ((match (m.q.findA bs).1 with
   | some u => (Mem.readV s.rs (plI k (u : Int)) m.d.val, Mem.readE s.rs (plI k (u : Int)) m.d.val)
   | none => ([], 14)), x.qs.set k (m.q.findA bs).2) := by
   unfold getP
   rw [if_pos h0, Int.toNat_natCast, hm]
  rw [hl] at H1
  rw [hv]
  have hok := h.tab.ok m hmem
  have hv2 := hok.v2
  have hk8 : k < 8 := by have := (List.getElem?_eq_some_iff.1 hm).1; have := h.tab.many; omega
  have HS64 : Hid (∀ s, (m.q.findA bs).1 = some s → s < 64) := fun s hs => by
   have h1 := pfind_lt hs
   have h2 := (h.tab.maps m hmem).good.m2
   omega
  have HH := toHid (And.intro h hm)
  generalize m.q.findA bs = fq at *
  obtain ⟨fo, q⟩ := fq
  clear h hk h0 hmem hqs hv hkey hm hl hok
  cases fo with
  | none =>
   go_enter Tryz.func23, Tryz.ntmps23
   go_wp2_with fail
   refine Calls.mono H1.out ?_
   rintro e w2 ⟨rfl, x1, st⟩
   have HX := toHid st
   clear st H1
   go_wp2
   go_ret2
   exact ⟨_, rfl, Or.inl ⟨rfl, rfl⟩, (fun b _ _ _ e => by cases e), x1, HX.out⟩
  | some sN =>
   have hs64 := HS64.out sN rfl
   dsimp only at H1 ⊢
   have hp0 : (plI k sN == 0) = false := by unfold plI; simp; omega
   have HPL : Hid (0 ≤ plI k sN ∧ plI k sN ≤ 18446744073709551615) := ⟨by unfold plI; omega, by unfold plI; omega⟩
   generalize plI k sN = pl at *
   go_enter Tryz.func23, Tryz.ntmps23
   go_wp2_with fail
   refine Calls.mono H1.out ?_
   rintro e w2 ⟨rfl, x1, st⟩
   have HX := toHid st
   have hR := (HH.out.1.step st).still ((Touch.refl [] w2).drew)
   obtain ⟨m1, hm1, hmd⟩ := st.maps_at HH.out.2
   obtain ⟨gb, hg⟩ := hR.tab.some_g hm1
   obtain ⟨_, _, b2, _, _⟩ := hR.tab.boxed hm1 hg
   rw [hmd] at b2
   have e0 := hR.tab.c0
   have e1 := hR.tab.c1
   rw [hR.at_, st.t] at e0
   rw [hg, st.t] at e1
   unfold slV at e1
   rw [Option.map_some] at e1
   have hkl1 : (k : Int) < x1.maps.length := by have := (List.getElem?_eq_some_iff.1 hm1).1; omega
   have HA := toHid (Mem.read2_any hR.mem pl m.d.val HPL.out.1 HPL.out.2 (by omega))
   have HSS : Hid (∀ w', Touch [] w2.drew w' → w'.cell? ⟨x.t, 0, none⟩ = some (.pointer (some ⟨s.m, 0, none⟩)) ∧ w'.cell? ⟨x.t, 1, none⟩ = some (.slice (some ⟨gb, 0, none⟩) x1.maps.length x1.cap) ∧ w'.cell? ⟨gb, k * 5 + 2, none⟩ = some (.int .i64 m.d.val)) := fun w' ht => ⟨ht.cell e0 (by simp), ht.cell e1 (by simp), ht.cell b2 (by simp)⟩
   generalize x1.maps.length = L at *
   generalize x1.cap = cp at *
   generalize m.d.val = mv at *
   clear st H1 hR hm1 hmd hg e0 e1 b2
   go_wp2_with fail
   refine wp_region_held_drew (S := fun w' => w'.cell? ⟨x.t, 0, none⟩ = some (.pointer (some ⟨s.m, 0, none⟩)) ∧ w'.cell? ⟨x.t, 1, none⟩ = some (.slice (some ⟨gb, 0, none⟩) L cp) ∧ w'.cell? ⟨gb, k * 5 + 2, none⟩ = some (.int .i64 mv)) (by kernel_rfl) ?_ (fun hHeld => ?_)
   ·exact HSS.out _ (Touch.refl _ _)
   refine tk 0 (v := ?_) rfl ?_ ?_
   rotate_left
   ·(intro w hSw; (try dsimp only at hSw); go_simp; try with_reducible rfl)
   simp only [Act.put, AP]
   refine tk 1 (v := ?_) rfl ?_ ?_
   rotate_left
   ·(intro w hSw; (try dsimp only at hSw); go_simp; try with_reducible rfl)
   simp only [Act.put, AP]
   refine tk 2 (v := ?_) rfl ?_ ?_
   rotate_left
   ·(intro w hSw; (try dsimp only at hSw); go_simp; try with_reducible rfl)
   simp only [Act.put, AP]
   refine tk 3 (v := ?_) rfl ?_ ?_
   rotate_left
   ·(intro w hSw; (try dsimp only at hSw); go_simp; try with_reducible rfl)
   simp only [Act.put, AP]
   refine tk 4 (v := ?_) rfl ?_ ?_
   rotate_left
   ·(intro w hSw; (try dsimp only at hSw); go_simp; try with_reducible rfl)
   simp only [Act.put, AP]
   refine tk 5 (v := ?_) rfl ?_ ?_
   rotate_left
   ·(intro w hSw; (try dsimp only at hSw); go_simp; try with_reducible rfl)
   simp only [Act.put, AP]
   refine tk 6 (v := ?_) rfl ?_ ?_
   rotate_left
   ·(intro w hSw; (try dsimp only at hSw); go_simp; try with_reducible rfl)
   simp only [Act.put, AP]
   refine tk 7 (v := ?_) rfl ?_ ?_
   rotate_left
   ·(intro w hSw; (try dsimp only at hSw); go_simp; try with_reducible rfl)
   simp only [Act.put, AP]
   refine tk 8 (v := ?_) rfl ?_ ?_
   rotate_left
   ·(intro w hSw; (try dsimp only at hSw); go_simp; try with_reducible rfl)
   simp only [Act.put, AP]
   refine tk 9 (v := ?_) rfl ?_ ?_
   rotate_left
   ·(intro w hSw; (try dsimp only at hSw); go_simp; try with_reducible rfl)
   simp only [Act.put, AP]
   refine tk 10 (v := ?_) rfl ?_ ?_
   rotate_left
   ·(intro w hSw; (try dsimp only at hSw); go_simp; try with_reducible rfl)
   simp only [Act.put, AP]
   refine tk 11 (v := ?_) rfl ?_ ?_
   rotate_left
   ·(intro w hSw; (try dsimp only at hSw); go_simp; try with_reducible rfl)
   simp only [Act.put, AP]
   refine tk 12 (v := ?_) rfl ?_ ?_
   rotate_left
   ·(intro w hSw; (try dsimp only at hSw); go_simp; try with_reducible rfl)
   simp only [Act.put, AP]
   refine tk 13 (v := ?_) rfl ?_ ?_
   rotate_left
   ·(intro w hSw; (try dsimp only at hSw); go_simp; try with_reducible rfl)
   simp only [Act.put, AP]
   refine wpAnyH_ready (rs := [14]) (by kernel_rfl) (by simp) ?_
   refine AllReadyH.cons rfl (fun K hK => ?_) AllReadyH.nil
   simp only [AP]
   go_simp
   refine Calls.mono HA.out ?_; rintro e w4 ⟨rv, rfl, hsl, hnw, ht4⟩; have HN := toHid (And.intro hsl (And.intro hnw ht4)); clear hsl hnw ht4
   go_wp2_with fail
   refine hK.out _ _ ?_ (fun hHeld => ?_)
   ·exact HSS.out _ HN.out.2.2
   clear hK K
   try simp only [Act.put, AP]
   refine tk 15 (v := ?_) rfl ?_ ?_
   rotate_left
   ·(intro w hSw; (try dsimp only at hSw); go_simp; try with_reducible rfl)
   simp only [Act.put, AP]
   refine tk 16 (v := ?_) rfl ?_ ?_
   rotate_left
   ·(intro w hSw; (try dsimp only at hSw); go_simp; try with_reducible rfl)
   simp only [Act.put, AP]
   refine wpAnyH_ready (rs := [17]) (by kernel_rfl) (by simp) ?_
   refine AllReadyH.cons rfl (fun K hK => ?_) AllReadyH.nil
   simp only [AP]
   go_simp
   refine hK.out _ _ ?_ (fun hHeld => ?_)
   ·exact hHeld
   clear hK K
   try simp only [Act.put, AP]
   refine wpAnyH_ready (rs := [18]) (by kernel_rfl) (by simp) ?_
   refine AllReadyH.cons rfl (fun K hK => ?_) AllReadyH.nil
   simp only [AP]
   go_simp
   refine hK.out _ _ ?_ (fun hHeld => ?_)
   ·exact hHeld
   clear hK K
   try simp only [Act.put, AP]
   refine wpAnyH_done (by kernel_rfl) ?_ _
   clear hHeld HSS HA
   go_wp2
   go_ret2
   exact ⟨_, rfl, HN.out.1, (fun b off l c e => by have h1 := HN.out.2.1 b off l c e; have h2 : w2.drew.heap.size = w2.heap.size := rfl; have h3 := HX.out.touch.size; omega), x1, HX.out.still (((Touch.refl [] w2).drew).trans HN.out.2.2 (by simp))⟩
 ·have hv : getP x s.rs i bs = (([], chkP x.ds i bs.length), x.qs) := if_neg h0
  have hl : lookP x i bs = ((0, chkP x.ds i bs.length), x.qs) := if_neg h0
  rw [hl] at H1
  rw [hv]
  have hne : (chkP x.ds i bs.length != 0) = true := by simpa using h0
  generalize chkP x.ds i bs.length = ce at *
  clear h hk h0 hv hl
  go_enter Tryz.func23, Tryz.ntmps23
  go_wp2_with fail
  refine Calls.mono H1.out ?_
  rintro e w2 ⟨rfl, x1, st⟩
  have HX := toHid st
  clear st
  go_wp2
  go_ret2
  exact ⟨_, rfl, Or.inl ⟨rfl, rfl⟩, (fun b _ _ _ e => by cases e), x1, HX.out⟩
end Go.Proofs.YtmhhahmjkopjhaaGreat
end
section
namespace Go.Proofs.YtmhhahmjkopjhaaGreat
open Go.RowKit
def KS.Bs (w : World) (k : KS) : Prop := (∃ rest, BlkF w k.b (k.bs.map (Value.int .u8) ++ rest) 5) ∧ (∀ x ∈ k.bs, 0 ≤ x ∧ x ≤ 255) ∧ k.bs.length ≤ 65536 ∧ 1 ≤ k.bs.length ∧ k.bs.length ≤ k.cap
theorem KS.At.toBs {w : World} {k : KS} (h : k.At w) : k.Bs w := ⟨h.1, h.2.1, by have := h.2.2.1; omega, h.2.2.2⟩
theorem KS.Bs.touch {S : List Nat} {w w' : World} {k : KS} (h : k.Bs w) (ht : Touch S w w') (hb : k.b ∉ S) : k.Bs w' := by
 obtain ⟨⟨r, h1⟩, h2⟩ := h
 exact ⟨⟨r, ht.blkF h1 hb⟩, h2⟩
theorem KS.Bs.cell {w : World} {k : KS} (h : k.Bs w) (j : Nat) (hj : j < k.bs.length) : w.cell? ⟨k.b, j, none⟩ = some (.int .u8 (k.bs.getD j 0)) := by
 obtain ⟨⟨r, h1⟩, _⟩ := h
 refine h1.cell ?_
 rw [List.getElem?_append_left (by simpa using hj), List.getElem?_map, List.getElem?_eq_getElem hj, List.getD_eq_getElem?_getD, List.getElem?_eq_getElem hj]
 rfl
theorem KS.Bs.key {w : World} {k : KS} (h : k.Bs w) : KeyAt w (some ⟨k.b, 0, none⟩) k.bs.length k.bs :=
 ⟨rfl, h.2.1, by have := h.2.2.1; omega, fun _ => ⟨k.b, 0, rfl, fun j hj => by rw [Nat.zero_add]; exact h.cell j hj⟩⟩
structure PR where
 k : KS
 v : KS
def PR.cells (p : PR) : List Value := [p.k.v, p.v.v]
def PR.bs (p : PR) : List Int × List Int := (p.k.bs, p.v.bs)
structure PLs (w0 w : World) (g : Option Nat) (cap : Nat) (l : List PR) : Prop where
 row : RowAt w 111 2 g l.length cap (l.flatMap PR.cells)
 own : ∀ b, g = some b → w0.heap.size ≤ b
 keys : ∀ p ∈ l, p.k.Bs w ∧ p.v.Bs w ∧ w0.heap.size ≤ p.k.b ∧ w0.heap.size ≤ p.v.b ∧ g ≠ some p.k.b ∧ g ≠ some p.v.b
def PL (w0 w : World) (v : Value) (ps : List (List Int × List Int)) : Prop := ∃ g cap l, v = slV g l.length cap ∧ PLs w0 w g cap l ∧ l.map PR.bs = ps
theorem PLs.touch {S : List Nat} {w0 w w' : World} {g : Option Nat} {cap : Nat} {l : List PR} (h : PLs w0 w g cap l) (ht : Touch S w w') (hS : ∀ x ∈ S, x < w0.heap.size) : PLs w0 w' g cap l :=
 ⟨h.row.touch ht (fun b hb hx => by have := hS b hx; have := h.own b hb; omega), h.own, fun p hp => by
  obtain ⟨h1, h2, h3, h4, h5⟩ := h.keys p hp
  exact ⟨h1.touch ht (fun hx => by have := hS _ hx; omega), h2.touch ht (fun hx => by have := hS _ hx; omega), h3, h4, h5⟩⟩
theorem PL.touch {S : List Nat} {w0 w w' : World} {v : Value} {ps : List (List Int × List Int)} (h : PL w0 w v ps) (ht : Touch S w w') (hS : ∀ x ∈ S, x < w0.heap.size) : PL w0 w' v ps := by
 obtain ⟨g, cap, l, h1, h2, h3⟩ := h
 exact ⟨g, cap, l, h1, h2.touch ht hS, h3⟩
theorem PL.nil (w0 w : World) : PL w0 w (.slice none 0 0) [] := ⟨none, 0, [], rfl, ⟨⟨rfl, Nat.le_refl _, by unfold maxLen; omega, rfl⟩, (fun b hb => nomatch hb), (fun p hp => nomatch hp)⟩, rfl⟩
theorem flat2_get (l : List PR) (i j : Nat) (p : PR) (hp : l[i]? = some p) (hj : j < 2) : (l.flatMap PR.cells)[i * 2 + j]? = p.cells[j]? := by
 induction l generalizing i with
 | nil => simp at hp
 | cons x xs ih =>
  rw [List.flatMap_cons]
  have hl : x.cells.length = 2 := rfl
  cases i with
  | zero =>
   simp at hp
   subst hp
   rw [List.getElem?_append_left (by omega)]
   simp
  | succ i =>
   rw [List.getElem?_append_right (by omega), hl, show (i + 1) * 2 + j - 2 = i * 2 + j by omega]
   exact ih i (by simpa using hp)
theorem flat2_len (l : List PR) : (l.flatMap PR.cells).length = l.length * 2 := by
 induction l with
 | nil => rfl
 | cons x xs ih =>
  rw [List.flatMap_cons, List.length_append, ih, List.length_cons]
  show 2 + _ = _
  omega
theorem PLs.at_ {w0 w : World} {g : Option Nat} {cap : Nat} {l : List PR} (h : PLs w0 w g cap l) {j : Nat} (hj : j < l.length) : ∃ b p, g = some b ∧ l[j]? = some p ∧ w.cell? ⟨b, j * 2, none⟩ = some p.k.v ∧ w.cell? ⟨b, j * 2 + 1, none⟩ = some p.v.v ∧ p.k.Bs w ∧ p.v.Bs w := by
 have hget : l[j]? = some l[j] := List.getElem?_eq_getElem hj
 have hr := h.row
 cases hg : g with
 | none =>
  rw [hg] at hr
  have h1 := hr.2.1
  have h2 : cap = 0 := hr.2.2.2
  omega
 | some b =>
  rw [hg] at hr
  obtain ⟨_, _, _, rest, hB, _⟩ := hr
  have hk := h.keys _ (List.mem_of_getElem? hget)
  refine ⟨b, l[j], rfl, hget, hB.cell ?_, hB.cell ?_, hk.1, hk.2.1⟩
  ·rw [List.getElem?_append_left (by rw [flat2_len]; omega)]
   have := flat2_get l j 0 _ hget (by omega)
   rw [Nat.add_zero] at this
   rw [this]
   rfl
  ·rw [List.getElem?_append_left (by rw [flat2_len]; omega), flat2_get l j 1 _ hget (by omega)]
   rfl
theorem rsame_any {w w1 w2 : World} {a b : Value} {ps : List (List Int × List Int)} (ha : PL w1 w a ps) (hb : PL w2 w b ps) (hn : ps.length ≤ 1000) :
  Calls Tryz.prog 15 #[a, b] w fun e w' => e = .returned (.bool true) ∧ Touch [] w w' := by
 obtain ⟨g, cap, l, rfl, hK, hl⟩ := ha
 obtain ⟨g2, cap2, l2, rfl, hK2, hl2⟩ := hb
 have e1 : l.length = ps.length := by rw [← hl, List.length_map]
 have e2 : l2.length = ps.length := by rw [← hl2, List.length_map]
 have HK := toHid (And.intro hK (And.intro hK2 (And.intro hl (And.intro hl2 (And.intro e1 e2)))))
 rw [e1, e2]
 unfold slV
 generalize hsg : (g.map fun b => (⟨b, 0, none⟩ : Addr)) = sg at *
 generalize hsg2 : (g2.map fun b => (⟨b, 0, none⟩ : Addr)) = sg2 at *
 generalize hn2 : ps.length = n at *
 have HG := toHid (And.intro hsg (And.intro hsg2 hn2))
 clear hK hK2 hl hl2 e1 e2 hsg hsg2 hn2
 go_enter Tryz.func15, Tryz.ntmps15
 go_wp2_with fail
 go_loopw [13] (fun t w' => ∃ k : Nat, k ≤ n ∧ t = .int .i64 k ∧ Hid (Touch [] w w')) (fun t _ => n - (intOf t).toNat)
 case atStart => exact ⟨0, by omega, rfl, Touch.refl _ _⟩
 case round =>
  rename_i wr
  obtain ⟨k, hk, rfl, HI⟩ := hrel
  by_cases hlt : k < n
  ·obtain ⟨hK, hK2, hl, hl2, e1, e2⟩ := HK.out
   obtain ⟨b1, p1, hb1, hg1, hc1, hd1, hA1, hB1⟩ := hK.at_ (j := k) (by omega)
   obtain ⟨b2, p2, hb2, hg2, hc2, hd2, hA2, hB2⟩ := hK2.at_ (j := k) (by omega)
   have hbb : p1.bs = p2.bs := by
    have h1 : (l.map PR.bs)[k]? = some p1.bs := by rw [List.getElem?_map, hg1]; rfl
    have h2 : (l2.map PR.bs)[k]? = some p2.bs := by rw [List.getElem?_map, hg2]; rfl
    rw [hl] at h1
    rw [hl2, h1] at h2
    exact Option.some.inj h2
   unfold PR.bs at hbb
   simp only [Prod.mk.injEq] at hbb
   obtain ⟨hbb, hbv⟩ := hbb
   obtain ⟨hs1, hs2, _⟩ := HG.out
   rw [hb1, Option.map_some] at hs1
   rw [hb2, Option.map_some] at hs2
   subst hs1
   subst hs2
   have e1 := (hA1.touch HI.out.drew (by simp)).key.conv p1.k.cap
   have e2 := (hA2.touch HI.out.drew (by simp)).key.conv p2.k.cap
   have e3 := (hB1.touch HI.out.drew (by simp)).key.conv p1.v.cap
   have e4 := (hB2.touch HI.out.drew (by simp)).key.conv p2.v.cap
   rw [hbb] at e1
   rw [hbv] at e3
   replace hc1 := HI.out.drew.cell hc1 (by simp)
   replace hc2 := HI.out.drew.cell hc2 (by simp)
   replace hd1 := HI.out.drew.cell hd1 (by simp)
   replace hd2 := HI.out.drew.cell hd2 (by simp)
   unfold KS.v at hc1 hc2 hd1 hd2
   rw [hbb] at hc1
   rw [hbv] at hd1
   generalize strOfNums p2.k.bs = A at *
   generalize strOfNums p2.v.bs = B at *
   generalize p2.k.bs.length = q at *
   generalize p2.v.bs.length = r at *
   generalize p1.k.b = k1 at *
   generalize p2.k.b = k2 at *
   generalize p1.v.b = v1 at *
   generalize p2.v.b = v2 at *
   generalize p1.k.cap = c1 at *
   generalize p2.k.cap = c2 at *
   generalize p1.v.cap = d1 at *
   generalize p2.v.cap = d2 at *
   clear hK hK2 hl hl2 hb1 hb2 hg1 hg2 hA1 hA2 hB1 hB2 hbb hbv
   go_wp2_with fail
   refine wp_region_held_drew (S := fun w' => w'.cell? ⟨b1, k * 2, none⟩ = some (.slice (some ⟨k1, 0, none⟩) q c1 ) ∧ w'.cell? ⟨b1, k * 2 + 1, none⟩ = some (.slice (some ⟨v1, 0, none⟩) r d1) ∧ w'.cell? ⟨b2, k * 2, none⟩ = some (.slice (some ⟨k2, 0, none⟩) q c2) ∧ w'.cell? ⟨b2, k * 2 + 1, none⟩ = some (.slice (some ⟨v2, 0, none⟩) r d2) ∧ (convert 39 9 (.slice (some ⟨k1, 0, none⟩) q c1)).run Tryz.prog w' = .ok (.string A) w' ∧ (convert 39 9 (.slice (some ⟨k2, 0, none⟩) q c2)).run Tryz.prog w' = .ok (.string A) w' ∧ (convert 39 9 (.slice (some ⟨v1, 0, none⟩) r d1)).run Tryz.prog w' = .ok (.string B) w' ∧ (convert 39 9 (.slice (some ⟨v2, 0, none⟩) r d2)).run Tryz.prog w' = .ok (.string B) w') (by kernel_rfl) ?_ (fun hHeld => ?_)
   ·exact ⟨hc1, hd1, hc2, hd2, e1, e2, e3, e4⟩
   refine tk 0 (v := ?_) rfl ?_ ?_
   rotate_left
   ·(intro w hSw; (try dsimp only at hSw); go_simp; try with_reducible rfl)
   simp only [Act.put, AP]
   refine tk 1 (v := ?_) rfl ?_ ?_
   rotate_left
   ·(intro w hSw; (try dsimp only at hSw); go_simp; try with_reducible rfl)
   simp only [Act.put, AP]
   refine tk 2 (v := ?_) rfl ?_ ?_
   rotate_left
   ·(intro w hSw; (try dsimp only at hSw); go_simp; try with_reducible rfl)
   simp only [Act.put, AP]
   refine tk 3 (v := ?_) rfl ?_ ?_
   rotate_left
   ·(intro w hSw; (try dsimp only at hSw); go_simp; try with_reducible rfl)
   simp only [Act.put, AP]
   refine tk 4 (v := ?_) rfl ?_ ?_
   rotate_left
   ·(intro w hSw; (try dsimp only at hSw); go_simp; try with_reducible rfl)
   simp only [Act.put, AP]
   refine tk 5 (v := ?_) rfl ?_ ?_
   rotate_left
   ·(intro w hSw; (try dsimp only at hSw); go_simp; try with_reducible rfl)
   simp only [Act.put, AP]
   refine tk 6 (v := ?_) rfl ?_ ?_
   rotate_left
   ·(intro w hSw; (try dsimp only at hSw); go_simp; try with_reducible rfl)
   simp only [Act.put, AP]
   refine tk 7 (v := ?_) rfl ?_ ?_
   rotate_left
   ·(intro w hSw; (try dsimp only at hSw); go_simp; try with_reducible rfl)
   simp only [Act.put, AP]
   refine tk 8 (v := ?_) rfl ?_ ?_
   rotate_left
   ·(intro w hSw; (try dsimp only at hSw); go_simp; try with_reducible rfl)
   simp only [Act.put, AP]
   refine tk 9 (v := ?_) rfl ?_ ?_
   rotate_left
   ·(intro w hSw; (try dsimp only at hSw); go_simp; try with_reducible rfl)
   simp only [Act.put, AP]
   refine tk 10 (v := ?_) rfl ?_ ?_
   rotate_left
   ·(intro w hSw; (try dsimp only at hSw); go_simp; try with_reducible rfl)
   simp only [Act.put, AP]
   refine tk 11 (v := ?_) rfl ?_ ?_
   rotate_left
   ·(intro w hSw; (try dsimp only at hSw); go_simp; try with_reducible rfl)
   simp only [Act.put, AP]
   refine tk 12 (v := ?_) rfl ?_ ?_
   rotate_left
   ·(intro w hSw; (try dsimp only at hSw); go_simp; try with_reducible rfl)
   simp only [Act.put, AP]
   refine tk 13 (v := ?_) rfl ?_ ?_
   rotate_left
   ·(intro w hSw; (try dsimp only at hSw); go_simp; try with_reducible rfl)
   simp only [Act.put, AP]
   refine tk 14 (v := ?_) rfl ?_ ?_
   rotate_left
   ·(intro w hSw; (try dsimp only at hSw); go_simp; try with_reducible rfl)
   simp only [Act.put, AP]
   refine tk 15 (v := ?_) rfl ?_ ?_
   rotate_left
   ·(intro w hSw; (try dsimp only at hSw); go_simp; try with_reducible rfl)
   simp only [Act.put, AP]
   refine tk 16 (v := ?_) rfl ?_ ?_
   rotate_left
   ·(intro w hSw; (try dsimp only at hSw); go_simp; try with_reducible rfl)
   simp only [Act.put, AP]
   refine tk 17 (v := ?_) rfl ?_ ?_
   rotate_left
   ·(intro w hSw; (try dsimp only at hSw); go_simp; try with_reducible rfl)
   simp only [Act.put, AP]
   refine tk 18 (v := ?_) rfl ?_ ?_
   rotate_left
   ·(intro w hSw; (try dsimp only at hSw); go_simp; try with_reducible rfl)
   simp only [Act.put, AP]
   refine tk 19 (v := ?_) rfl ?_ ?_
   rotate_left
   ·(intro w hSw; (try dsimp only at hSw); go_simp; try with_reducible rfl)
   simp only [Act.put, AP]
   refine tk 20 (v := ?_) rfl ?_ ?_
   rotate_left
   ·(intro w hSw; (try dsimp only at hSw); go_simp; try with_reducible rfl)
   simp only [Act.put, AP]
   refine tk 21 (v := ?_) rfl ?_ ?_
   rotate_left
   ·(intro w hSw; (try dsimp only at hSw); go_simp; try with_reducible rfl)
   simp only [Act.put, AP]
   refine tk 22 (v := ?_) rfl ?_ ?_
   rotate_left
   ·(intro w hSw; (try dsimp only at hSw); go_simp; try with_reducible rfl)
   simp only [Act.put, AP]
   refine tk 23 (v := ?_) rfl ?_ ?_
   rotate_left
   ·(intro w hSw; (try dsimp only at hSw); go_simp; try with_reducible rfl)
   simp only [Act.put, AP]
   refine tk 24 (v := ?_) rfl ?_ ?_
   rotate_left
   ·(intro w hSw; (try dsimp only at hSw); go_simp; try with_reducible rfl)
   simp only [Act.put, AP]
   refine tk 25 (v := ?_) rfl ?_ ?_
   rotate_left
   ·(intro w hSw; (try dsimp only at hSw); go_simp; try with_reducible rfl)
   simp only [Act.put, AP]
   refine tk 26 (v := ?_) rfl ?_ ?_
   rotate_left
   ·(intro w hSw; (try dsimp only at hSw); go_simp; try with_reducible rfl)
   simp only [Act.put, AP]
   refine tk 27 (v := ?_) rfl ?_ ?_
   rotate_left
   ·(intro w hSw; (try dsimp only at hSw); go_simp; try with_reducible rfl)
   simp only [Act.put, AP]
   refine wpAnyH_done (by kernel_rfl) ?_ _
   go_wp2
   exact ⟨⟨k + 1, by omega, by go_num, HI.out.drew⟩, by simp [intOf]; omega⟩
  ·obtain rfl : k = n := by omega
   go_wp2
   go_ret
   exact ⟨rfl, HI.out⟩
end Go.Proofs.YtmhhahmjkopjhaaGreat
end
section
namespace Go.Proofs.YtmhhahmjkopjhaaGreat
open Go.RowKit
theorem bs_append {w : World} {b9 c9 : Nat} {bs : List Int} (h : (⟨b9, bs.length, bs⟩ : KS).Bs w) {E : Nat} (hE : Blk w E [] 5) :
  ∃ g cap w', (Builtin.append_ #[39, 39] 39 #[.slice (some ⟨E, 0, none⟩) 0 0, (.slice (some ⟨b9, 0, none⟩) bs.length c9)]).run Tryz.prog w = .ok (.slice (some ⟨g, 0, none⟩) bs.length cap) w' ∧ (⟨g, cap, bs⟩ : KS).Bs w' ∧ Touch [E] w w' ∧ (g = E ∨ w.heap.size ≤ g) := by
 obtain ⟨i, hi0, hz, hs, hb⟩ := info_of info5
 have hrow : RowAt w 5 1 (some E) 0 0 [] := ⟨rfl, Nat.le_refl _, by unfold maxLen; omega, [], by simpa using hE, by simp⟩
 have hl : bs.length ≤ 65536 ∧ 1 ≤ bs.length ∧ bs.length ≤ bs.length := h.2.2
 obtain ⟨g', cap', w', hr, h2, h3, h4, _⟩ := run_append_row (P := Tryz.prog) w 39 39 5 i (.int .u8 0) 1 Tryz.underlying39 hi0 hz hs rfl (by omega) (some E) 0 0 [] hrow ⟨b9, 0, none⟩ bs.length c9 (bs.map (Value.int .u8)) (by simp)
  (fun j v hj => by
   rw [Addr.add_lit, Nat.zero_add]
   obtain ⟨⟨rest, hB⟩, _⟩ := h
   exact hB.cell (by rw [List.getElem?_append_left (List.getElem?_eq_some_iff.1 hj).1]; exact hj))
  (fun u hu => by
   obtain ⟨x, _, rfl⟩ := List.mem_map.1 hu
   rfl) (by rw [hb]; omega) (by omega)
 simp only [Nat.zero_add, List.nil_append] at hr h2
 cases g' with
 | none =>
  have q1 := h2.2.1
  have q2 : cap' = 0 := h2.2.2.2
  omega
 | some g =>
  obtain ⟨_, hcp, _, rest, hB, _⟩ := h2
  refine ⟨g, cap', w', hr, ⟨⟨rest, hB.toF⟩, h.2.1, h.2.2.1, h.2.2.2.1, hcp⟩, by simpa using h3, ?_⟩
  rcases h4 with h4 | h4
  ·injection h4 with h4; exact Or.inl h4
  ·injection h4 with h4; exact Or.inr (by omega)
theorem KS.Bs.tight {w : World} {k : KS} (h : k.Bs w) : (⟨k.b, k.bs.length, k.bs⟩ : KS).Bs w := ⟨h.1, h.2.1, h.2.2.1, h.2.2.2.1, Nat.le_refl _⟩
theorem info109 : (Tryz.prog.info? 111).map (fun i => (i.zero, i.size, i.bytes)) = some (some (.agg #[.slice none 0 0, .slice none 0 0]), 2, 48) := by kernel_rfl
theorem KS.Bs.lt {w : World} {k : KS} (h : k.Bs w) : k.b < w.heap.size := by
 obtain ⟨⟨_, hB⟩, _⟩ := h
 exact hB.lt
theorem PLs.push {w0 w : World} {g : Option Nat} {cap : Nat} {l : List PR} (h : PLs w0 w g cap l) (ht : Touch [] w0 w) (p : PR) (hk : p.k.Bs w) (hv : p.v.Bs w) (hk0 : w0.heap.size ≤ p.k.b) (hv0 : w0.heap.size ≤ p.v.b) (hgk : g ≠ some p.k.b) (hgv : g ≠ some p.v.b) (hl : l.length ≤ 1000) :
  ∃ g' cap' w', (Builtin.append_ #[43, 43] 43 #[slV g l.length cap, .slice (some ⟨w.heap.size, 0, none⟩) 1 1]).run Tryz.prog (w.alloc (.cells #[p.k.v, p.v.v] 111)) = .ok (slV g' (l.length + 1) cap') w' ∧ PLs w0 w' g' cap' (l ++ [p]) ∧ Touch [] w0 w' := by
 obtain ⟨i, hi0, hz, hs, hb⟩ := info_of info109
 have hN := Blk.newA w #[p.k.v, p.v.v] _ 111 rfl
 have hta : Touch [] w (w.alloc (.cells #[p.k.v, p.v.v] 111)) := (Touch.refl _ w).alloc _
 have hL := h.touch hta (by simp)
 obtain ⟨g', cap', w', hr, h2, h3, h4, h5⟩ := run_append_row (P := Tryz.prog) (w.alloc (.cells #[p.k.v, p.v.v] 111)) 43 43 111 i (.agg #[.slice none 0 0, .slice none 0 0]) 2 Tryz.underlying43 hi0 hz hs rfl (by omega) g l.length cap _ hL.row ⟨w.heap.size, 0, none⟩ 1 1 [p.k.v, p.v.v] rfl
  (fun j u hj => by
   rw [Addr.add_lit, Nat.zero_add]
   exact hN.cell hj) (fun u hu => by
   simp at hu
   rcases hu with rfl | rfl <;> rfl) (by rw [hb]; omega) (by omega)
 have ht2 := ht.trans hta (by simp)
 have hsz := ht2.size
 refine ⟨g', cap', w', hr, ⟨?_, fun b hb => ?_, fun x hx => ?_⟩, ht2.trans h3 (fun y hy => Or.inr (h.own y (by simpa using hy)))⟩
 ·rw [List.length_append, List.flatMap_append, List.flatMap_singleton]
  exact h2
 ·rcases h4 with rfl | rfl
  ·exact h.own b hb
  ·injection hb with hb
   omega
 ·have hx9 : x.k.Bs w ∧ x.v.Bs w ∧ w0.heap.size ≤ x.k.b ∧ w0.heap.size ≤ x.v.b ∧ g ≠ some x.k.b ∧ g ≠ some x.v.b := by
   rcases List.mem_append.1 hx with hx | hx
   ·exact h.keys x hx
   ·simp only [List.mem_singleton] at hx
    subst hx
    exact ⟨hk, hv, hk0, hv0, hgk, hgv⟩
  obtain ⟨a1, a2, a3, a4, a5, a6⟩ := hx9
  have l1 := a1.lt
  have l2 := a2.lt
  refine ⟨(a1.touch hta (by simp)).touch h3 (fun hy => a5 (by simpa using hy)), (a2.touch hta (by simp)).touch h3 (fun hy => a6 (by simpa using hy)), a3, a4, ?_, ?_⟩
  ·rcases h4 with rfl | rfl
   ·exact a5
   ·intro e
    injection e with e
    rw [World.size_alloc] at e
    omega
  ·rcases h4 with rfl | rfl
   ·exact a6
   ·intro e
    injection e with e
    rw [World.size_alloc] at e
    omega
end Go.Proofs.YtmhhahmjkopjhaaGreat
end
section
namespace Go.Proofs.YtmhhahmjkopjhaaGreat
open Go.RowKit
theorem method_keys (k : Int) (k0 : 0 ≤ k) (k3 : k ≤ 3) (X : Nat) (n : Nat) : ∀ w : World, (method (n + 1) (typF k) (.pointer (some ⟨X, 0, none⟩)) "Keys").run Tryz.prog w = .ok (keysF k, .pointer (some ⟨X, 0, none⟩)) w := by
 obtain rfl | rfl | rfl | rfl : k = 0 ∨ k = 1 ∨ k = 2 ∨ k = 3 := by omega
 all_goals (intro w; kernel_rfl)
theorem call_keys (k : Int) (k0 : 0 ≤ k) (k3 : k ≤ 3) : ∀ (args : Array Value) (w : World), (callFunc (keysF k) args).run Tryz.prog w = .ok (.enter (keysF k) args) w := by
 obtain rfl | rfl | rfl | rfl : k = 0 ∨ k = 1 ∨ k = 2 ∨ k = 3 := by omega
 all_goals (intro args w; kernel_rfl)
def heldP (l : List (Option (List Int))) (f : Nat → List Int) : List (List Int × List Int) := (List.range l.length).filterMap fun j => match l.getD j none with
 | some b => some (b, f j)
 | none => none
theorem heldP_keys (l : List (Option (List Int))) (f : Nat → List Int) : (heldP l f).map Prod.fst = l.filterMap id := by
 unfold heldP
 rw [List.map_filterMap]
 have h1 : l = (List.range l.length).map fun j => l.getD j none := by
  refine List.ext_getElem? fun j => ?_
  rw [List.getElem?_map]
  by_cases hj : j < l.length
  ·rw [List.getElem?_range hj, List.getElem?_eq_getElem hj, Option.map_some, List.getD_eq_getElem?_getD, List.getElem?_eq_getElem hj]
   rfl
  ·rw [List.getElem?_eq_none (by omega), List.getElem?_eq_none (by simpa using hj)]
   rfl
 conv => rhs; rw [h1]
 rw [List.filterMap_map]
 congr 1
 funext j
 show _ = id (l.getD j none)
 cases l.getD j none <;> rfl
theorem heldP_mem {l : List (Option (List Int))} {f : Nat → List Int} {p : List Int × List Int} (h : p ∈ heldP l f) : ∃ s, s < l.length ∧ l[s]? = some (some p.1) ∧ p.2 = f s := by
 unfold heldP at h
 obtain ⟨s, hs, he⟩ := List.mem_filterMap.1 h
 have hs := List.mem_range.1 hs
 rw [List.getD_eq_getElem?_getD, List.getElem?_eq_getElem hs] at he
 cases hl : l[s] with
 | none => simp [hl] at he
 | some b =>
  simp [hl] at he
  rw [← he]
  exact ⟨s, hs, by rw [List.getElem?_eq_getElem hs, hl], rfl⟩
theorem KLs.over {S : List Nat} {w0 w w' : World} {g : Option Nat} {cap : Nat} {l : List KS} (h : KLs w0 w g cap l) (ht : Touch S w w') (hg : ∀ b, g = some b → b ∉ S) (hS : ∀ k ∈ l, k.b ∉ S) : KLs w0 w' g cap l :=
 ⟨h.row.touch ht hg, h.own, fun k hk => ⟨(h.keys k hk).1.touch ht (hS k hk), (h.keys k hk).2⟩⟩
theorem PLs.over {S : List Nat} {w0 w w' : World} {g : Option Nat} {cap : Nat} {l : List PR} (h : PLs w0 w g cap l) (ht : Touch S w w') (hg : ∀ b, g = some b → b ∉ S) (hS : ∀ p ∈ l, p.k.b ∉ S ∧ p.v.b ∉ S) : PLs w0 w' g cap l :=
 ⟨h.row.touch ht hg, h.own, fun p hp => by
  obtain ⟨h1, h2, h3⟩ := h.keys p hp
  exact ⟨h1.touch ht (hS p hp).1, h2.touch ht (hS p hp).2, h3⟩⟩
theorem PLs.push2 {w0 w : World} {g : Option Nat} {cap : Nat} {l : List PR} (h : PLs w0 w g cap l) (ht : Touch [] w0 w) (p : PR) (hk : p.k.Bs w) (hv : p.v.Bs w) (hk0 : w0.heap.size ≤ p.k.b) (hv0 : w0.heap.size ≤ p.v.b) (hgk : g ≠ some p.k.b) (hgv : g ≠ some p.v.b) (hl : l.length ≤ 1000) :
  ∃ g' cap' w', (Builtin.append_ #[43, 43] 43 #[slV g l.length cap, .slice (some ⟨w.heap.size, 0, none⟩) 1 1]).run Tryz.prog (w.alloc (.cells #[p.k.v, p.v.v] 111)) = .ok (slV g' (l.length + 1) cap') w' ∧ PLs w0 w' g' cap' (l ++ [p]) ∧ Touch [] w0 w' ∧ Touch g.toList w w' ∧ (∀ b, g' = some b → g = some b ∨ w.heap.size ≤ b) := by
 obtain ⟨i, hi0, hz, hs, hb⟩ := info_of info109
 have hN := Blk.newA w #[p.k.v, p.v.v] _ 111 rfl
 have hta : Touch [] w (w.alloc (.cells #[p.k.v, p.v.v] 111)) := (Touch.refl _ w).alloc _
 have hL := h.touch hta (by simp)
 obtain ⟨g', cap', w', hr, h2, h3, h4, h5⟩ := run_append_row (P := Tryz.prog) (w.alloc (.cells #[p.k.v, p.v.v] 111)) 43 43 111 i (.agg #[.slice none 0 0, .slice none 0 0]) 2 Tryz.underlying43 hi0 hz hs rfl (by omega) g l.length cap _ hL.row ⟨w.heap.size, 0, none⟩ 1 1 [p.k.v, p.v.v] rfl
  (fun j u hj => by
   rw [Addr.add_lit, Nat.zero_add]
   exact hN.cell hj) (fun u hu => by
   simp at hu
   rcases hu with rfl | rfl <;> rfl) (by rw [hb]; omega) (by omega)
 have ht2 := ht.trans hta (by simp)
 have hsz := ht2.size
 refine ⟨g', cap', w', hr, ⟨?_, fun b hb => ?_, fun x hx => ?_⟩, ht2.trans h3 (fun y hy => Or.inr (h.own y (by simpa using hy))), (hta.mono (S' := g.toList) (fun b hb => by cases hb)).trans h3 (fun b hb => Or.inl hb), fun b hb => ?_⟩
 ·rw [List.length_append, List.flatMap_append, List.flatMap_singleton]
  exact h2
 ·rcases h4 with rfl | rfl
  ·exact h.own b hb
  ·injection hb with hb
   omega
 ·have hx9 : x.k.Bs w ∧ x.v.Bs w ∧ w0.heap.size ≤ x.k.b ∧ w0.heap.size ≤ x.v.b ∧ g ≠ some x.k.b ∧ g ≠ some x.v.b := by
   rcases List.mem_append.1 hx with hx | hx
   ·exact h.keys x hx
   ·simp only [List.mem_singleton] at hx
    subst hx
    exact ⟨hk, hv, hk0, hv0, hgk, hgv⟩
  obtain ⟨a1, a2, a3, a4, a5, a6⟩ := hx9
  have l1 := a1.lt
  have l2 := a2.lt
  refine ⟨(a1.touch hta (by simp)).touch h3 (fun hy => a5 (by simpa using hy)), (a2.touch hta (by simp)).touch h3 (fun hy => a6 (by simpa using hy)), a3, a4, ?_, ?_⟩
  ·rcases h4 with rfl | rfl
   ·exact a5
   ·intro e
    injection e with e
    rw [World.size_alloc] at e
    omega
  ·rcases h4 with rfl | rfl
   ·exact a6
   ·intro e
    injection e with e
    rw [World.size_alloc] at e
    omega
 ·rcases h4 with rfl | rfl
  ·exact Or.inl hb
  ·injection hb with hb
   rw [World.size_alloc] at hb
   exact Or.inr (by omega)
structure DumpJ (w w' : World) (C : Nat) (q : PX) (kg : Option Nat) (kc : Nat) (kl : List KS) (hp : List (List Int × List Int)) (o : Value) : Prop where
 ex : ∃ (q' : PX) (bl : List Nat) (g : Option Nat) (cap : Nat) (l : List PR), o = slV g l.length cap ∧ KAt w' C bl q' ∧ q'.slots = q.slots ∧ q'.kind = q.kind ∧ PLs w w' g cap l ∧ l.map PR.bs = hp ∧
  (∀ b ∈ bl, w.heap.size ≤ b ∧ kg ≠ some b ∧ (∀ k ∈ kl, k.b ≠ b) ∧ g ≠ some b ∧ ∀ p ∈ l, p.k.b ≠ b ∧ p.v.b ≠ b) ∧ (∀ b, g = some b → kg ≠ some b ∧ ∀ k ∈ kl, k.b ≠ b)
 keys : KLs w w' kg kc kl
 touch : Touch [] w w'
theorem KLs.lt_g {w0 w : World} {g : Option Nat} {cap : Nat} {l : List KS} (h : KLs w0 w g cap l) {b : Nat} (hb : g = some b) : b < w.heap.size := by
 have hr := h.row
 rw [hb] at hr
 obtain ⟨_, _, _, _, hB, _⟩ := hr
 exact hB.lt
theorem PLs.lt_g {w0 w : World} {g : Option Nat} {cap : Nat} {l : List PR} (h : PLs w0 w g cap l) {b : Nat} (hb : g = some b) : b < w.heap.size := by
 have hr := h.row
 rw [hb] at hr
 obtain ⟨_, _, _, _, hB, _⟩ := hr
 exact hB.lt
theorem DumpJ.found {w w1 w2 : World} {C : Nat} {q2 : PX} {kg : Option Nat} {kc : Nat} {kl : List KS} {bl : List Nat} {g : Option Nat} {cap : Nat} {l : List PR}
  (h4 : PLs w w1 g cap l) (h6 : ∀ b ∈ bl, w.heap.size ≤ b ∧ kg ≠ some b ∧ (∀ k ∈ kl, k.b ≠ b) ∧ g ≠ some b ∧ ∀ p ∈ l, p.k.b ≠ b ∧ p.v.b ≠ b) (h8 : KLs w w1 kg kc kl) (h9 : Touch [] w w1)
  (st : KStep w1 w2 C bl q2) : ∃ bl2, KAt w2 C bl2 q2 ∧ PLs w w2 g cap l ∧ (∀ b ∈ bl2, w.heap.size ≤ b ∧ kg ≠ some b ∧ (∀ k ∈ kl, k.b ≠ b) ∧ g ≠ some b ∧ ∀ p ∈ l, p.k.b ≠ b ∧ p.v.b ≠ b) ∧ KLs w w2 kg kc kl ∧ Touch [] w w2 := by
 obtain ⟨bl2, hA, ht, hb⟩ := st
 have hs1 := h9.size
 refine ⟨bl2, hA, h4.over ht (fun b hg hx => (h6 b hx).2.2.2.1 hg) (fun p hp => ⟨fun hx => ((h6 _ hx).2.2.2.2 p hp).1 rfl, fun hx => ((h6 _ hx).2.2.2.2 p hp).2 rfl⟩), fun b hb2 => ?_, h8.over ht (fun b hg hx => (h6 b hx).2.1 hg) (fun k hk hx => (h6 _ hx).2.2.1 k hk rfl), h9.trans ht (fun y hy => Or.inr (h6 y hy).1)⟩
 rcases hb b hb2 with hx | hx
 ·exact h6 b hx
 ·refine ⟨by omega, fun e => ?_, fun k hk e => ?_, fun e => ?_, fun p hp => ⟨fun e => ?_, fun e => ?_⟩⟩
  ·have := h8.lt_g e
   omega
  ·have := (h8.keys k hk).1.lt
   omega
  ·have := h4.lt_g e
   omega
  ·have := (h4.keys p hp).1.lt
   omega
  ·have := (h4.keys p hp).2.1.lt
   omega
theorem DumpJ.push {w w1 w2 : World} {C : Nat} {q q' : PX} {kg : Option Nat} {kc : Nat} {kl : List KS} {hp : List (List Int × List Int)} {bl : List Nat} {g : Option Nat} {cap : Nat} {l : List PR} {j N : Nat} {ks : KS} {vb : List Int}
  (h1 : KAt w1 C bl q') (hq : q'.slots = q.slots) (hqk : q'.kind = q.kind) (h4 : PLs w w1 g cap l) (h5 : l.map PR.bs = hp.take j) (h6 : ∀ b ∈ bl, w.heap.size ≤ b ∧ kg ≠ some b ∧ (∀ k ∈ kl, k.b ≠ b) ∧ g ≠ some b ∧ ∀ p ∈ l, p.k.b ≠ b ∧ p.v.b ≠ b)
  (h7 : ∀ b, g = some b → kg ≠ some b ∧ ∀ k ∈ kl, k.b ≠ b) (h8 : KLs w w1 kg kc kl) (h9 : Touch [] w w1) (ht : Touch [] w1 w2) (hk : ks ∈ kl) (hj : hp[j]? = some (ks.bs, vb)) (hB : Blk w2 N (vb.map (Value.int .u8)) 5) (hN : w1.heap.size ≤ N) (hv1 : 1 ≤ vb.length) (hv2 : vb.length ≤ 65536) (hvb : ∀ x ∈ vb, 0 ≤ x ∧ x ≤ 255) (hl : l.length ≤ 1000) :
  ∃ g' cap' w3, (Builtin.append_ #[43, 43] 43 #[slV g l.length cap, .slice (some ⟨w2.heap.size, 0, none⟩) 1 1]).run Tryz.prog (w2.alloc (.cells #[ks.v, .slice (some ⟨N, 0, none⟩) vb.length vb.length] 111)) = .ok (slV g' (l.length + 1) cap') w3 ∧ DumpJ w w3 C q kg kc kl (hp.take (j + 1)) (slV g' (l.length + 1) cap') := by
 have hNl := hB.lt
 have hs2 := ht.size
 have h42 := h4.over ht (by simp) (by simp)
 have h82 := h8.over ht (by simp) (by simp)
 have h12 := h1.still ht
 have h92 := h9.trans ht (by simp)
 have hs9 := h9.size
 have hkk := (h82.keys ks hk)
 have hvB : (⟨N, vb.length, vb⟩ : KS).Bs w2 := ⟨⟨[], by simpa using hB.toF⟩, hvb, hv2, hv1, Nat.le_refl _⟩
 obtain ⟨g', cap', w3, hr, hP, hT, hTg, hg'⟩ := h42.push2 h92 ⟨ks, ⟨N, vb.length, vb⟩⟩ hkk.1.toBs hvB hkk.2.1 (by show w.heap.size ≤ N; omega) (fun e => (h7 _ e).2 ks hk rfl) (fun e => by have := h4.lt_g e; dsimp only at this; omega) hl
 have hgl : ∀ b, g' = some b → g = some b ∨ w2.heap.size ≤ b := hg'
 refine ⟨g', cap', w3, hr, ⟨q', bl, g', cap', l ++ [⟨ks, ⟨N, vb.length, vb⟩⟩], by rw [List.length_append]; rfl, h12.touch hTg (fun b hb hx => (h6 b hb).2.2.2.1 (by simpa using hx)), hq, hqk, hP, ?_, fun b hb => ?_, fun b hb => ?_⟩, h82.over hTg (fun b hb hx => (h7 b (by simpa using hx)).1 hb) (fun k hk hx => (h7 _ (by simpa using hx)).2 k hk rfl), hT⟩
 ·rw [List.map_append, h5, List.take_add_one, hj]
  rfl
 ·have hbl := h1.lt b hb
  obtain ⟨a1, a2, a3, a4, a5⟩ := h6 b hb
  refine ⟨a1, a2, a3, fun e => ?_, fun p hp => ?_⟩
  ·rcases hgl b e with h | h
   ·exact a4 h
   ·omega
  ·rcases List.mem_append.1 hp with hp | hp
   ·exact a5 p hp
   ·rw [List.mem_singleton.1 hp]
    exact ⟨a3 ks hk, fun e => by have e : N = b := e; omega⟩
 ·rcases hgl b hb with h | h
  ·exact h7 b h
  ·refine ⟨fun e => by have := h8.lt_g e; omega, fun k hk e => by have := (h8.keys k hk).1.lt; omega⟩
end Go.Proofs.YtmhhahmjkopjhaaGreat
end
section
namespace Go.Proofs.YtmhhahmjkopjhaaGreat
open Go.RowKit
theorem PL.weaken {w0 w1 w : World} {v : Value} {ps : List (List Int × List Int)} (h : PL w1 w v ps) (ht : w0.heap.size ≤ w1.heap.size) : PL w0 w v ps := by
 obtain ⟨g, cap, l, h1, h2, h3⟩ := h
 refine ⟨g, cap, l, h1, ⟨h2.row, fun b hb => by have := h2.own b hb; omega, fun p hp => ?_⟩, h3⟩
 obtain ⟨a1, a2, a3, a4, a5⟩ := h2.keys p hp
 exact ⟨a1, a2, by omega, by omega, a5⟩
theorem KLs.weaken {w0 w1 w : World} {g : Option Nat} {cap : Nat} {l : List KS} (h : KLs w1 w g cap l) (ht : w0.heap.size ≤ w1.heap.size) : KLs w0 w g cap l :=
 ⟨h.row, fun b hb => by have := h.own b hb; omega, fun k hk => by
  obtain ⟨a1, a2, a3⟩ := h.keys k hk
  exact ⟨a1, by omega, a3⟩⟩
def Served (rs : List Mem.Reg) (k : Nat) (v : Int) (n : Nat) : Prop := ∀ s : Nat, s < n → Mem.readE rs (plI k s) v = 0 ∧ ((Mem.readV rs (plI k s) v).length : Int) = v ∧ ∀ x ∈ Mem.readV rs (plI k s) v, 0 ≤ x ∧ x ≤ 255
def PMap.dump (m : PMap) (k : Nat) (rs : List Mem.Reg) : List (List Int × List Int) := heldP m.q.slots fun s => Mem.readV rs (plI k s) m.d.val
def PDumpPost (w : World) (ps : List (List Int × List Int)) (e : Ending) (w' : World) : Prop := (∃ v, e = .returned (.tuple #[v, .int .i64 0]) ∧ PL w w' v ps) ∧ Touch [] w w'
theorem DumpJ.start {w w1 w2 : World} {C : Nat} {q : PX} {bl : List Nat} {kg : Option Nat} {kc : Nat} {kl : List KS} (hA : KAt w1 C bl q) (hb : ∀ b ∈ bl, w.heap.size ≤ b) (ht : Touch [] w w1) (hK : KLs w1 w2 kg kc kl) (ht2 : Touch [] w1 w2) : DumpJ w w2 C q kg kc kl [] (.slice none 0 0) := by
 have hs := ht.size
 obtain ⟨g0, c0, l0, e1, e2, e3⟩ := PL.nil w w2
 have hl0 : l0 = [] := by simpa using e3
 subst hl0
 have hg0 : g0 = none := by
  cases g0 with
  | none => rfl
  | some b => unfold slV at e1; injection e1 with e1; cases e1
 subst hg0
 refine ⟨⟨q, bl, none, c0, [], e1, hA.still ht2, rfl, rfl, e2, rfl, fun b hbb => ⟨hb b hbb, fun e => ?_, fun k hk e => ?_, by simp, by simp⟩, by simp⟩, hK.weaken hs, ht.trans ht2 (by simp)⟩
 ·have := hK.own b e
  have := hA.lt b hbb
  omega
 ·have := (hK.keys k hk).2.1
  have := hA.lt b hbb
  omega
theorem pdump_any {w : World} {x : PT} {s : Mem.MS} (h : PBoth w x s) {k : Nat} {m : PMap} (hm : x.maps[k]? = some m) (hsv : Served s.rs k m.d.val m.q.slots.length) :
  Calls Tryz.prog 14 #[.pointer (some ⟨x.t, 0, none⟩), .int .i64 (k : Int)] w (PDumpPost w (m.dump k s.rs)) := by
 have hz := (zero_of_info (P := Tryz.prog) zero89).1
 have hsz := (zero_of_info (P := Tryz.prog) zero89).2
 have hmem := List.mem_of_getElem? hm
 have H1 := toHid (numbered_any h.tab k)
 rw [nth_of hm] at H1
 have hok := h.tab.ok m hmem
 have hgood := (h.tab.maps m hmem).good
 have hkd := hok.kind
 have hk8 : k < 8 := by have := (List.getElem?_eq_some_iff.1 hm).1; have := h.tab.many; omega
 have kk0 : 0 ≤ m.d.kind := by rw [← hkd]; exact hgood.k0
 have kk3 : m.d.kind ≤ 3 := by rw [← hkd]; exact hgood.k3
 have HMK := fun X => method_keys m.d.kind kk0 kk3 X
 have HMF := fun X => method_find m.d.kind kk0 kk3 X
 have HCK := call_keys m.d.kind kk0 kk3
 have HCF := call_find m.d.kind kk0 kk3
 have H2 := toHid (fun w0 (ht : Touch [] w w0) => twin_any ((h.tab.maps m hmem).still ht))
 have H3 := toHid (fun (w0 : World) (C : Nat) (bl : List Nat) (q : PX) (hA : KAt w0 C bl q) (hq : q.kind = m.d.kind) => by have := kkeys_any hA; rw [hq] at this; exact this)
 have H4 := toHid (fun (w0 : World) (C : Nat) (bl : List Nat) (q : PX) (hA : KAt w0 C bl q) (hq : q.kind = m.d.kind) (ks : KS) (hk : ks.At w0) => by have := kfind_any hA hk.key ks.cap hk.2.2.2.2; rw [hq] at this; exact this)
 rw [hkd] at H2
 have HH := toHid (And.intro h (And.intro hsv (And.intro hgood.m2 (And.intro hkd (And.intro hok.v1 hok.v2)))))
 have HD : Hid (m.dump k s.rs = heldP m.q.slots fun s' => Mem.readV s.rs (plI k s') m.d.val) := rfl
 simp only [mapV, numE, PMap.v, ixV] at H1
 unfold ixV at H2
 unfold TwinPost ixV at H2
 have hv2 := hok.v2
 generalize m.dump k s.rs = hp at *
 generalize hqq : m.q = q at *
 generalize m.d.val = mv at *
 generalize m.d.key = ky at *
 generalize m.d.max = mx at *
 generalize m.X = X at *
 generalize typF m.d.kind = ty at *
 generalize keysF m.d.kind = fk at *
 generalize findF m.d.kind = ff at *
 generalize m.d.kind = kd at *
 clear h hm hsv hmem hok hgood hkd kk0 kk3 hqq
 go_enter Tryz.func14, Tryz.ntmps14
 go_wp2_with fail
 refine Calls.mono H1.out ?_
 rintro e w2 ⟨rfl, ht2⟩
 have hta : ∀ o, Touch [] w (w2.alloc o) := fun o => ht2.alloc o
 have HT := toHid hta
 have HTS := toHid ht2
 clear ht2 hta H1
 have hNB := Blk.newA w2 #[.int .i64 kd, .int .i64 ky, .int .i64 mv, .int .i64 mx, .iface ty (.pointer (some ⟨X, 0, none⟩))] _ 89 rfl
 have HNB := toHid hNB
 clear hNB
 go_wp2_with fail
 generalize hw1 : w2.alloc (.cells #[.int .i64 kd, .int .i64 ky, .int .i64 mv, .int .i64 mx, .iface ty (.pointer (some ⟨X, 0, none⟩))] 89) = w1 at *
 have hT1 : Touch [] w w1 := by rw [← hw1]; exact HT.out _
 have HT1 := toHid hT1
 clear HT
 refine Calls.mono (H2.out _ hT1) ?_
 rintro e w3 ⟨C, bl, rfl, hA, hb, ht3⟩
 have HA := toHid (And.intro hA (And.intro hb ht3))
 clear hw1 hT1 hA hb ht3
 go_wp2_with fail
 refine Calls.mono (H3.out _ _ _ _ HA.out.1 HH.out.2.2.2.1) ?_
 rintro e w4 ⟨⟨v, rfl, kg, kc, kl, rfl, hK, hkl⟩, ht4⟩
 have hn : hp.length = kl.length := by
  have h1 := congrArg List.length (heldP_keys q.slots fun s' => Mem.readV s.rs (plI k s') mv)
  rw [← HD.out, List.length_map] at h1
  have h2 := congrArg List.length hkl
  rw [List.length_map] at h2
  rw [h1, h2]
  rfl
 have hpn : hp.length ≤ 64 := by
  rw [HD.out]
  unfold heldP
  have := List.length_filterMap_le (fun j => match q.slots.getD j none with
   | some b => some (b, Mem.readV s.rs (plI k j) mv)
   | none => none) (List.range q.slots.length)
  rw [List.length_range] at this
  have := HH.out.2.2.1
  exact Nat.le_trans (by assumption) this
 have HK := toHid (And.intro hkl hn)
 have HJ0 := toHid (DumpJ.start HA.out.1 HA.out.2.1 HA.out.2.2 hK ht4)
 clear hK ht4 hkl H2 H3 HMK HCK HA
 unfold slV
 generalize hsg : (kg.map fun b => (⟨b, 0, none⟩ : Addr)) = sg at *
 have HG := toHid hsg
 generalize hL : kl.length = n at *
 have HL := toHid hL
 clear hsg hL
 go_wp2_with fail
 go_loopw [9, 31] (fun o t w' => ∃ j : Nat, j ≤ n ∧ t = .int .i64 j ∧ Hid (DumpJ w1 w' C q kg kc kl (hp.take j) o)) (fun _ t _ => n - (intOf t).toNat)
 case atStart => exact ⟨0, by omega, rfl, HJ0.out⟩
 case round =>
  obtain ⟨j, hj, rfl, HI⟩ := hrel
  clear HJ0
  by_cases hlt : j < n
  ·obtain ⟨⟨q', bl, g, cap, l, rfl, hA, hqs, hqk, hP, hPl, h6, h7⟩, hK, hT⟩ := HI.out
   obtain ⟨kb, ks, hkg, hkj, hcell, hks⟩ := hK.at_ (j := j) (by rw [HL.out]; exact hlt)
   have hsg := HG.out
   rw [hkg, Option.map_some] at hsg
   subst hsg
   have hkm := List.mem_of_getElem? hkj
   obtain ⟨p, hpj⟩ : ∃ p, hp[j]? = some p := ⟨_, List.getElem?_eq_getElem (by have := HK.out.2; have := HL.out; omega)⟩
   have hp1 : p.1 = ks.bs := by
    have h1 := heldP_keys q.slots fun s' => Mem.readV s.rs (plI k s') mv
    rw [← HD.out] at h1
    have h2 : (hp.map Prod.fst)[j]? = some p.1 := by rw [List.getElem?_map, hpj]; rfl
    have h3 : (kl.map KS.bs)[j]? = some ks.bs := by rw [List.getElem?_map, hkj]; rfl
    rw [h1] at h2
    rw [HK.out.1] at h3
    exact Option.some.inj (h2.symm.trans h3)
   obtain ⟨sN, hsN, hsl, hp2⟩ := heldP_mem (show p ∈ heldP q.slots (fun s' => Mem.readV s.rs (plI k s') mv) by rw [← HD.out]; exact List.mem_of_getElem? hpj)
   rw [hp1] at hsl
   have hown := kfind_own hA (i := sN) (bs := ks.bs) (by rw [hqs]; exact hsl)
   have H5 := toHid (H4.out wr C bl q' hA (by rw [hqk]; exact HH.out.2.2.2.1) ks hks)
   have hgk := (hA.good.findA ks.bs).2.kind
   have hgs := pfind_slots q' ks.bs
   obtain ⟨hE, hvl, hvb⟩ := HH.out.2.1 sN hsN
   have hpp : hp[j]? = some (ks.bs, Mem.readV s.rs (plI k sN) mv) := by rw [hpj, ← hp1, ← hp2]
   have hs64 : sN < 64 := by have := HH.out.2.2.1; omega
   have HP := toHid (fun w0 => place_any w0 k sN hk8 hs64)
   have HPL : Hid (0 ≤ plI k sN ∧ plI k sN ≤ 18446744073709551615) := ⟨by unfold plI; omega, by unfold plI; omega⟩
   have hll : l.length ≤ 1000 := by
    have h1 := congrArg List.length hPl
    rw [List.length_map, List.length_take] at h1
    omega
   unfold KS.v at hcell
   unfold KFindPost at H5
   rw [hown] at H5
   have HX := toHid (And.intro hA (And.intro hqs (And.intro hqk (And.intro hP (And.intro hPl (And.intro h6 (And.intro h7 (And.intro hK (And.intro hT (And.intro hgk (And.intro hgs (And.intro hpp (And.intro hvl (And.intro hvb (And.intro hkm hll)))))))))))))))
   generalize plI k sN = pl at *
   generalize (q'.findA ks.bs).2 = q2 at *
   clear hA hqs hqk hP hPl h6 h7 hK hT hgk hgs hpp hvl hvb hkm hll hkg hkj hpj hp1 hsl hp2 hown hsN hs64 HI
   go_wp2_with fail
   refine Calls.mono H5.out ?_
   rintro e w5 ⟨rfl, st⟩
   obtain ⟨hA, hqs, hqk, hP, hPl, h6, h7, hK, hT, hgk, hgs, hpp, hvl, hvb, hkm, hll⟩ := HX.out
   obtain ⟨bl2, fA, fP, f6, fK, fT⟩ := DumpJ.found hP h6 hK hT st
   have hW := HT1.out.trans fT (by simp)
   have hBd := (HH.out.1.still hW).still ((Touch.refl [] w5).drew)
   have HR := toHid (Mem.read2_any hBd.mem pl mv HPL.out.1 HPL.out.2 (by have := HH.out.2.2.2.2.2; omega))
   unfold Mem.ReadPost2 at HR
   rw [hE] at HR
   have e0 := hBd.tab.c0
   rw [hBd.at_] at e0
   have e2 : w5.drew.cell? ⟨w2.heap.size, 2, none⟩ = some (.int .i64 mv) := ((fT.drew).blk HNB.out (by simp)).cell (i := 2) rfl
   have HSS : Hid (∀ w', Touch [] w5.drew w' → w'.cell? ⟨x.t, 0, none⟩ = some (.pointer (some ⟨s.m, 0, none⟩)) ∧ w'.cell? ⟨w2.heap.size, 2, none⟩ = some (.int .i64 mv)) := fun w' ht => ⟨ht.cell e0 (by simp), ht.cell e2 (by simp)⟩
   have HY := toHid (And.intro fA (And.intro fP (And.intro f6 (And.intro fK fT))))
   clear st hA hqs hqk hP hPl h6 h7 hK hT hgk hgs hpp hvl hvb hkm hll fA fP f6 fK fT hW hBd e0 e2 hcell H5 hE
   unfold foundV idx0
   go_wp2_with fail
   refine wp_region_held_drew (S := fun w' => w'.cell? ⟨x.t, 0, none⟩ = some (.pointer (some ⟨s.m, 0, none⟩)) ∧ w'.cell? ⟨w2.heap.size, 2, none⟩ = some (.int .i64 mv)) (by kernel_rfl) ?_ (fun hHeld => ?_)
   ·exact HSS.out _ (Touch.refl _ _)
   refine tk 0 (v := ?_) rfl ?_ ?_
   rotate_left
   ·(intro w hSw; (try dsimp only at hSw); go_simp; try with_reducible rfl)
   simp only [Act.put, AP]
   refine tk 1 (v := ?_) rfl ?_ ?_
   rotate_left
   ·(intro w hSw; (try dsimp only at hSw); go_simp; try with_reducible rfl)
   simp only [Act.put, AP]
   refine tk 2 (v := ?_) rfl ?_ ?_
   rotate_left
   ·(intro w hSw; (try dsimp only at hSw); go_simp; try with_reducible rfl)
   simp only [Act.put, AP]
   refine tk 3 (v := ?_) rfl ?_ ?_
   rotate_left
   ·(intro w hSw; (try dsimp only at hSw); go_simp; try with_reducible rfl)
   simp only [Act.put, AP]
   refine tk 4 (v := ?_) rfl ?_ ?_
   rotate_left
   ·(intro w hSw; (try dsimp only at hSw); go_simp; try with_reducible rfl)
   simp only [Act.put, AP]
   refine tk 5 (v := ?_) rfl ?_ ?_
   rotate_left
   ·(intro w hSw; (try dsimp only at hSw); go_simp; try with_reducible rfl)
   simp only [Act.put, AP]
   refine tk 7 (v := ?_) rfl ?_ ?_
   rotate_left
   ·(intro w hSw; (try dsimp only at hSw); go_simp; try with_reducible rfl)
   simp only [Act.put, AP]
   refine tk 8 (v := ?_) rfl ?_ ?_
   rotate_left
   ·(intro w hSw; (try dsimp only at hSw); go_simp; try with_reducible rfl)
   simp only [Act.put, AP]
   refine tk 9 (v := ?_) rfl ?_ ?_
   rotate_left
   ·(intro w hSw; (try dsimp only at hSw); go_simp; try with_reducible rfl)
   simp only [Act.put, AP]
   refine wpAnyH_ready (rs := [6]) (by kernel_rfl) (by simp) ?_
   refine AllReadyH.cons rfl (fun K hK => ?_) AllReadyH.nil
   simp only [AP]
   go_simp
   refine Calls.mono (HP.out _) ?_; rintro e w6 ⟨rfl, rfl⟩
   go_wp2_with fail
   refine hK.out _ _ ?_ (fun hHeld => ?_)
   ·exact HSS.out _ (Touch.refl _ _)
   clear hK K
   try simp only [Act.put, AP]
   refine wpAnyH_ready (rs := [10]) (by kernel_rfl) (by simp) ?_
   refine AllReadyH.cons rfl (fun K hK => ?_) AllReadyH.nil
   simp only [AP]
   go_simp
   refine Calls.mono HR.out ?_; rintro e w6 ⟨rv, rfl, hsl, hnw, ht6⟩; have HN := toHid (And.intro hsl (And.intro hnw ht6)); clear hsl hnw ht6
   go_wp2_with fail
   refine hK.out _ _ ?_ (fun hHeld => ?_)
   ·exact HSS.out _ HN.out.2.2
   clear hK K
   try simp only [Act.put, AP]
   refine tk 11 (v := ?_) rfl ?_ ?_
   rotate_left
   ·(intro w hSw; (try dsimp only at hSw); go_simp; try with_reducible rfl)
   simp only [Act.put, AP]
   refine tk 12 (v := ?_) rfl ?_ ?_
   rotate_left
   ·(intro w hSw; (try dsimp only at hSw); go_simp; try with_reducible rfl)
   simp only [Act.put, AP]
   refine tk 13 (v := ?_) rfl ?_ ?_
   rotate_left
   ·(intro w hSw; (try dsimp only at hSw); go_simp; try with_reducible rfl)
   simp only [Act.put, AP]
   refine wpAnyH_ready (rs := [14]) (by kernel_rfl) (by simp) ?_
   refine AllReadyH.cons rfl (fun K hK => ?_) AllReadyH.nil
   simp only [AP]
   go_simp
   refine hK.out _ _ ?_ (fun hHeld => ?_)
   ·exact hHeld
   clear hK K
   try simp only [Act.put, AP]
   refine wpAnyH_ready (rs := [15]) (by kernel_rfl) (by simp) ?_
   refine AllReadyH.cons rfl (fun K hK => ?_) AllReadyH.nil
   simp only [AP]
   go_simp
   refine hK.out _ _ ?_ (fun hHeld => ?_)
   ·exact hHeld
   clear hK K
   try simp only [Act.put, AP]
   refine wpAnyH_done (by kernel_rfl) ?_ _
   clear hHeld HSS HR HP
   obtain ⟨hA, hqs, hqk, hP, hPl, h6, h7, hK, hT, hgk, hgs, hpp, hvl, hvb, hkm, hll⟩ := HX.out
   obtain ⟨fA, fP, f6, fK, fT⟩ := HY.out
   obtain ⟨hsl, hnw, ht6⟩ := HN.out
   have hv1 := HH.out.2.2.2.2.1
   have hv64 := HH.out.2.2.2.2.2
   rcases hsl with ⟨hnil, _⟩ | ⟨_, N, rfl, hB⟩
   ·rw [hnil] at hvl
    simp at hvl
    omega
   ·have hNs : w5.heap.size ≤ N := hnw _ _ _ _ rfl
    obtain ⟨g', cap', w7, hr, hD⟩ := DumpJ.push fA (hgs.trans hqs) (hgk.trans hqk) fP hPl f6 h7 fK fT (((Touch.refl [] w5).drew).trans ht6 (by simp)) hkm hpp hB hNs (by omega) (by omega) hvb hll
    have HDD := toHid hD
    unfold KS.v at hr
    have HR2 := toHid hr
    clear hA hqs hqk hP hPl h6 h7 hK hT hgk hgs hpp hvl hvb hkm hll fA fP f6 fK fT ht6 hB hNs hD HN HX HY H4 HMF HCF hr hnw
    generalize (Mem.readV s.rs pl mv).length = vl at *
    generalize hv9 : slV g' (l.length + 1) cap' = v9 at *
    clear hv9
    unfold slV at HR2 ⊢
    go_wp2_with (first | (at_builtin; refine Lib.wpList_append_run _ rfl _ _ _ _ rfl _ _ rfl rfl _ _ HR2.out ?_))
    exact ⟨⟨j + 1, by omega, by go_num, HDD⟩, by simp [intOf]; omega⟩
  ·obtain rfl : j = n := by omega
   have htk : hp.take j = hp := by rw [← HK.out.2]; exact List.take_length
   rw [htk] at HI
   obtain ⟨⟨q', bl, g, cap, l, rfl, hA, hqs, hqk, hP, hPl, h6, h7⟩, hK, hT⟩ := HI.out
   have HF : Hid (PDumpPost w hp (.returned (.tuple #[slV g l.length cap, .int .i64 0])) wr) := ⟨⟨_, rfl, PL.weaken ⟨g, cap, l, rfl, hP, hPl⟩ HT1.out.size⟩, HT1.out.trans hT (by simp)⟩
   generalize slV g l.length cap = o at *
   clear hA hqs hqk hP hPl h6 h7 hK hT HI htk
   go_wp2
   go_ret2
   exact HF.out
theorem pdump_none {w : World} {x : PT} (h : PTAt w x) {i : Int} (hi : x.nth i = none) :
  Calls Tryz.prog 14 #[.pointer (some ⟨x.t, 0, none⟩), .int .i64 i] w fun e w' => e = .returned (.tuple #[.slice none 0 0, .int .i64 14]) ∧ Touch [] w w' := by
 have hz := (zero_of_info (P := Tryz.prog) zero89).1
 have hsz := (zero_of_info (P := Tryz.prog) zero89).2
 have H1 := toHid (numbered_any h i)
 rw [hi] at H1
 simp only [mapV, numE, zeroV] at H1
 clear h hi
 go_enter Tryz.func14, Tryz.ntmps14
 go_wp2_with fail
 refine Calls.mono H1.out ?_
 rintro e w2 ⟨rfl, ht2⟩
 have HF : Hid (∀ o, Touch [] w (w2.alloc o)) := fun o => ht2.alloc o
 clear ht2
 go_wp2
 go_ret2
 exact ⟨rfl, HF.out _⟩
end Go.Proofs.YtmhhahmjkopjhaaGreat
end
section
namespace Go.Proofs.YtmhhahmjkopjhaaGreat
open Go.RowKit
theorem info115 : (Tryz.prog.info? 117).map (fun i => (i.zero, i.size, i.bytes)) = some (some (.agg #[.int .i64 0, .int .i64 0, .int .i64 0, .int .i64 0, .pointer none, .slice none 0 0]), 6, 64) := by kernel_rfl
def RT.add (x : RT) (g : Option Nat) (cap : Nat) (m : RMap) : RT := { x with g := g, cap := cap, maps := x.maps ++ [m] }
theorem RTAt.push {w : World} {x : RT} (h : RTAt w x) {m : RMap} (hm : RMapAt w m) (ho : RMapOk m) (hsep : ∀ b ∈ m.blocks, b ∉ x.blocks) (hn : x.maps.length < 8) :
  ∃ g' cap' w', (Builtin.append_ #[98, 98] 98 #[slV x.g x.maps.length x.cap, .slice (some ⟨w.heap.size, 0, none⟩) 1 1]).run Tryz.prog (w.alloc (.cells #[.int .i64 m.kind, .int .i64 m.key, .int .i64 m.val, .int .i64 m.max, .pointer (some ⟨m.ix.r, 0, none⟩), slV m.idb m.ids.length m.idc] 117)) = .ok (slV g' (x.maps.length + 1) cap') w' ∧
   w'.cell? ⟨x.t, 1, none⟩ = some (slV x.g x.maps.length x.cap) ∧ w'.frozen? ⟨x.t, 1, none⟩ = false ∧
   RTAt (w'.setCell ⟨x.t, 1, none⟩ (slV g' (x.maps.length + 1) cap')) (x.add g' cap' m) ∧
   Touch x.top w w' ∧ Touch x.top w (w'.setCell ⟨x.t, 1, none⟩ (slV g' (x.maps.length + 1) cap')) ∧ (∀ b, g' = some b → x.g = some b ∨ w.heap.size ≤ b) := by
 obtain ⟨i, hi0, hz, hs0, hb⟩ := info_of info115
 have hN := Blk.newA w #[.int .i64 m.kind, .int .i64 m.key, .int .i64 m.val, .int .i64 m.max, .pointer (some ⟨m.ix.r, 0, none⟩), slV m.idb m.ids.length m.idc] _ 117 rfl
 have hta : Touch [] w (w.alloc (.cells #[.int .i64 m.kind, .int .i64 m.key, .int .i64 m.val, .int .i64 m.max, .pointer (some ⟨m.ix.r, 0, none⟩), slV m.idb m.ids.length m.idc] 117)) := (Touch.refl _ w).alloc _
 have hL := h.touch hta (by simp)
 have hlt := h.lt
 have hmlt := hm.lt
 obtain ⟨g', cap', w', hr, h2, h3, h4, _⟩ := run_append_row (P := Tryz.prog) _ 98 98 117 i _ 6 Tryz.underlying98 hi0 hz hs0 rfl (by omega) x.g x.maps.length x.cap _ hL.row ⟨w.heap.size, 0, none⟩ 1 1 m.cells rfl
  (fun j u hj => by
   rw [Addr.add_lit, Nat.zero_add]
   exact hN.cell hj) (fun u hu => by
   simp only [RMap.cells, List.mem_cons, List.not_mem_nil, or_false] at hu
   rcases hu with rfl | rfl | rfl | rfl | rfl | rfl <;> first | rfl | (unfold slV; rfl)) (by rw [hb]; omega) (by omega)
 have hap := h.apTop
 simp only [RT.top, List.nodup_cons, Option.mem_toList] at hap
 have htg : x.t ∉ x.g.toList := fun hx => hap.1 (by simpa using hx)
 have hself := h3.blk hL.self htg
 have hts : Touch [x.t] w' (w'.setCell ⟨x.t, 1, none⟩ (slV g' (x.maps.length + 1) cap')) := (Touch.refl _ w').setCell _ _ (Or.inl (by simp))
 have hg' : ∀ b, g' = some b → x.g = some b ∨ b = w.heap.size + 1 := fun b hb => by
  rcases h4 with h4 | h4
  ·rw [← h4]; exact Or.inl hb
  ·rw [hb] at h4; injection h4 with h4; exact Or.inr (by rw [h4]; simp)
 have htlt := hlt x.t (RT.mem_top (by simp [RT.top]))
 have hgt : g' ≠ some x.t := fun e => by
  rcases hg' _ e with hx | hx
  ·exact htg (by simpa using hx)
  ·omega
 have hgtop : ∀ b ∈ x.g.toList, b ∈ x.top := fun b hb => by unfold RT.top; exact List.mem_cons_of_mem _ hb
 have hT1 : Touch x.top w w' := (hta.mono (S' := x.top) (fun b hb => by cases hb)).trans h3 (fun b hb => Or.inl (hgtop b hb))
 have hT2 : Touch x.top w (w'.setCell ⟨x.t, 1, none⟩ (slV g' (x.maps.length + 1) cap')) := hT1.trans hts (fun b hb => Or.inl (by simp at hb; subst hb; simp [RT.top]))
 have hmT : ∀ m' ∈ x.maps ++ [m], RMapAt w m' ∧ RMapOk m' ∧ ∀ b ∈ m'.blocks, b ∉ x.top := fun m' hm' => by
  rcases List.mem_append.1 hm' with h9 | h9
  ·exact ⟨h.maps m' h9, h.ok m' h9, h.apT m' h9⟩
  ·rw [List.mem_singleton.1 h9]
   exact ⟨hm, ho, fun b hb hx => hsep b hb (RT.mem_top hx)⟩
 refine ⟨g', cap', w', hr, hself.cell rfl, hself.frozen 1, ⟨?_, ?_, fun m' hm' => ?_, fun m' hm' => (hmT m' hm').2.1, ?_, fun m' hm' b hb hx => ?_, fun i j mi mj hi hj hij y hy => ?_, ?_⟩, hT1, hT2, fun b hb => ?_⟩
 ·have := hself.setCell 1 (slV g' (x.maps.length + 1) cap')
  show Blk _ x.t [_, slV g' (x.maps ++ [m]).length cap'] _
  rw [List.length_append]
  exact this
 ·have := h2.touch hts (fun b hgb hx => by simp at hx; subst hx; exact hgt hgb)
  show RowAt _ 117 6 g' (x.maps ++ [m]).length cap' ((x.maps ++ [m]).flatMap RMap.cells)
  rw [List.length_append, List.flatMap_append, List.flatMap_singleton]
  exact this
 ·exact (hmT m' hm').1.touch hT2 (hmT m' hm').2.2
 ·show (x.t :: g'.toList).Nodup
  cases hgg : g' with
  | none => simp
  | some b =>
   simp only [Option.toList_some, List.nodup_cons, List.mem_singleton, List.not_mem_nil, not_false_eq_true, List.nodup_nil, and_true]
   intro e
   exact hgt (by rw [hgg, e])
 ·rcases List.mem_cons.1 (show b ∈ x.t :: g'.toList from hx) with hx | hx
  ·exact (hmT m' hm').2.2 b hb (by rw [hx]; simp [RT.top])
  ·rcases hg' b (by simpa using hx) with hx | hx
   ·exact (hmT m' hm').2.2 b hb (RT.mem_g hx)
   ·have := (hmT m' hm').1.lt b hb
    omega
 ·have hi : (x.maps ++ [m])[i]? = some mi := hi
  have hj : (x.maps ++ [m])[j]? = some mj := hj
  have hcase : ∀ k mk, (x.maps ++ [m])[k]? = some mk → x.maps[k]? = some mk ∨ (k = x.maps.length ∧ mk = m) := fun k mk hk => by
   rw [List.getElem?_append] at hk
   split at hk
   ·exact Or.inl hk
   ·rename_i hge
    have hk0 : k - x.maps.length = 0 := by
     have := (List.getElem?_eq_some_iff.1 hk).1
     simp at this
     omega
    rw [hk0] at hk
    simp at hk
    exact Or.inr ⟨by omega, hk.symm⟩
  rcases hcase i mi hi with a | ⟨a1, a2⟩
  ·rcases hcase j mj hj with b | ⟨b1, b2⟩
   ·exact h.apM i j mi mj a b hij y hy
   ·rw [b2]
    intro hx
    exact hsep y hx (RT.mem_map (List.mem_of_getElem? a) hy)
  ·rcases hcase j mj hj with b | ⟨b1, b2⟩
   ·intro hx
    rw [a2] at hy
    exact hsep y hy (RT.mem_map (List.mem_of_getElem? b) hx)
   ·omega
 ·show (x.maps ++ [m]).length ≤ 8
  rw [List.length_append]
  simp
  omega
 ·rcases hg' b hb with h9 | h9
  ·exact Or.inl h9
  ·exact Or.inr (by omega)
end Go.Proofs.YtmhhahmjkopjhaaGreat
end
section
namespace Go.Proofs.YtmhhahmjkopjhaaGreat
open Go.RowKit
def placeI (i s : Int) : Int := 137438953472 + i * 4294967296 + s * 4096
theorem rplace_any (w : World) (i s : Nat) (hi : i < 8) (hs : s < 64) : Calls Tryz.prog 37 #[.int .i64 (i : Int), .int .i64 (s : Int)] w fun e w' => e = .returned (.int .u64 (placeI i s)) ∧ w' = w := by
 have h1 : IntKind.u64.wrap ((i : Int) * 4294967296) = i * 4294967296 := by rw [IntKind.wrap_u64]; omega
 have h2 : IntKind.u64.wrap ((s : Int) * 4096) = s * 4096 := by rw [IntKind.wrap_u64]; omega
 have h3 : IntKind.u64.wrap (137438953472 + (i : Int) * 4294967296) = 137438953472 + i * 4294967296 := by rw [IntKind.wrap_u64]; omega
 have h4 : IntKind.u64.wrap (137438953472 + (i : Int) * 4294967296 + s * 4096) = 137438953472 + i * 4294967296 + s * 4096 := by rw [IntKind.wrap_u64]; omega
 unfold placeI
 go_enter Tryz.func37, Tryz.ntmps37
 go_wp2
 go_ret
 exact ⟨rfl, rfl⟩
def checkI (x : RT) (i : Int) (n : Nat) : Int := if 0 ≤ i ∧ i < x.maps.length then (match x.maps[i.toNat]? with
 | some m => if (n : Int) = m.key then 0 else 2
 | none => 14) else 14
theorem rcheck_any {w : World} {x : RT} (h : RTAt w x) (i : Int) (sa : Option Addr) (sl sc : Nat) (_hsl : sl ≤ 9223372036854775807) :
  Calls Tryz.prog 59 #[.pointer (some ⟨x.t, 0, none⟩), .int .i64 i, .slice sa sl sc] w fun e w' => e = .returned (.int .i64 (checkI x i sl)) ∧ w' = w := by
 have c1 := h.c1
 unfold slV at c1
 have hm8 := h.many
 by_cases hi : 0 ≤ i
 ·by_cases hl : i < x.maps.length
  ·obtain ⟨k, rfl⟩ := Int.eq_ofNat_of_zero_le hi
   have hkl : k < x.maps.length := by omega
   obtain ⟨m, hget⟩ : ∃ m, x.maps[k]? = some m := ⟨_, List.getElem?_eq_getElem hkl⟩
   obtain ⟨gb, hg, hcell⟩ := h.at_ hget
   have d1 := hcell 1 _ (by omega) rfl
   have hc : checkI x (k : Int) sl = if (sl : Int) = m.key then 0 else 2 := by
    unfold checkI
    rw [if_pos ⟨hi, hl⟩, Int.toNat_natCast, hget]
   rw [hc]
   rw [hg, Option.map_some] at c1
   clear hkl
   generalize hL : x.maps.length = L at *
   have hkLi : (k : Int) < L := hl
   have hkLn : ¬ (L : Int) ≤ k := by omega
   generalize m.key = ky at *
   by_cases he : (sl : Int) = ky
   ·rw [if_pos he]
    have hs : ((sl : Int) != ky) = false := by simpa using he
    clear h hget hg hcell hc he
    go_enter Tryz.func59, Tryz.ntmps59
    go_wp2
    go_ret
    exact ⟨rfl, rfl⟩
   ·rw [if_neg he]
    have hs : ((sl : Int) != ky) = true := by simpa using he
    clear h hget hg hcell hc he
    go_enter Tryz.func59, Tryz.ntmps59
    go_wp2
    go_ret
    exact ⟨rfl, rfl⟩
  ·have hc : checkI x i sl = 14 := if_neg (fun h => hl h.2)
   rw [hc]
   have hle : (x.maps.length : Int) ≤ i := by omega
   generalize x.maps.length = L at *
   generalize (x.g.map fun b => (⟨b, 0, none⟩ : Addr)) = sg at *
   clear h hc hl
   go_enter Tryz.func59, Tryz.ntmps59
   go_wp2
   go_ret
   exact ⟨rfl, rfl⟩
 ·have hc : checkI x i sl = 14 := if_neg (fun h => hi h.1)
  rw [hc]
  have hlt : i < 0 := by omega
  generalize x.maps.length = L at *
  generalize (x.g.map fun b => (⟨b, 0, none⟩ : Addr)) = sg at *
  clear h hc hi
  go_enter Tryz.func59, Tryz.ntmps59
  go_wp2
  go_ret
  exact ⟨rfl, rfl⟩
end Go.Proofs.YtmhhahmjkopjhaaGreat
end
section
namespace Go.Proofs.YtmhhahmjkopjhaaGreat
open Go.RowKit
def RT.ps (x : RT) : List PX := x.maps.map fun m => m.ix.p
def RMap.fixed (m : RMap) : List Value × List Nat × Option Nat × Nat := (m.cells, m.ids, m.idb, m.idc)
structure TStep (w w' : World) (x x' : RT) (qs : List PX) : Prop where
 at_ : RTAt w' x'
 ps : x'.ps = qs
 t : x'.t = x.t
 mem : x'.mem = x.mem
 top : x'.top = x.top
 fixed : x'.maps.map RMap.fixed = x.maps.map RMap.fixed
 keys : x'.maps.map (fun m => (m.kind, m.key, m.val, m.max)) = x.maps.map (fun m => (m.kind, m.key, m.val, m.max))
 touch : Touch x.blocks w w'
 blocks : ∀ b ∈ x'.blocks, b ∈ x.blocks ∨ w.heap.size ≤ b
theorem TStep.refl {w w' : World} {x : RT} (h : RTAt w x) (ht : Touch [] w w') : TStep w w' x x x.ps :=
 ⟨h.still ht, rfl, rfl, rfl, rfl, rfl, rfl, ht.nil, fun _ hb => Or.inl hb⟩
theorem map_set_same {α β : Type} (f : α → β) (l : List α) (i : Nat) (a b : α) (h : l[i]? = some a) (hf : f b = f a) : (l.set i b).map f = l.map f := by
 refine List.ext_getElem? fun j => ?_
 rw [List.getElem?_map, List.getElem?_map, List.getElem?_set]
 by_cases e : i = j
 ·subst e
  rw [if_pos rfl, if_pos (List.getElem?_eq_some_iff.1 h).1, h]
  exact congrArg some hf
 ·rw [if_neg e]
theorem RTAt.stepT {w w' : World} {x : RT} (h : RTAt w x) {i : Nat} {m : RMap} (hm : x.maps[i]? = some m) {ix : RX} {q : PX} (st : Step w w' m.ix ix q) (g : PGood q) (hk : PKept m.ix.p q) : ∃ x', TStep w w' x x' (x.ps.set i q) := by
 have hmem := List.mem_of_getElem? hm
 refine ⟨x.put i { m with ix := ix }, h.step hm st g hk, ?_, rfl, rfl, rfl, ?_, ?_, st.touch.mono (fun b hb => Or.inl (RT.mem_map hmem (RMap.mem_ix (RX.mem_top hb)))), fun b hb => ?_⟩
 ·unfold RT.ps RT.put
  show (x.maps.set i { m with ix := ix }).map (fun m => m.ix.p) = _
  rw [List.map_set, st.p]
 ·refine map_set_same _ _ _ m _ hm ?_
  unfold RMap.fixed RMap.cells
  rw [st.r]
 ·exact map_set_same _ _ _ m _ hm rfl
 ·rcases List.mem_append.1 hb with hb | hb
  ·exact Or.inl (RT.mem_top hb)
  ·obtain ⟨m', hm', hb⟩ := List.mem_flatMap.1 hb
   rcases List.mem_or_eq_of_mem_set (show m' ∈ x.maps.set i { m with ix := ix } from hm') with hx | rfl
   ·exact Or.inl (RT.mem_map hx hb)
   ·rcases List.mem_append.1 hb with hb | hb
    ·rcases st.blocks b hb with h1 | h1
     ·exact Or.inl (RT.mem_map hmem (RMap.mem_ix h1))
     ·exact Or.inr h1
    ·exact Or.inl (RT.mem_map hmem (List.mem_append_right _ hb))
theorem findA_lt {q : PX} {bs : List Int} {s : Nat} (h : (q.findA bs).1 = some s) : s < q.slots.length := by
 unfold PX.findA at h
 split at h
 ·unfold PX.find3 at h
  split at h
  ·exact (longTo_some h).1
  ·cases h
 ·unfold PX.find at h
  split at h
  ·exact sameP_lt h
  ·cases h
def lookI (x : RT) (i : Int) (bs : List Int) : (Int × Int) × List PX :=
 if checkI x i bs.length = 0 then match x.ps[i.toNat]? with
  | some q => ((match (q.findA bs).1 with
   | some s => placeI i (s : Int)
   | none => 0, 0), x.ps.set i.toNat (q.findA bs).2)
  | none => ((0, 14), x.ps)
 else ((0, checkI x i bs.length), x.ps)
theorem check_ok {x : RT} {i : Int} {n : Nat} (h : checkI x i n = 0) : ∃ (k : Nat) (m : RMap), i = k ∧ x.maps[k]? = some m ∧ (n : Int) = m.key := by
 unfold checkI at h
 split at h
 ·rename_i hi
  refine ⟨i.toNat, ?_⟩
  cases hm : x.maps[i.toNat]? with
  | none => rw [hm] at h; cases h
  | some m =>
   rw [hm] at h
   refine ⟨m, by omega, rfl, ?_⟩
   by_cases e : (n : Int) = m.key
   ·exact e
   ·change (if (n : Int) = m.key then (0 : Int) else 2) = 0 at h
    rw [if_neg e] at h
    cases h
 ·cases h
def LookPost (w : World) (x : RT) (a : (Int × Int) × List PX) (e : Ending) (w' : World) : Prop := e = .returned (.tuple #[.int .u64 a.1.1, .int .i64 a.1.2]) ∧ ∃ x', TStep w w' x x' a.2
theorem rlookup_any {w : World} {x : RT} (h : RTAt w x) (hc : ∀ m ∈ x.maps, m.ix.clock ≤ 1000000000) (i : Int) {sa : Option Addr} {sl : Nat} {bs : List Int} (hk : KeyAt w sa sl bs) (sc : Nat) (hsc : sl ≤ sc) :
  Calls Tryz.prog 33 #[.pointer (some ⟨x.t, 0, none⟩), .int .i64 i, .slice sa sl sc] w (LookPost w x (lookI x i bs)) := by
 have H1 := toHid (rcheck_any h i sa sl sc (by have := hk.1; have := hk.2.2.1; omega))
 have hl := hk.1
 by_cases h0 : checkI x i bs.length = 0
 ·obtain ⟨k, m, rfl, hm, hkey⟩ := check_ok h0
  have hmem := List.mem_of_getElem? hm
  have hps : x.ps[k]? = some m.ix.p := by unfold RT.ps; rw [List.getElem?_map, hm]; rfl
  have hv : lookI x k bs = ((match (m.ix.p.findA bs).1 with
   | some s => placeI k (s : Int)
   | none => 0, 0), x.ps.set k (m.ix.p.findA bs).2) := by
   unfold lookI
   rw [if_pos h0, Int.toNat_natCast, hps]
  subst hl
  rw [h0] at H1
  rw [hv]
  have H2 := toHid (rfindA_any (h.maps m hmem).ix (h.ok m hmem).good (hc m hmem) hk sc hsc)
  have HG := toHid ((h.ok m hmem).good.findA bs)
  obtain ⟨gb, hg, hcell⟩ := h.at_ hm
  have d4 := hcell 4 _ (by omega) rfl
  have c1 := h.c1
  rw [hg] at c1
  unfold slV at c1
  rw [Option.map_some] at c1
  have hkl : k < x.maps.length := (List.getElem?_eq_some_iff.1 hm).1
  have hk8 : k < 8 := by have := h.many; omega
  have HS64 : Hid (∀ s, (m.ix.p.findA bs).1 = some s → s < 64) := fun s hs => by
   have h1 := findA_lt hs
   have h2 := (h.ok m hmem).good.m2
   omega
  have HH := toHid (And.intro h hm)
  generalize m.ix.p.findA bs = fq at *
  obtain ⟨fo, q⟩ := fq
  generalize hL : x.maps.length = L at *
  have hkLi : (k : Int) < L := by omega
  clear h hk h0 hmem hps hv hcell hg hkey hm hkl hL hc
  go_enter Tryz.func33, Tryz.ntmps33
  go_wp2_with fail
  refine Calls.mono H1.out ?_
  rintro e w ⟨rfl, rfl⟩
  go_wp2_with fail
  refine Calls.mono H2.out ?_
  rintro e w2 ⟨rfl, ix', st⟩
  have HX := toHid (HH.out.1.stepT HH.out.2 st HG.out.1 HG.out.2)
  clear st H1 H2 d4 c1
  cases fo with
  | none =>
   unfold idxI
   go_wp2
   go_ret2
   exact ⟨rfl, HX.out⟩
  | some s =>
   have H3 := toHid (rplace_any w2 k s hk8 (HS64.out s rfl))
   unfold idxI
   go_wp2_with fail
   refine Calls.mono H3.out ?_
   rintro e w2 ⟨rfl, rfl⟩
   go_wp2
   go_ret2
   exact ⟨rfl, HX.out⟩
 ·have hv : lookI x i bs = ((0, checkI x i bs.length), x.ps) := if_neg h0
  subst hl
  rw [hv]
  have HX := toHid (TStep.refl h (Touch.refl [] w))
  have hne : (checkI x i bs.length != 0) = true := by simpa using h0
  generalize checkI x i bs.length = ce at *
  clear h hk h0 hv hc
  go_enter Tryz.func33, Tryz.ntmps33
  go_wp2_with fail
  refine Calls.mono H1.out ?_
  rintro e w ⟨rfl, rfl⟩
  go_wp2
  go_ret2
  exact ⟨rfl, x, HX.out⟩
def delI (x : RT) (i : Int) (bs : List Int) : Int × List PX :=
 if checkI x i bs.length = 0 then match x.ps[i.toNat]? with
  | some q => ((q.delA bs).1.2, x.ps.set i.toNat (q.delA bs).2)
  | none => (14, x.ps)
 else (checkI x i bs.length, x.ps)
def RDelPost (w : World) (x : RT) (a : Int × List PX) (e : Ending) (w' : World) : Prop := e = .returned (.int .i64 a.1) ∧ ∃ x', TStep w w' x x' a.2
theorem rtdelete_any {w : World} {x : RT} (h : RTAt w x) (hc : ∀ m ∈ x.maps, m.ix.clock ≤ 1000000000) (i : Int) {sa : Option Addr} {sl : Nat} {bs : List Int} (hk : KeyAt w sa sl bs) (sc : Nat) (hsc : sl ≤ sc) :
  Calls Tryz.prog 35 #[.pointer (some ⟨x.t, 0, none⟩), .int .i64 i, .slice sa sl sc] w (RDelPost w x (delI x i bs)) := by
 have H1 := toHid (rcheck_any h i sa sl sc (by have := hk.1; have := hk.2.2.1; omega))
 have hl := hk.1
 by_cases h0 : checkI x i bs.length = 0
 ·obtain ⟨k, m, rfl, hm, hkey⟩ := check_ok h0
  have hmem := List.mem_of_getElem? hm
  have hps : x.ps[k]? = some m.ix.p := by unfold RT.ps; rw [List.getElem?_map, hm]; rfl
  have hv : delI x k bs = ((m.ix.p.delA bs).1.2, x.ps.set k (m.ix.p.delA bs).2) := by
   unfold delI
   rw [if_pos h0, Int.toNat_natCast, hps]
  subst hl
  rw [h0] at H1
  rw [hv]
  have H2 := toHid (rdelA_any (h.maps m hmem).ix (h.ok m hmem).good (hc m hmem) hk sc hsc)
  have HG := toHid ((h.ok m hmem).good.delA bs)
  obtain ⟨gb, hg, hcell⟩ := h.at_ hm
  have d4 := hcell 4 _ (by omega) rfl
  have c1 := h.c1
  rw [hg] at c1
  unfold slV at c1
  rw [Option.map_some] at c1
  have hkl : k < x.maps.length := (List.getElem?_eq_some_iff.1 hm).1
  have HH := toHid (And.intro h hm)
  generalize m.ix.p.delA bs = fq at *
  obtain ⟨⟨sd, er⟩, q⟩ := fq
  generalize hL : x.maps.length = L at *
  have hkLi : (k : Int) < L := by omega
  clear h hk h0 hmem hps hv hcell hg hkey hm hkl hL hc
  go_enter Tryz.func35, Tryz.ntmps35
  go_wp2_with fail
  refine Calls.mono H1.out ?_
  rintro e w ⟨rfl, rfl⟩
  go_wp2_with fail
  refine Calls.mono H2.out ?_
  rintro e w2 ⟨rfl, ix', st⟩
  have HX := toHid (HH.out.1.stepT HH.out.2 st HG.out.1 HG.out.2)
  clear st H1 H2 d4 c1
  go_wp2
  go_ret
  exact ⟨rfl, HX.out⟩
 ·have hv : delI x i bs = (checkI x i bs.length, x.ps) := if_neg h0
  subst hl
  rw [hv]
  have HX := toHid (TStep.refl h (Touch.refl [] w))
  have hne : (checkI x i bs.length != 0) = true := by simpa using h0
  generalize checkI x i bs.length = ce at *
  clear h hk h0 hv hc
  go_enter Tryz.func35, Tryz.ntmps35
  go_wp2_with fail
  refine Calls.mono H1.out ?_
  rintro e w ⟨rfl, rfl⟩
  go_wp2
  go_ret
  exact ⟨rfl, x, HX.out⟩
end Go.Proofs.YtmhhahmjkopjhaaGreat
end
section
namespace Go.Proofs.YtmhhahmjkopjhaaGreat.Mem
open Go.RowKit
def laidTo {α : Type} (xs : List α) (a : Nat) (ys : List α) (k : Nat) : List α := xs.take a ++ ys.take k ++ xs.drop (a + k)
theorem laidTo_len {α : Type} (xs : List α) (a : Nat) (ys : List α) (k : Nat) (hk : k ≤ ys.length) (h : a + k ≤ xs.length) : (laidTo xs a ys k).length = xs.length := by
 simp only [laidTo, List.length_append, List.length_take, List.length_drop]
 omega
theorem laidTo_zero {α : Type} (xs : List α) (a : Nat) (ys : List α) : laidTo xs a ys 0 = xs := by simp [laidTo]
theorem laidTo_succ {α : Type} (xs : List α) (a : Nat) (ys : List α) (k : Nat) (y : α) (hy : ys[k]? = some y) (h : a + k < xs.length) : (laidTo xs a ys k).set (a + k) y = laidTo xs a ys (k + 1) := by
 obtain ⟨hk, rfl⟩ := List.getElem?_eq_some_iff.1 hy
 unfold laidTo
 have e2 : (xs.take a ++ ys.take k).length = a + k := by simp; omega
 rw [List.set_append_right _ _ (by omega), e2, Nat.sub_self, List.drop_eq_getElem_cons h, List.set_cons_zero, ← Nat.add_assoc]
 rw [List.take_succ_eq_append_getElem hk, List.append_assoc, List.append_assoc, List.append_assoc]
 rfl
def rlayR (r : RReg) (a : Nat) (bs : List Int) : RReg := { r with bytes := laidTo r.bytes a bs bs.length, set := laidTo r.set a (List.replicate bs.length true) bs.length }
theorem flat_set (l : List RReg) (i : Nat) (r r' : RReg) (hr : l[i]? = some r) (hc : r'.cells = r.cells) : (l.set i r').flatMap RReg.cells = l.flatMap RReg.cells := by
 induction l generalizing i with
 | nil => rfl
 | cons x xs ih =>
  cases i with
  | zero =>
   simp at hr
   subst hr
   rw [List.set_cons_zero, List.flatMap_cons, List.flatMap_cons, hc]
  | succ i =>
   rw [List.set_cons_succ, List.flatMap_cons, List.flatMap_cons, ih i (by simpa using hr)]
theorem flat_blocks (l : List RReg) (i : Nat) (r r' : RReg) (hr : l[i]? = some r) (hc : r'.blocks = r.blocks) : (l.set i r').flatMap RReg.blocks = l.flatMap RReg.blocks := by
 induction l generalizing i with
 | nil => rfl
 | cons x xs ih =>
  cases i with
  | zero =>
   simp at hr
   subst hr
   rw [List.set_cons_zero, List.flatMap_cons, List.flatMap_cons, hc]
  | succ i =>
   rw [List.set_cons_succ, List.flatMap_cons, List.flatMap_cons, ih i (by simpa using hr)]
theorem nodup_rflat {l : List RReg} (h : (l.flatMap RReg.blocks).Nodup) {i j : Nat} {x y : RReg} (hx : l[i]? = some x) (hy : l[j]? = some y) (hne : i ≠ j) : ∀ b ∈ x.blocks, b ∉ y.blocks := by
 intro b hb hb'
 obtain ⟨hi, rfl⟩ := List.getElem?_eq_some_iff.1 hx
 obtain ⟨hj, rfl⟩ := List.getElem?_eq_some_iff.1 hy
 have hp := (List.pairwise_flatMap.1 h).2
 rcases Nat.lt_or_gt_of_ne hne with hlt | hlt
 ·exact (List.pairwise_iff_getElem.1 hp) i j hi hj hlt b hb b hb' rfl
 ·exact (List.pairwise_iff_getElem.1 hp) j i hj hi hlt b hb' b hb rfl
theorem RefAt.upd {w w' : World} {s : RS} (h : RefAt w s) {i : Nat} {r : RReg} (hr : s.all[i]? = some r) {r' : RReg} (hc : r'.cells = r.cells) (hbl : r'.blocks = r.blocks) (hr' : RRegAt w' r') (ho : RRegOk r') (ht : Touch r.blocks w w') :
  RefAt w' { s with all := s.all.set i r' } ∧ ({ s with all := s.all.set i r' } : RS).blocks = s.blocks := by
 have hap := h.apart
 simp only [RS.blocks, List.cons_append, List.nodup_cons, List.mem_append, List.nodup_append] at hap
 have hin : ∀ b ∈ r.blocks, b ∈ s.all.flatMap RReg.blocks := fun b hb => List.mem_flatMap.2 ⟨r, List.mem_of_getElem? hr, hb⟩
 have hlen : (s.all.set i r').length = s.all.length := by simp
 have hb2 := flat_blocks s.all i r r' hr hbl
 have hmem : ∀ x ∈ s.all.set i r', x = r' ∨ ∃ j, j ≠ i ∧ s.all[j]? = some x := fun x hx => by
  obtain ⟨j, hj, rfl⟩ := List.getElem_of_mem hx
  rw [List.getElem_set]
  split
  ·exact Or.inl rfl
  ·rename_i hne
   rw [hlen] at hj
   exact Or.inr ⟨j, fun e => hne e.symm, List.getElem?_eq_getElem hj⟩
 refine ⟨⟨?_, ?_, ?_, ?_, ?_, ?_⟩, ?_⟩
 ·show Blk w' s.m [slV s.g (s.all.set i r').length s.cap] 69
  rw [hlen]
  exact ht.blk h.self (fun hx => hap.1 (Or.inr (hin _ hx)))
 ·show RowAt w' 82 5 s.g (s.all.set i r').length s.cap ((s.all.set i r').flatMap RReg.cells)
  rw [hlen, flat_set s.all i r r' hr hc]
  exact h.row.touch ht (fun b hb hx => hap.2.2.2 b (by simp [hb]) b (hin _ hx) rfl)
 ·intro x hx
  rcases hmem x hx with rfl | ⟨j, hj, hx⟩
  ·exact hr'
  ·exact (h.regs x (List.mem_of_getElem? hx)).touch ht (nodup_rflat hap.2.2.1 hx hr hj)
 ·intro x hx
  rcases hmem x hx with rfl | ⟨j, hj, hx⟩
  ·exact ho
  ·exact h.ok x (List.mem_of_getElem? hx)
 ·show (s.m :: s.g.toList ++ (s.all.set i r').flatMap RReg.blocks).Nodup
  rw [hb2]
  exact h.apart
 ·show (s.all.set i r').length ≤ 1000
  rw [hlen]
  exact h.many
 ·show s.m :: s.g.toList ++ (s.all.set i r').flatMap RReg.blocks = _
  rw [hb2]
  rfl
theorem rlayR_cells {r : RReg} {a : Nat} {bs : List Int} (h : a + bs.length ≤ r.bytes.length) (hs : r.set.length = r.bytes.length) : (rlayR r a bs).cells = r.cells := by
 unfold RReg.cells
 rw [show (rlayR r a bs).bytes.length = r.bytes.length from laidTo_len _ _ _ _ (Nat.le_refl _) h, show (rlayR r a bs).set.length = r.set.length from laidTo_len _ _ _ _ (by simp) (by omega)]
 rfl
theorem rlayR_ok {r : RReg} {a : Nat} {bs : List Int} (h : RRegOk r) (hl : a + bs.length ≤ r.bytes.length) (hb : ∀ x ∈ bs, 0 ≤ x ∧ x ≤ 255) : RRegOk (rlayR r a bs) := by
 have h1 : (rlayR r a bs).bytes.length = r.bytes.length := laidTo_len _ _ _ _ (Nat.le_refl _) hl
 have h2 : (rlayR r a bs).set.length = r.set.length := laidTo_len _ _ _ _ (by simp) (by rw [h.setLen]; exact hl)
 refine ⟨h.base0, by rw [h1]; exact h.size1, by rw [h1]; exact h.size2, by rw [h1]; exact h.fits, h.perm0, h.perm1, by rw [h1, h2]; exact h.setLen, fun x hx => ?_⟩
 simp only [rlayR, laidTo, List.take_length, List.mem_append] at hx
 rcases hx with (hx | hx) | hx
 ·exact h.byte x (List.mem_of_mem_take hx)
 ·exact hb x hx
 ·exact h.byte x (List.mem_of_mem_drop hx)
theorem rlay2_any {w : World} {s : RS} (h : RefAt w s) (i a n c : Nat) (r : RReg) (sa : Option Addr) (bs : List Int) (hr : s.all[i]? = some r) (hl : bs.length = n) (han : a + n ≤ r.bytes.length) (hbb : ∀ x ∈ bs, 0 ≤ x ∧ x ≤ 255)
  (hb : 1 ≤ n → ∃ k off, sa = some ⟨k, off, none⟩ ∧ k ∉ s.blocks ∧ BytesAt w k off bs) :
  Calls Tryz.prog 62 #[.pointer (some ⟨s.m, 0, none⟩), .int .i64 i, .int .i64 a, .slice sa n c] w fun e w' => e = .returned (.tuple #[]) ∧
   (RefAt w' { s with all := s.all.set i (rlayR r a bs) } ∧ ({ s with all := s.all.set i (rlayR r a bs) } : RS).blocks = s.blocks) ∧ Touch s.blocks w w' := by
 have hi : i < s.all.length := (List.getElem?_eq_some_iff.1 hr).1
 have hok := h.ok r (List.mem_of_getElem? hr)
 have hsz := hok.size2
 have hsl := hok.setLen
 have hmany := h.many
 obtain ⟨b, hg⟩ : ∃ b, s.g = some b := by
  cases hg : s.g with
  | none => have := (h.nil hg).1; rw [this] at hi; simp at hi
  | some b => exact ⟨b, rfl⟩
 have hc0 := h.c0
 rw [hg] at hc0
 simp only [slV_some] at hc0
 have c3 := h.at hg hr (j := 3) (by omega) rfl
 have c4 := h.at hg hr (j := 4) (by omega) rfl
 obtain ⟨rest1, hB1⟩ := (h.regs r (List.mem_of_getElem? hr)).bytes
 obtain ⟨rest2, hB2⟩ := (h.regs r (List.mem_of_getElem? hr)).set
 have hap := h.apart
 simp only [RS.blocks, List.cons_append, List.nodup_cons, List.mem_append, List.nodup_append] at hap
 have hinb : r.bb ∈ s.all.flatMap RReg.blocks := List.mem_flatMap.2 ⟨r, List.mem_of_getElem? hr, by simp [RReg.blocks]⟩
 have hins : r.sb ∈ s.all.flatMap RReg.blocks := List.mem_flatMap.2 ⟨r, List.mem_of_getElem? hr, by simp [RReg.blocks]⟩
 have hbs : ¬ r.bb = r.sb := by
  have := (List.pairwise_flatMap.1 hap.2.2.1).1 r (List.mem_of_getElem? hr)
  simpa [RReg.blocks] using this
 have n1 : s.m ∉ r.blocks := fun hx => by
  simp [RReg.blocks] at hx
  rcases hx with e | e
  ·exact hap.1 (Or.inr (by rw [e]; exact hinb))
  ·exact hap.1 (Or.inr (by rw [e]; exact hins))
 have n2 : b ∉ r.blocks := fun hx => by
  simp [RReg.blocks] at hx
  rcases hx with e | e
  ·exact hap.2.2.2 b (by simp [hg]) r.bb hinb e
  ·exact hap.2.2.2 b (by simp [hg]) r.sb hins e
 have HK : 1 ≤ n → ∃ k off, sa = some ⟨k, off, none⟩ ∧ k ∉ r.blocks ∧ BytesAt w k off bs := fun hn => by
  obtain ⟨k, off, e, hk, hby⟩ := hb hn
  refine ⟨k, off, e, fun hx => hk ?_, hby⟩
  exact s.mem_r (List.mem_of_getElem? hr) hx
 have HF : ∀ w', Blk w' r.bb ((laidTo r.bytes a bs n).map (Value.int .u8) ++ rest1) 5 → Blk w' r.sb ((laidTo r.set a (List.replicate n true) n).map Value.bool ++ rest2) 4 → Touch r.blocks w w' →
   Hid ((RefAt w' { s with all := s.all.set i (rlayR r a bs) } ∧ ({ s with all := s.all.set i (rlayR r a bs) } : RS).blocks = s.blocks) ∧ Touch s.blocks w w') := fun w' q1 q2 q3 => by
  refine ⟨h.upd hr (rlayR_cells (by omega) hsl) rfl ⟨⟨rest1, ?_⟩, ⟨rest2, ?_⟩⟩ (rlayR_ok hok (by omega) hbb) q3, q3.mono (fun x hx => Or.inl (s.mem_r (List.mem_of_getElem? hr) hx))⟩
  ·rw [← hl] at q1; exact q1
  ·rw [← hl] at q2; exact q2
 have HKK := toHid HK
 have HFF := toHid HF
 have HC := toHid (And.intro hc0 (And.intro c3 c4))
 have HB1 : Hid (Blk w r.bb ((laidTo r.bytes a bs 0).map (Value.int .u8) ++ rest1) 5) := by rw [laidTo_zero]; exact hB1
 have HB2 : Hid (Blk w r.sb ((laidTo r.set a (List.replicate n true) 0).map Value.bool ++ rest2) 4) := by rw [laidTo_zero]; exact hB2
 have HN := toHid (And.intro n1 n2)
 clear h hok hg hc0 c3 c4 hB1 hB2 hap hinb hins n1 n2 HK HF hb hmany hr hbb
 go_enter Tryz.func62, Tryz.ntmps62
 go_wp2
 go_loopw [12] (fun t w' => ∃ k : Nat, k ≤ n ∧ t = .int .i64 k ∧ Hid (Blk w' r.bb ((laidTo r.bytes a bs k).map (Value.int .u8) ++ rest1) 5 ∧ Blk w' r.sb ((laidTo r.set a (List.replicate n true) k).map Value.bool ++ rest2) 4 ∧ Touch r.blocks w w')) (fun t _ => n - (intOf t).toNat)
 case atStart => exact ⟨0, by omega, rfl, HB1.out, HB2.out, Touch.refl _ _⟩
 case round =>
  rename_i wr
  obtain ⟨k, hk, rfl, HI⟩ := hrel
  by_cases hlt : k < n
  ·obtain ⟨kb, off, rfl, hkn, hby⟩ := HKK.out (by omega)
   obtain ⟨x, hx⟩ : ∃ x, bs[k]? = some x := ⟨_, List.getElem?_eq_getElem (by omega)⟩
   have hck : wr.cell? ⟨kb, off + k, none⟩ = some (.int .u8 x) := HI.out.2.2.cell (hby k _ (by rw [List.getElem?_map, hx]; rfl)) hkn
   have HX := toHid hx
   clear hx
   have hc0 := HI.out.2.2.cell HC.out.1 HN.out.1
   have c3 := HI.out.2.2.cell HC.out.2.1 HN.out.2
   have c4 := HI.out.2.2.cell HC.out.2.2 HN.out.2
   have hl1 : (laidTo r.bytes a bs k).length = r.bytes.length := laidTo_len _ _ _ _ (by omega) (by omega)
   have hl2 : (laidTo r.set a (List.replicate n true) k).length = r.set.length := laidTo_len _ _ _ _ (by simp; omega) (by omega)
   have d1 := HI.out.1.cellN (i := a + k) (by simp [hl1]; omega)
   have f1 := HI.out.1.frozen (a + k)
   have d2 := HI.out.2.1.cellN (i := a + k) (by simp [hl2]; omega)
   have f2 := HI.out.2.1.frozen (a + k)
   have hbs2 : ¬ r.sb = r.bb := fun e => hbs e.symm
   have hbd : (a : Int) + k < r.bytes.length := by omega
   have hbd2 : (a : Int) + k < r.set.length := by omega
   have m1 : ¬ r.bb = s.m := fun e => HN.out.1 (by rw [← e]; simp [RReg.blocks])
   have m2 : ¬ r.bb = b := fun e => HN.out.2 (by rw [← e]; simp [RReg.blocks])
   have m3 : ¬ s.m = r.bb := fun e => m1 e.symm
   have m4 : ¬ b = r.bb := fun e => m2 e.symm
   go_wp2
   refine ⟨⟨k + 1, by omega, by go_num, ?_, ?_, ?_⟩, by simp [intOf]; omega⟩
   ·refine Blk.setCell_other ?_ _ _ hbs
    have := HI.out.1.setCell (a + k) (.int .u8 x)
    rw [List.set_append_left _ _ (by simp [hl1]; omega), ← List.map_set, laidTo_succ r.bytes a bs k x HX.out (by omega)] at this
    exact this
   ·have := (HI.out.2.1.setCell_other ⟨r.bb, a + k, none⟩ (.int .u8 x) hbs2).setCell (a + k) (.bool true)
    rw [List.set_append_left _ _ (by simp [hl2]; omega), ← List.map_set, laidTo_succ r.set a (List.replicate n true) k true (by rw [List.getElem?_replicate, if_pos hlt]) (by omega)] at this
    exact this
   ·exact (HI.out.2.2.setCell _ _ (Or.inl (by simp [RReg.blocks]))).setCell _ _ (Or.inl (by simp [RReg.blocks]))
  ·obtain rfl : k = n := by omega
   have H9 := HFF.out wr HI.out.1 HI.out.2.1 HI.out.2.2
   go_wp2
   go_end0
   exact ⟨rfl, H9.out⟩
end Go.Proofs.YtmhhahmjkopjhaaGreat.Mem
end
section
namespace Go.Proofs.YtmhhahmjkopjhaaGreat.Mem
open Go.RowKit
def RefStep (w : World) (s : RS) (all : List RReg) (w' : World) : Prop := RefAt w' { s with all := all } ∧ ({ s with all := all } : RS).blocks = s.blocks ∧ Touch s.blocks w w'
theorem RefStep.same {w w' : World} {s : RS} (h : RefAt w s) (ht : Touch [] w w') : RefStep w s s.all w' := ⟨h.touch ht (by simp), rfl, ht.nil⟩
def rkillE (all : List RReg) (id : Int) : Int := if hasB' all id = true then 0 else 14
def rkillAll (all : List RReg) (id : Int) : List RReg := if hasB' all id = true then all.set id.toNat { all.getD id.toNat RReg.zero with live := false } else all
theorem RefAt.some_g {w : World} {s : RS} (h : RefAt w s) {i : Nat} (hi : i < s.all.length) : ∃ b, s.g = some b := by
 cases hg : s.g with
 | none => have := (h.nil hg).1; rw [this] at hi; simp at hi
 | some b => exact ⟨b, rfl⟩
def accI (all : List RReg) (addr n : Int) (p : Int → Bool) : Option Nat := match all.findIdx? (rhasB · addr) with
 | none => none
 | some i => if n ≤ ((all.getD i RReg.zero).bytes.length : Int) - (addr - (all.getD i RReg.zero).base) ∧ p (all.getD i RReg.zero).perm = true then some i else none
theorem ofV_cases (all : List RReg) (addr : Int) : (all.findIdx? (rhasB · addr) = none ∧ ofV all addr = .tuple #[.int .i64 (-1), .int .i64 0]) ∨
  ∃ i : Nat, ∃ r, i < all.length ∧ all[i]? = some r ∧ all.getD i RReg.zero = r ∧ rhasB r addr = true ∧ all.findIdx? (rhasB · addr) = some i ∧ ofV all addr = .tuple #[.int .i64 i, .int .i64 (addr - r.base)] := by
 unfold ofV
 cases hf : all.findIdx? (rhasB · addr) with
 | none => exact Or.inl ⟨rfl, rfl⟩
 | some i =>
  have hf2 := hf
  rw [List.findIdx?_eq_some_iff_getElem] at hf2
  obtain ⟨hi, h1, _⟩ := hf2
  refine Or.inr ⟨i, all.getD i RReg.zero, hi, rgetD_of hi, rfl, ?_, rfl, rfl⟩
  rw [List.getD_eq_getElem?_getD, List.getElem?_eq_getElem hi]
  simpa using h1
def canW (p : Int) : Bool := !(p / 2 % 2 == 0)
def canR (p : Int) : Bool := !(p % 2 == 0)
def rwriteE (all : List RReg) (addr : Int) (bs : List Int) : Int := if bs.length = 0 then 0 else match accI all addr bs.length canW with
 | none => 10
 | some _ => 0
def rwriteAll (all : List RReg) (addr : Int) (bs : List Int) : List RReg := if bs.length = 0 then all else match accI all addr bs.length canW with
 | none => all
 | some i => all.set i (rlayR (all.getD i RReg.zero) (addr - (all.getD i RReg.zero).base).toNat bs)
def ArgOut (w : World) (bl : List Nat) (v : Value) (bs : List Int) : Prop := ∃ a c, v = .slice a bs.length c ∧ (∀ x ∈ bs, 0 ≤ x ∧ x ≤ 255) ∧ bs.length ≤ 9223372036854775807 ∧ (1 ≤ bs.length → ∃ k off, a = some ⟨k, off, none⟩ ∧ k ∉ bl ∧ BytesAt w k off bs)
theorem rwrite_any {w : World} {s : RS} (h : RefAt w s) (addr : Int) (v : Value) (bs : List Int) (ha0 : 0 ≤ addr) (ha1 : addr ≤ 18446744073709551615) (hv : ArgOut w s.blocks v bs) :
  Calls Tryz.prog 66 #[.pointer (some ⟨s.m, 0, none⟩), .int .u64 addr, v] w fun e w' => e = .returned (.int .i64 (rwriteE s.all addr bs)) ∧ RefStep w s (rwriteAll s.all addr bs) w' := by
 obtain ⟨a, c, rfl, hbb, hn2, hb⟩ := hv
 by_cases h0 : bs.length = 0
 ·have HF : Hid (rwriteE s.all addr bs = 0 ∧ RefStep w s (rwriteAll s.all addr bs) w) := by
   refine ⟨by unfold rwriteE; rw [if_pos h0], ?_⟩
   unfold rwriteAll
   rw [if_pos h0]
   exact RefStep.same h (Touch.refl _ _)
  have h0' : ((bs.length : Int) == 0) = true := by simpa using h0
  clear h hb
  go_enter Tryz.func66, Tryz.ntmps66
  go_wp2
  go_ret
  exact ⟨by rw [HF.out.1]; rfl, HF.out.2⟩
 ·have h0' : ((bs.length : Int) == 0) = false := by simpa using h0
  have HO := toHid (of_any h addr ha0 ha1)
  rcases ofV_cases s.all addr with ⟨hf, hov⟩ | ⟨i, r, hi, hr, hrd, hrh, hf, hov⟩
  ·rw [hov] at HO
   have HF : ∀ w', Touch [] w w' → Hid (rwriteE s.all addr bs = 10 ∧ RefStep w s (rwriteAll s.all addr bs) w') := fun w' ht => by
    have e : accI s.all addr bs.length canW = none := by unfold accI; rw [hf]
    refine ⟨by unfold rwriteE; rw [if_neg h0, e], ?_⟩
    unfold rwriteAll
    rw [if_neg h0, e]
    exact RefStep.same h ht
   have HFF := toHid HF
   clear h hb HF hov hf
   go_enter Tryz.func66, Tryz.ntmps66
   go_wp2_with (go_at_call 89; refine HO.out.mono ?_; rintro e w1 ⟨rfl, ht1⟩; have H1 := HFF.out w1 ht1; clear ht1)
   go_ret
   exact ⟨by rw [H1.out.1]; rfl, H1.out.2⟩
  ·rw [hov] at HO
   have hok := h.ok r (List.mem_of_getElem? hr)
   have hin : r.base ≤ addr ∧ addr < r.base + (r.bytes.length : Int) := by
    unfold rhasB at hrh
    simp only [Bool.and_eq_true, decide_eq_true_eq] at hrh
    exact hrh.2
   obtain ⟨at_, hat⟩ : ∃ at_ : Nat, addr - r.base = at_ := ⟨(addr - r.base).toNat, by omega⟩
   rw [hat] at HO
   obtain ⟨b, hg⟩ := h.some_g hi
   have hmany := h.many
   have hsz := hok.size2
   have hp0 := hok.perm0
   have hp1 := hok.perm1
   have HM := toHid h
   have HG := toHid hg
   have HR := toHid hr
   by_cases hfit : (bs.length : Int) ≤ (r.bytes.length : Int) - at_
   ·by_cases hp : r.perm / 2 % 2 = 0
    ·have HF : ∀ w', Touch [] w w' → Hid (rwriteE s.all addr bs = 10 ∧ RefStep w s (rwriteAll s.all addr bs) w') := fun w' ht => by
      have e : accI s.all addr bs.length canW = none := by unfold accI; rw [hf]; simp only [hrd]; rw [if_neg]; simp [canW, hp]
      refine ⟨by unfold rwriteE; rw [if_neg h0, e], ?_⟩
      unfold rwriteAll
      rw [if_neg h0, e]
      exact RefStep.same h ht
     have HFF := toHid HF
     have hpb : (r.perm / 2 % 2 == 0) = true := by simpa using hp
     clear h hb HF hov hf hok hg hr hrd hrh
     go_enter Tryz.func66, Tryz.ntmps66
     go_wp2_with fail
     refine HO.out.mono ?_
     rintro e w1 ⟨rfl, ht1⟩
     have hM := HM.out.touch ht1 (by simp)
     have hc0 := hM.c0
     rw [HG.out] at hc0
     simp only [slV_some] at hc0
     have c2 := hM.at HG.out HR.out (j := 2) (by omega) rfl
     have c3 := hM.at HG.out HR.out (j := 3) (by omega) rfl
     have H1 := HFF.out w1 ht1
     clear ht1 hM HFF HO
     go_wp2
     go_ret
     exact ⟨by rw [H1.out.1]; rfl, H1.out.2⟩
    ·have hpb : (r.perm / 2 % 2 == 0) = false := by simpa using hp
     have e : accI s.all addr bs.length canW = some i := by unfold accI; rw [hf]; simp only [hrd]; rw [if_pos ⟨by omega, by simp [canW, hp]⟩]
     have HE : Hid (rwriteE s.all addr bs = 0 ∧ rwriteAll s.all addr bs = s.all.set i (rlayR r at_ bs)) := by
      refine ⟨by unfold rwriteE; rw [if_neg h0, e], ?_⟩
      unfold rwriteAll
      rw [if_neg h0, e]
      simp only [hrd, hat, Int.toNat_natCast]
     clear h hov hf hok hg hr hrd hrh e hp
     go_enter Tryz.func66, Tryz.ntmps66
     go_wp2_with fail
     refine HO.out.mono ?_
     rintro e w1 ⟨rfl, ht1⟩
     have hM := HM.out.touch ht1 (by simp)
     have hc0 := hM.c0
     rw [HG.out] at hc0
     simp only [slV_some] at hc0
     have c2 := hM.at HG.out HR.out (j := 2) (by omega) rfl
     have c3 := hM.at HG.out HR.out (j := 3) (by omega) rfl
     have HL := toHid (rlay2_any hM i at_ bs.length c r a bs HR.out rfl (by omega) hbb (fun hn => by
      obtain ⟨k, off, e, hk, hby⟩ := hb hn
      exact ⟨k, off, e, hk, hby.touch ht1 (by simp)⟩))
     have HT := toHid ht1
     clear ht1 hM HO hb hbb
     go_wp2_with fail
     refine HL.out.mono ?_
     rintro e w2 ⟨rfl, ⟨q1, q2⟩, q3⟩
     have H9 : Hid (RefStep w s (rwriteAll s.all addr bs) w2) := by
      rw [HE.out.2]
      exact ⟨q1, q2, HT.out.nil.trans q3 (fun x hx => Or.inl hx)⟩
     clear q1 q2 q3 HL
     go_wp2
     go_ret
     exact ⟨by rw [HE.out.1]; rfl, H9.out⟩
   ·have HF : ∀ w', Touch [] w w' → Hid (rwriteE s.all addr bs = 10 ∧ RefStep w s (rwriteAll s.all addr bs) w') := fun w' ht => by
     have e : accI s.all addr bs.length canW = none := by unfold accI; rw [hf]; simp only [hrd]; rw [if_neg]; rw [hat]; exact fun hh => hfit hh.1
     refine ⟨by unfold rwriteE; rw [if_neg h0, e], ?_⟩
     unfold rwriteAll
     rw [if_neg h0, e]
     exact RefStep.same h ht
    have HFF := toHid HF
    clear h hb HF hov hf hok hg hr hrd hrh
    go_enter Tryz.func66, Tryz.ntmps66
    go_wp2_with fail
    refine HO.out.mono ?_
    rintro e w1 ⟨rfl, ht1⟩
    have hM := HM.out.touch ht1 (by simp)
    have hc0 := hM.c0
    rw [HG.out] at hc0
    simp only [slV_some] at hc0
    have c2 := hM.at HG.out HR.out (j := 2) (by omega) rfl
    have c3 := hM.at HG.out HR.out (j := 3) (by omega) rfl
    have H1 := HFF.out w1 ht1
    clear ht1 hM HFF HO
    go_wp2
    go_ret
    exact ⟨by rw [H1.out.1]; rfl, H1.out.2⟩
end Go.Proofs.YtmhhahmjkopjhaaGreat.Mem
end
section
namespace Go.Proofs.YtmhhahmjkopjhaaGreat
open Go.RowKit
theorem oldFrom_lt (ws : List Int) : ∀ n a, a < ws.length → n ≤ ws.length → oldFrom ws n a < ws.length
 | 0, a, h, _ => h
 | n + 1, a, h, hn => by
  rw [oldFrom_succ]
  refine oldFrom_lt ws n _ ?_ (by omega)
  split <;> omega
theorem putA_slot {q : PX} (g : PGood q) {bs : List Int} {fl : Int} (h : (q.putA bs fl).1.2.2 = 0) : ∃ s : Nat, (q.putA bs fl).1.1 = s ∧ s < q.slots.length := by
 unfold PX.putA at h ⊢
 split at h
 ·rename_i hk
  rw [if_pos hk]
  unfold PX.put3 at h ⊢
  split at h
  ·rename_i hf
   rw [if_pos hf]
   split at h
   ·cases h
   ·rename_i hfl
    rw [if_neg hfl]
    cases hs : sameP q.slots (cutP bs) with
    | some i =>
     rw [hs] at h
     dsimp only at h ⊢
     split at h
     ·cases h
     ·rename_i h1
      rw [if_neg h1]
      exact ⟨i, rfl, sameP_lt hs⟩
    | none =>
     rw [hs] at h
     dsimp only at h ⊢
     split at h
     ·cases h
     ·rename_i h1
      rw [if_neg h1]
      cases hf2 : freeP q.slots with
      | some f => exact ⟨f, rfl, freeP_lt hf2⟩
      | none => rw [hf2] at h; cases h
  ·cases h
 ·rename_i hk
  rw [if_neg hk]
  unfold PX.put at h ⊢
  split at h
  ·rename_i hf
   rw [if_pos hf]
   split at h
   ·cases h
   ·rename_i hfl
    rw [if_neg hfl]
    cases hs : sameP q.slots bs with
    | some i =>
     rw [hs] at h
     dsimp only at h ⊢
     split at h
     ·cases h
     ·rename_i h1
      rw [if_neg h1]
      exact ⟨i, rfl, sameP_lt hs⟩
    | none =>
     rw [hs] at h
     dsimp only at h ⊢
     split at h
     ·cases h
     ·rename_i h0
      rw [if_neg h0]
      split at h
      ·cases h
      ·rename_i h1
       rw [if_neg h1]
       cases hr : q.room with
       | none => rw [hr] at h; cases h
       | some f =>
        refine ⟨f, rfl, ?_⟩
        unfold PX.room at hr
        cases hf2 : freeP q.slots with
        | some f2 =>
         rw [hf2] at hr
         injection hr with hr
         rw [← hr]
         exact freeP_lt hf2
        | none =>
         rw [hf2] at hr
         dsimp only at hr
         split at hr
         ·injection hr with hr
          rw [← hr, ← g.whens]
          have := g.m1
          have := g.whens
          exact oldFrom_lt _ _ _ (by omega) (Nat.le_refl _)
         ·cases hr
  ·cases h
structure RBoth (w : World) (x : RT) (s : Mem.RS) : Prop where
 tab : RTAt w x
 mem : Mem.RefAt w s
 at_ : x.mem = s.m
 apart : ∀ b ∈ x.blocks, b ∉ s.blocks
 ids : ∀ (i j id : Nat) (m : RMap), x.maps[i]? = some m → m.ids[j]? = some id → ∃ r, s.all[id]? = some r ∧ r.live = true ∧ r.base = placeI i j ∧ (r.bytes.length : Int) = m.val ∧ r.perm = 3
theorem RBoth.still {w w' : World} {x : RT} {s : Mem.RS} (h : RBoth w x s) (ht : Touch [] w w') : RBoth w' x s := ⟨h.tab.still ht, h.mem.touch ht (by simp), h.at_, h.apart, h.ids⟩
theorem TStep.map {w w' : World} {x x' : RT} {qs : List PX} (st : TStep w w' x x' qs) {i : Nat} {m' : RMap} (hm : x'.maps[i]? = some m') : ∃ m, x.maps[i]? = some m ∧ m'.ids = m.ids ∧ m'.val = m.val ∧ m'.key = m.key := by
 have h1 := congrArg (fun l => l[i]?) st.fixed
 have h2 := congrArg (fun l => l[i]?) st.keys
 simp only [List.getElem?_map, hm, Option.map_some] at h1 h2
 cases hq : x.maps[i]? with
 | none => rw [hq] at h1; cases h1
 | some m =>
  rw [hq] at h1 h2
  simp only [Option.map_some, Option.some.injEq] at h1 h2
  unfold RMap.fixed at h1
  simp only [Prod.mk.injEq] at h1 h2
  exact ⟨m, rfl, h1.2.1, h2.2.2.1, h2.2.1⟩
theorem TStep.map' {w w' : World} {x x' : RT} {qs : List PX} (st : TStep w w' x x' qs) {i : Nat} {m : RMap} (hm : x.maps[i]? = some m) : ∃ m', x'.maps[i]? = some m' ∧ m'.ids = m.ids ∧ m'.val = m.val := by
 have h1 := congrArg (fun l => l[i]?) st.fixed
 simp only [List.getElem?_map, hm, Option.map_some] at h1
 cases hq : x'.maps[i]? with
 | none => rw [hq] at h1; cases h1
 | some m' =>
  obtain ⟨m2, h2, h3, h4, _⟩ := st.map hq
  rw [hm] at h2
  injection h2 with h2
  subst h2
  exact ⟨m', rfl, h3, h4⟩
theorem RBoth.step {w w2 : World} {x x1 : RT} {s : Mem.RS} {qs : List PX} (h : RBoth w x s) (st : TStep w w2 x x1 qs) : RBoth w2 x1 s := by
 have hlt : ∀ b ∈ s.blocks, b < w.heap.size := h.mem.lt
 refine ⟨st.at_, h.mem.touch st.touch (fun b hb hx => h.apart b hx hb), by rw [st.mem]; exact h.at_, fun b hb hx => ?_, fun i j id m hm hid => ?_⟩
 ·rcases st.blocks b hb with h1 | h1
  ·exact h.apart b h1 hx
  ·have := hlt b hx
   omega
 ·obtain ⟨m0, h0, h1, h2, _⟩ := st.map hm
  rw [h1] at hid
  rw [h2]
  exact h.ids i j id m0 h0 hid
theorem RBoth.lay {w w2 : World} {x : RT} {s : Mem.RS} {id : Nat} {r : Mem.RReg} {vs : List Int} (h : RBoth w x s) (hr : s.all[id]? = some r) (hl : vs.length ≤ r.bytes.length) (h2 : Mem.RefAt w2 { s with all := s.all.set id (Mem.rlayR r 0 vs) })
  (hb : ({ s with all := s.all.set id (Mem.rlayR r 0 vs) } : Mem.RS).blocks = s.blocks) (ht : Touch s.blocks w w2) : RBoth w2 x { s with all := s.all.set id (Mem.rlayR r 0 vs) } := by
 have hlt := (List.getElem?_eq_some_iff.1 hr).1
 refine ⟨h.tab.touch ht h.apart, h2, h.at_, fun b hx => by rw [hb]; exact h.apart b hx, fun i j id' m hm hid => ?_⟩
 obtain ⟨r', q1, q2, q3, q4, q5⟩ := h.ids i j id' m hm hid
 by_cases e : id = id'
 ·subst e
  rw [hr] at q1
  injection q1 with q1
  subst q1
  have hlen : (Mem.rlayR r 0 vs).bytes.length = r.bytes.length := Mem.laidTo_len _ _ _ _ (Nat.le_refl _) (by omega)
  exact ⟨Mem.rlayR r 0 vs, List.getElem?_set_self hlt, q2, q3, by rw [hlen]; exact q4, q5⟩
 ·exact ⟨r', by show (s.all.set id _)[id']? = _; rw [List.getElem?_set_ne e]; exact q1, q2, q3, q4, q5⟩
def updAll (ids : List Nat) (all : List Mem.RReg) (sI : Int) (vs : List Int) : List Mem.RReg := match ids[sI.toNat]? with
 | some id => match all[id]? with
  | some r => all.set id (Mem.rlayR r 0 vs)
  | none => all
 | none => all
def updI (x : RT) (all : List Mem.RReg) (i : Int) (bs vs : List Int) (fl : Int) : Int × List PX × List Mem.RReg :=
 if checkI x i bs.length = 0 then match x.maps[i.toNat]? with
  | some m => if (vs.length : Int) = m.val then
    (if (m.ix.p.putA bs fl).1.2.2 = 0 then (0, x.ps.set i.toNat (m.ix.p.putA bs fl).2, updAll m.ids all (m.ix.p.putA bs fl).1.1 vs)
    else ((m.ix.p.putA bs fl).1.2.2, x.ps.set i.toNat (m.ix.p.putA bs fl).2, all))
   else (2, x.ps, all)
  | none => (14, x.ps, all)
 else (checkI x i bs.length, x.ps, all)
structure USt (w w' : World) (x x' : RT) (s : Mem.RS) (qs : List PX) (all : List Mem.RReg) : Prop where
 both : RBoth w' x' { s with all := all }
 ps : x'.ps = qs
 t : x'.t = x.t
 keys : x'.maps.map (fun m => (m.kind, m.key, m.val, m.max)) = x.maps.map (fun m => (m.kind, m.key, m.val, m.max))
 ids : x'.maps.map RMap.ids = x.maps.map RMap.ids
 sblk : ({ s with all := all } : Mem.RS).blocks = s.blocks
 touch : Touch (x.blocks ++ s.blocks) w w'
 blocks : ∀ b ∈ x'.blocks, b ∈ x.blocks ∨ w.heap.size ≤ b
theorem TStep.idsEq {w w' : World} {x x' : RT} {qs : List PX} (st : TStep w w' x x' qs) : x'.maps.map RMap.ids = x.maps.map RMap.ids := by
 have := congrArg (List.map fun a : List Value × List Nat × Option Nat × Nat => a.2.1) st.fixed
 rw [List.map_map, List.map_map] at this
 exact this
theorem USt.same {w w' : World} {x x' : RT} {s : Mem.RS} {qs : List PX} (h : RBoth w x s) (st : TStep w w' x x' qs) : USt w w' x x' s qs s.all :=
 ⟨h.step st, st.ps, st.t, st.keys, st.idsEq, rfl, st.touch.mono (fun _b hb => Or.inl (List.mem_append_left _ hb)), st.blocks⟩
def UpdPost (w : World) (x : RT) (s : Mem.RS) (a : Int × List PX × List Mem.RReg) (e : Ending) (w' : World) : Prop := e = .returned (.int .i64 a.1) ∧ ∃ x', USt w w' x x' s a.2.1 a.2.2
theorem rupdate_any {w : World} {x : RT} {s : Mem.RS} (h : RBoth w x s) (hc : ∀ m ∈ x.maps, m.ix.clock ≤ 1000000000) (i : Int) {sa : Option Addr} {sl : Nat} {bs : List Int} (hk : KeyAt w sa sl bs) (sc : Nat) (hsc : sl ≤ sc)
  (hout : 1 ≤ bs.length → ∀ b off, sa = some ⟨b, off, none⟩ → b ∉ x.blocks) {va : Option Addr} {vl : Nat} {vs : List Int} (hv : KeyAt w va vl vs) (vc : Nat) (hvout : ∀ b off, va = some ⟨b, off, none⟩ → 1 ≤ vs.length → b ∉ x.blocks ∧ b ∉ s.blocks) (fl : Int) (f0 : 0 ≤ fl) :
  Calls Tryz.prog 34 #[.pointer (some ⟨x.t, 0, none⟩), .int .i64 i, .slice sa sl sc, .slice va vl vc, .int .u64 fl] w (UpdPost w x s (updI x s.all i bs vs fl)) := by
 have H1 := toHid (rcheck_any h.tab i sa sl sc (by have := hk.1; have := hk.2.2.1; omega))
 have hl := hk.1
 have hvl := hv.1
 subst hl hvl
 have hvl9 := hv.2.2.1
 by_cases h0 : checkI x i bs.length = 0
 ·obtain ⟨k, m, rfl, hm, hkey⟩ := check_ok h0
  have hmem := List.mem_of_getElem? hm
  have hok := h.tab.ok m hmem
  have hv1 : updI x s.all k bs vs fl = if (vs.length : Int) = m.val then
    (if (m.ix.p.putA bs fl).1.2.2 = 0 then (0, x.ps.set k (m.ix.p.putA bs fl).2, updAll m.ids s.all (m.ix.p.putA bs fl).1.1 vs)
    else ((m.ix.p.putA bs fl).1.2.2, x.ps.set k (m.ix.p.putA bs fl).2, s.all))
   else (2, x.ps, s.all) := by
   unfold updI
   rw [if_pos h0, Int.toNat_natCast, hm]
  rw [h0] at H1
  rw [hv1]
  obtain ⟨gb, hg, hcell⟩ := h.tab.at_ hm
  have d2 := hcell 2 _ (by omega) rfl
  have d4 := hcell 4 _ (by omega) rfl
  have c1 := h.tab.c1
  rw [hg] at c1
  unfold slV at c1
  rw [Option.map_some] at c1
  have hkl : k < x.maps.length := (List.getElem?_eq_some_iff.1 hm).1
  by_cases hvv : (vs.length : Int) = m.val
  ·rw [if_pos hvv]
   have hs : ((vs.length : Int) != m.val) = false := by simpa using hvv
   have hb1 : 1 ≤ bs.length := by have h1 := hok.good.s1; have h2 := hok.key; have h3 : m.ix.p.size = m.ix.size := rfl; omega
   have H2 := toHid (rputA_any (h.tab.maps m hmem).ix hok.good (hc m hmem) hk (fun b _ hb off e => hout hb1 b off e (RT.mem_map hmem (RMap.mem_ix hb))) sc hsc fl f0)
   have HG := toHid (hok.good.putA bs fl)
   have HSL := toHid (fun h9 => putA_slot hok.good (bs := bs) (fl := fl) h9)
   have HH := toHid (And.intro h (And.intro hm (And.intro hok (And.intro hv (And.intro hvout hvv)))))
   generalize m.ix.p.putA bs fl = pq at *
   obtain ⟨⟨sI, fr, er⟩, q⟩ := pq
   have hkLi : (k : Int) < x.maps.length := by omega
   generalize hL : x.maps.length = L at *
   generalize hVL : vs.length = VL at *
   have HVL := toHid hVL
   generalize hmv : m.val = mv at *
   have HMV := toHid hmv
   clear h hk hv hvout hout h0 hmem hv1 hcell hg hkey hm hkl hL hc hok hVL hmv hvv
   by_cases he : er = 0
   ·subst he
    rw [if_pos rfl]
    go_enter Tryz.func34, Tryz.ntmps34
    go_wp2_with fail
    refine Calls.mono H1.out ?_
    rintro e w ⟨rfl, rfl⟩
    go_wp2_with fail
    refine Calls.mono H2.out ?_
    rintro e w2 ⟨rfl, ix', st⟩
    obtain ⟨x1, st1⟩ := HH.out.1.tab.stepT HH.out.2.1 st HG.out.1 HG.out.2
    have hR := HH.out.1.step st1
    obtain ⟨m1, hm1, hids, hval⟩ := st1.map' HH.out.2.1
    obtain ⟨sN, rfl, hsN⟩ := HSL.out trivial
    have hsl : sN < m.ids.length := by rw [HH.out.2.2.1.idn]; simpa [RX.p] using hsN
    obtain ⟨id, hid⟩ : ∃ id, m.ids[sN]? = some id := ⟨_, List.getElem?_eq_getElem hsl⟩
    obtain ⟨r, hr, hr1, hr2, hr3, hr4⟩ := HH.out.1.ids k sN id m HH.out.2.1 hid
    have hRd := hR.still ((Touch.refl [] w2).drew)
    obtain ⟨gb1, hg1, hcell1⟩ := hRd.tab.at_ hm1
    have e5 := hcell1 5 _ (by omega) rfl
    have e0 := hRd.tab.c0
    have e1 := hRd.tab.c1
    have hids1 := (hRd.tab.maps m1 (List.mem_of_getElem? hm1)).ids
    obtain ⟨ib, hib⟩ : ∃ ib, m1.idb = some ib := by
     cases hq : m1.idb with
     | none =>
      rw [hq] at hids1
      have q1 := hids1.2.1
      have q2 : m1.idc = 0 := hids1.2.2.2
      rw [hids] at q1
      omega
     | some ib => exact ⟨ib, rfl⟩
    have e6 : w2.drew.cell? ⟨ib, sN, none⟩ = some (.int .i64 (id : Int)) := by
     rw [hib] at hids1
     obtain ⟨_, _, _, rest, hB, _⟩ := hids1
     refine hB.cell ?_
     rw [List.getElem?_append_left (by rw [List.length_map, hids]; exact hsl), List.getElem?_map, hids, hid]
     rfl
    have hkl1 : k < x1.maps.length := (List.getElem?_eq_some_iff.1 hm1).1
    have ap1 : x1.t ∉ s.blocks := hR.apart _ (RT.mem_top (by simp [RT.top]))
    have ap2 : gb1 ∉ s.blocks := hR.apart _ (RT.mem_top (RT.mem_g hg1))
    have ap3 : ib ∉ s.blocks := hR.apart _ (RT.mem_map (List.mem_of_getElem? hm1) (RMap.mem_id hib))
    rw [hR.at_] at e0
    rw [hg1] at e1
    rw [hib] at e5
    unfold slV at e1 e5
    rw [Option.map_some] at e1 e5
    rw [st1.t] at e0 e1 ap1
    have hVr : VL = r.bytes.length := by have h8 := HH.out.2.2.2.2.2; have h9 := HMV.out; omega
    have hvk := HH.out.2.2.2.1
    have H3 := toHid (Mem.rlay2_any hRd.mem id 0 VL vc r va vs hr HVL.out (by omega) hvk.2.1 (fun hp => by
     obtain ⟨vb, voff, e9, hcv⟩ := hvk.2.2.2 (by rw [HVL.out]; exact hp)
     refine ⟨vb, voff, e9, (HH.out.2.2.2.2.1 vb voff e9 hp).2, fun j u hj => ?_⟩
     have hjl : j < vs.length := by have := (List.getElem?_eq_some_iff.1 hj).1; simpa using this
     have h9 := (st1.touch.drew).cell (hcv j hjl) (fun hx => (HH.out.2.2.2.2.1 vb voff e9 hp).1 hx)
     rw [List.getElem?_map, List.getElem?_eq_getElem hjl] at hj
     rw [List.getD_eq_getElem?_getD, List.getElem?_eq_getElem hjl] at h9
     rw [h9]
     exact hj))
    have HU : Hid (∀ w3, Mem.RefAt w3 { s with all := s.all.set id (Mem.rlayR r 0 vs) } → ({ s with all := s.all.set id (Mem.rlayR r 0 vs) } : Mem.RS).blocks = s.blocks → Touch s.blocks w2.drew w3 → UpdPost w x s (0, x.ps.set k q, updAll m.ids s.all (sN : Int) vs) (.returned (.int .i64 0)) w3) := fun w3 h3 h3b ht3 => by
     have hua : updAll m.ids s.all (sN : Int) vs = s.all.set id (Mem.rlayR r 0 vs) := by
      unfold updAll
      rw [Int.toNat_natCast, hid]
      dsimp only
      rw [hr]
     rw [hua]
     refine ⟨rfl, x1, hRd.lay hr (by rw [HVL.out]; omega) h3 h3b ht3, st1.ps, st1.t, st1.keys, st1.idsEq, h3b, ?_, st1.blocks⟩
     exact ((st1.touch.drew).mono (S' := x.blocks ++ s.blocks) (fun b hb => Or.inl (List.mem_append_left _ hb))).trans ht3 (fun b hb => Or.inl (List.mem_append_right _ hb))
    have hI1 : (sN : Int) < m1.ids.length := by rw [hids]; omega
    have hL1 : (k : Int) < x1.maps.length := by omega
    generalize hL1e : x1.maps.length = L1 at *
    generalize hI1e : m1.ids.length = I1 at *
    generalize x1.cap = c1' at *
    generalize m1.idc = ic at *
    have HSS : Hid (∀ w', Touch s.blocks w2.drew w' → w'.cell? ⟨x.t, 0, none⟩ = some (.pointer (some ⟨s.m, 0, none⟩)) ∧ w'.cell? ⟨x.t, 1, none⟩ = some (.slice (some ⟨gb1, 0, none⟩) L1 c1') ∧ w'.cell? ⟨gb1, k * 6 + 5, none⟩ = some (.slice (some ⟨ib, 0, none⟩) I1 ic) ∧ w'.cell? ⟨ib, sN, none⟩ = some (.int .i64 (id : Int))) :=
     fun w' ht => ⟨ht.cell e0 ap1, ht.cell e1 ap1, ht.cell e5 ap2, ht.cell e6 ap3⟩
    clear st st1 hR hm1 hids hval hsN hsl hid hr hr1 hr2 hr3 hr4 hRd hg1 hcell1 hids1 hib hkl1 hVr hvk hL1e hI1e e0 e1 e5 e6 ap1 ap2 ap3 H1 H2 d4 c1 d2
    go_wp2_with fail
    refine wp_region_held_drew (S := fun w' => w'.cell? ⟨x.t, 0, none⟩ = some (.pointer (some ⟨s.m, 0, none⟩)) ∧ w'.cell? ⟨x.t, 1, none⟩ = some (.slice (some ⟨gb1, 0, none⟩) L1 c1') ∧ w'.cell? ⟨gb1, k * 6 + 5, none⟩ = some (.slice (some ⟨ib, 0, none⟩) I1 ic) ∧ w'.cell? ⟨ib, sN, none⟩ = some (.int .i64 (id : Int))) (by kernel_rfl) ?_ (fun hHeld => ?_)
    ·exact HSS.out _ (Touch.refl _ _)
    refine tk 0 (v := ?_) rfl ?_ ?_
    rotate_left
    ·(intro w hSw; (try dsimp only at hSw); go_simp; try with_reducible rfl)
    simp only [Act.put, AP]
    refine tk 1 (v := ?_) rfl ?_ ?_
    rotate_left
    ·(intro w hSw; (try dsimp only at hSw); go_simp; try with_reducible rfl)
    simp only [Act.put, AP]
    refine tk 2 (v := ?_) rfl ?_ ?_
    rotate_left
    ·(intro w hSw; (try dsimp only at hSw); go_simp; try with_reducible rfl)
    simp only [Act.put, AP]
    refine tk 3 (v := ?_) rfl ?_ ?_
    rotate_left
    ·(intro w hSw; (try dsimp only at hSw); go_simp; try with_reducible rfl)
    simp only [Act.put, AP]
    refine tk 4 (v := ?_) rfl ?_ ?_
    rotate_left
    ·(intro w hSw; (try dsimp only at hSw); go_simp; try with_reducible rfl)
    simp only [Act.put, AP]
    refine tk 5 (v := ?_) rfl ?_ ?_
    rotate_left
    ·(intro w hSw; (try dsimp only at hSw); go_simp; try with_reducible rfl)
    simp only [Act.put, AP]
    refine tk 6 (v := ?_) rfl ?_ ?_
    rotate_left
    ·(intro w hSw; (try dsimp only at hSw); go_simp; try with_reducible rfl)
    simp only [Act.put, AP]
    refine tk 7 (v := ?_) rfl ?_ ?_
    rotate_left
    ·(intro w hSw; (try dsimp only at hSw); go_simp; try with_reducible rfl)
    simp only [Act.put, AP]
    refine tk 8 (v := ?_) rfl ?_ ?_
    rotate_left
    ·(intro w hSw; (try dsimp only at hSw); go_simp; try with_reducible rfl)
    simp only [Act.put, AP]
    refine tk 9 (v := ?_) rfl ?_ ?_
    rotate_left
    ·(intro w hSw; (try dsimp only at hSw); go_simp; try with_reducible rfl)
    simp only [Act.put, AP]
    refine tk 10 (v := ?_) rfl ?_ ?_
    rotate_left
    ·(intro w hSw; (try dsimp only at hSw); go_simp; try with_reducible rfl)
    simp only [Act.put, AP]
    refine tk 11 (v := ?_) rfl ?_ ?_
    rotate_left
    ·(intro w hSw; (try dsimp only at hSw); go_simp; try with_reducible rfl)
    simp only [Act.put, AP]
    refine tk 12 (v := ?_) rfl ?_ ?_
    rotate_left
    ·(intro w hSw; (try dsimp only at hSw); go_simp; try with_reducible rfl)
    simp only [Act.put, AP]
    refine tk 13 (v := ?_) rfl ?_ ?_
    rotate_left
    ·(intro w hSw; (try dsimp only at hSw); go_simp; try with_reducible rfl)
    simp only [Act.put, AP]
    refine tk 14 (v := ?_) rfl ?_ ?_
    rotate_left
    ·(intro w hSw; (try dsimp only at hSw); go_simp; try with_reducible rfl)
    simp only [Act.put, AP]
    refine tk 15 (v := ?_) rfl ?_ ?_
    rotate_left
    ·(intro w hSw; (try dsimp only at hSw); go_simp; try with_reducible rfl)
    simp only [Act.put, AP]
    refine wpAnyH_ready (rs := [16]) (by kernel_rfl) (by simp) ?_
    refine AllReadyH.cons rfl (fun K hK => ?_) AllReadyH.nil
    simp only [AP]
    go_simp
    refine Calls.mono H3.out ?_; rintro e w3 ⟨rfl, ⟨h3, h3b⟩, ht3⟩
    go_wp2_with fail
    refine hK.out _ _ ?_ (fun hHeld => ?_)
    ·exact HSS.out _ ht3
    clear hK K
    try simp only [Act.put, AP]
    refine wpAnyH_done (by kernel_rfl) ?_ _
    have HF := toHid (HU.out w3 h3 h3b ht3)
    clear h3 h3b ht3 hHeld H3 HSS
    go_wp2
    go_ret
    exact HF.out
   ·rw [if_neg he]
    have hne : (er == 0) = false := by simpa using he
    clear he
    go_enter Tryz.func34, Tryz.ntmps34
    go_wp2_with fail
    refine Calls.mono H1.out ?_
    rintro e w ⟨rfl, rfl⟩
    go_wp2_with fail
    refine Calls.mono H2.out ?_
    rintro e w2 ⟨rfl, ix', st⟩
    obtain ⟨x1, st1⟩ := HH.out.1.tab.stepT HH.out.2.1 st HG.out.1 HG.out.2
    have HX := toHid (USt.same HH.out.1 st1)
    clear st st1 H1 H2 d4 c1 d2
    go_wp2
    go_ret
    exact ⟨rfl, x1, HX.out⟩
  ·rw [if_neg hvv]
   have hs : ((vs.length : Int) != m.val) = true := by simpa using hvv
   have HX : Hid (USt w w x x s x.ps s.all) := USt.same h (TStep.refl h.tab (Touch.refl _ _))
   have hkLi : (k : Int) < x.maps.length := by omega
   generalize hL : x.maps.length = L at *
   generalize vs.length = VL at *
   generalize m.val = mv at *
   clear h hk hv hvout hout h0 hmem hv1 hcell hg hkey hm hkl hL hc hok hvv
   go_enter Tryz.func34, Tryz.ntmps34
   go_wp2_with fail
   refine Calls.mono H1.out ?_
   rintro e w ⟨rfl, rfl⟩
   go_wp2
   go_ret
   exact ⟨rfl, x, HX.out⟩
 ·have hv1 : updI x s.all i bs vs fl = (checkI x i bs.length, x.ps, s.all) := if_neg h0
  rw [hv1]
  have HX : Hid (USt w w x x s x.ps s.all) := USt.same h (TStep.refl h.tab (Touch.refl _ _))
  have hne : (checkI x i bs.length != 0) = true := by simpa using h0
  generalize checkI x i bs.length = ce at *
  clear h hk hv hvout hout h0 hv1 hc
  go_enter Tryz.func34, Tryz.ntmps34
  go_wp2_with fail
  refine Calls.mono H1.out ?_
  rintro e w ⟨rfl, rfl⟩
  go_wp2
  go_ret
  exact ⟨rfl, x, HX.out⟩
end Go.Proofs.YtmhhahmjkopjhaaGreat
end
section
namespace Go.Proofs.YtmhhahmjkopjhaaGreat.Mem
open Go.RowKit
theorem step_append_known {P : Program} {ops : Array Oper} {o : Oper} {a : Act} {w : World} {K : Act → World → Prop} {Q : Exit → Act → World → Prop} {E : Prop}
  (hg : o.guard = none) (d x : Operand) (dT sT : TypeId) (hop : o.op = Op.call { callee := Callee.builtin Builtin.append, args := #[d, x], argTypes := #[dT, sT] })
  (v u : Value) (hd : a.eval d = v) (hx : a.eval x = u) {v' : Value} {w' : World} (hr : (Builtin.append_ #[dT, sT] o.type #[v, u]).run P w = .ok v' w') (hK : K (a.put o.dst v') w') :
  if Region.wanted o (yielded ops a.tmps) = true then Oper.wp P o a w K Q else E := by
 rw [if_pos (by simp [Region.wanted, hg])]
 unfold Oper.wp
 simp only [execOp, hop, resolve, invoke, builtin, Sem.run_bind, Sem.run_pure, Result.andThen_ok, List.map_toArray, List.map_cons, List.map_nil, hd, hx, hr]
 exact hK
def killE (rs : List Reg) (id : Int) : Int := if (regOf rs id).isSome = true then 0 else 14
def killRs (rs : List Reg) (id : Int) : List Reg := rs.filter (fun r => r.id != id)
def KillPost (w : World) (s : MS) (id : Int) (e : Ending) (w' : World) : Prop :=
 e = .returned (.int .i64 (killE s.rs id)) ∧ Touch s.blocks w w' ∧ ∃ s', MemAt w' s' ∧ Own w s s' ∧ s'.next = s.next ∧ s'.rs = killRs s.rs id
end Go.Proofs.YtmhhahmjkopjhaaGreat.Mem
end
