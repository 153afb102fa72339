/-
  one: Find, Add, Read.
-/
import Derived.Test.YtbidppeelophhaaBoth
import Derived.Laws.BytesArg
namespace Go.Proofs.Ytbidppeelophhaa
open Go.RowKit

set_option maxHeartbeats 2000000 in
set_option maxRecDepth 100000 in
theorem one_find {w0 w : World} {s : MS} {t : RS} (h : Pair w0 w s t) (hr : Rel s.rs s.next t.all) (k0 a0 n0 m0 v0 : Int) (sa : Option Addr) (sl sc : Nat) (ha0 : 0 ≤ a0) (ha1 : a0 ≤ 18446744073709551615) (hk : (IntKind.u64.wrap k0).tmod 9 = 8) :
    Calls Try.prog 11 #[.pointer (some ⟨s.m, 0, none⟩), .pointer (some ⟨t.m, 0, none⟩), opV k0 a0 n0 m0 v0 sa sl sc] w (OnePost w0 s t) := by
  have hP := h.still ((Touch.refl [] w).alloc (.cells #[.int .i64 k0, .int .u64 a0, .int .i64 n0, .int .i64 m0, .int .u64 v0, .slice sa sl sc] 33))
  have H1 := toHid (find_any hP.mem a0 ha0 ha1)
  have H2 := fun k => toHid (of_any (hP.still ((Touch.refl [] _).drewN k)).ref a0 ha0 ha1)
  have HP := toHid hP
  have HR := toHid hr
  cases hf : findR s.rs a0 with
  | none =>
    rw [hf] at H1
    have ho := hr.findNone hf
    unfold ofV at H2
    rw [ho] at H2
    clear hP hr h hf ho
    simp only [opV] at *
    go_enter Try.func11, Try.ntmps11
    go_wp2_with fail
    refine H1.out.mono ?_
    rintro e w2 ⟨rfl, k2, rfl⟩
    have H3 := H2 k2
    clear H1 H2
    go_wp2_with fail
    refine H3.out.mono ?_
    rintro e w3 ⟨rfl, ht3⟩
    have HP3 := toHid (HP.out.still (((Touch.refl [] _).drewN k2).trans ht3 (by simp)))
    clear H3 ht3 HP
    go_wp2
    go_ret
    exact OnePost.same HP3.out HR.out
  | some r =>
    rw [hf] at H1
    obtain ⟨i, x, ho, hx, hid, htw⟩ := hr.findSome hP.mem.sorted hf
    unfold ofV at H2
    rw [ho] at H2
    have hgx : (t.all.getD i RReg.zero).base = r.base := by
      rw [List.getD_eq_getElem?_getD, hx]
      exact htw.base
    have hi0 : (0 : Int) ≤ i := by omega
    simp only at H1 H2
    rw [hgx] at H2
    rw [hid] at H1
    clear hP hr h hf ho hx htw hgx hid
    simp only [opV] at *
    go_enter Try.func11, Try.ntmps11
    go_wp2_with fail
    refine H1.out.mono ?_
    rintro e w2 ⟨rfl, k2, rfl⟩
    have H3 := H2 k2
    clear H1 H2
    go_wp2_with fail
    refine H3.out.mono ?_
    rintro e w3 ⟨rfl, ht3⟩
    have HP3 := toHid (HP.out.still (((Touch.refl [] _).drewN k2).trans ht3 (by simp)))
    clear H3 ht3 HP
    go_wp2
    go_ret
    exact OnePost.same HP3.out HR.out

/-- Both Adds answer alike, and what is behind them. -/
theorem add_fin {w0 w w2 w3 : World} {s s2 : MS} {t t3 : RS} {base size perm : Int} (hm : MemAt w s) (hr : Rel s.rs s.next t.all) (ht : t.all.length < 1000) (hP : Pair w0 w2 s2 t) (hs : s2.m = s.m)
    (hbad : addE s.rs base size perm ≠ 0 → s2 = s) (hgood : addE s.rs base size perm = 0 → s2.next = s.next + 1 ∧ ∃ i r, i ≤ s.rs.length ∧ s2.rs = s.rs.take i ++ r :: s.rs.drop i ∧ NewReg r s.next base size perm)
    (hR3 : RefAt w3 t3) (ht3 : Touch t.blocks w2 w3) (hm3 : t3.m = t.m) (hb3 : ∀ x ∈ t3.blocks, x ∈ t.blocks ∨ w2.heap.size ≤ x) (hbad3 : raddE t.all base size perm ≠ 0 → t3.all = t.all)
    (hgood3 : raddE t.all base size perm = 0 → ∃ r, t3.all = t.all ++ [r] ∧ r.live = true ∧ r.base = base ∧ r.perm = perm ∧ r.bytes = List.replicate size.toNat 0 ∧ r.set = List.replicate size.toNat (decide (perm < 4))) :
    raddE t.all base size perm = addE s.rs base size perm ∧ (if raddE t.all base size perm = 0 then (t.all.length : Int) else 0) = (if addE s.rs base size perm = 0 then (s.next : Int) else 0) ∧ OnePost w0 s t (.returned (.bool true)) w3 := by
  have hc := hr.count hm.ids
  have hlv : liveN t.all ≤ t.all.length := by unfold liveN; exact List.length_filter_le _ _
  have hE := hr.addE (by omega) base size perm
  refine ⟨hE, by rw [hE, hr.len], rfl, s2, t3, hP.goR hR3 ht3 hb3, ?_, hs, hm3, ?_⟩
  · by_cases h0 : addE s.rs base size perm = 0
    · obtain ⟨hn, i, r, _, hrs, hnew⟩ := hgood h0
      obtain ⟨x, hx, hl, hxb, hxp, hxby, hxs⟩ := hgood3 (hE.trans h0)
      rw [hn, hrs, hx]
      refine hr.add hnew.hid (Twin.new hnew (hP.mem.ok r (by rw [hrs]; simp)) hl hxb hxp hxby hxs)
    · rw [hbad h0, hbad3 (by rw [hE]; exact h0)]
      exact hr
  · by_cases h0 : raddE t.all base size perm = 0
    · obtain ⟨x, hx, _⟩ := hgood3 h0
      rw [hx]
      simp
    · rw [hbad3 h0]
      omega

set_option maxHeartbeats 2000000 in
set_option maxRecDepth 100000 in
theorem one_add {w0 w : World} {s : MS} {t : RS} (h : Pair w0 w s t) (hr : Rel s.rs s.next t.all) (ht : t.all.length < 1000) (k0 a0 n0 m0 v0 : Int) (sa : Option Addr) (sl sc : Nat) (ha0 : 0 ≤ a0) (ha1 : a0 ≤ 18446744073709551615) (hk : (IntKind.u64.wrap k0).tmod 9 = 0) :
    Calls Try.prog 11 #[.pointer (some ⟨s.m, 0, none⟩), .pointer (some ⟨t.m, 0, none⟩), opV k0 a0 n0 m0 v0 sa sl sc] w (OnePost w0 s t) := by
  by_cases hz : 4096 < n0
  · have hP := h.still ((Touch.refl [] w).alloc (.cells #[.int .i64 k0, .int .u64 a0, .int .i64 (n0 % 4096 + 65000), .int .i64 m0, .int .u64 v0, .slice sa sl sc] 33))
    have hB := Blk.newA w #[.int .i64 k0, .int .u64 a0, .int .i64 (n0 % 4096 + 65000), .int .i64 m0, .int .u64 v0, .slice sa sl sc] _ 33 rfl
    have H1 := toHid (add_any hP.mem a0 (n0 % 4096 + 65000) m0 ha0 ha1 (by rw [hr.len]; omega))
    have hns : w.heap.size ∉ s.blocks := fun hx => by have := h.mem.lt _ hx; omega
    have HX := toHid (And.intro hP (And.intro hr (And.intro hB hns)))
    clear hP hr h hB hns
    simp only [opV]
    go_enter Try.func11, Try.ntmps11
    go_wp2_with fail
    refine H1.out.mono ?_
    rintro e w2 ⟨rfl, ht2, s2, hM2, hO2, hbad, hgood⟩
    have hP2 := HX.out.1.goM hM2 ht2 hO2.2
    have hB2 := ht2.blk HX.out.2.2.1 HX.out.2.2.2
    have c1 : w2.cell? ⟨w.heap.size, 1, none⟩ = some _ := hB2.cell rfl
    have c2 : w2.cell? ⟨w.heap.size, 2, none⟩ = some _ := hB2.cell rfl
    have c3 : w2.cell? ⟨w.heap.size, 3, none⟩ = some _ := hB2.cell rfl
    have H2 := toHid (radd_any hP2.ref a0 (n0 % 4096 + 65000) m0 ha0 ha1 ht)
    generalize hq : (if addE s.rs a0 (n0 % 4096 + 65000) m0 = 0 then (s.next : Int) else 0) = q
    have HQ := toHid hq
    clear hq
    have HY := toHid (And.intro hP2 (And.intro hO2.1 (And.intro hbad hgood)))
    clear hP2 hB2 hO2 hbad hgood hM2 ht2 H1
    go_wp2_with fail
    refine H2.out.mono ?_
    rintro e w3 ⟨rfl, ht3, t3, hR3, hm3, hb3, hbad3, hgood3⟩
    obtain ⟨hE, hid, hpost⟩ := add_fin HX.out.1.mem HX.out.2.1 ht HY.out.1 HY.out.2.1 HY.out.2.2.1 HY.out.2.2.2 hR3 ht3 hm3 hb3 hbad3 hgood3
    rw [hid, hE, HQ.out]
    have HF := toHid hpost
    clear hE hid hpost hR3 ht3 hm3 hb3 hbad3 hgood3 HX HY H2
    go_wp2
    go_ret
    exact HF.out
  · have hP := h.still ((Touch.refl [] w).alloc (.cells #[.int .i64 k0, .int .u64 a0, .int .i64 (n0), .int .i64 m0, .int .u64 v0, .slice sa sl sc] 33))
    have hB := Blk.newA w #[.int .i64 k0, .int .u64 a0, .int .i64 (n0), .int .i64 m0, .int .u64 v0, .slice sa sl sc] _ 33 rfl
    have H1 := toHid (add_any hP.mem a0 (n0) m0 ha0 ha1 (by rw [hr.len]; omega))
    have hns : w.heap.size ∉ s.blocks := fun hx => by have := h.mem.lt _ hx; omega
    have HX := toHid (And.intro hP (And.intro hr (And.intro hB hns)))
    clear hP hr h hB hns
    simp only [opV]
    go_enter Try.func11, Try.ntmps11
    go_wp2_with fail
    refine H1.out.mono ?_
    rintro e w2 ⟨rfl, ht2, s2, hM2, hO2, hbad, hgood⟩
    have hP2 := HX.out.1.goM hM2 ht2 hO2.2
    have hB2 := ht2.blk HX.out.2.2.1 HX.out.2.2.2
    have c1 : w2.cell? ⟨w.heap.size, 1, none⟩ = some _ := hB2.cell rfl
    have c2 : w2.cell? ⟨w.heap.size, 2, none⟩ = some _ := hB2.cell rfl
    have c3 : w2.cell? ⟨w.heap.size, 3, none⟩ = some _ := hB2.cell rfl
    have H2 := toHid (radd_any hP2.ref a0 (n0) m0 ha0 ha1 ht)
    generalize hq : (if addE s.rs a0 (n0) m0 = 0 then (s.next : Int) else 0) = q
    have HQ := toHid hq
    clear hq
    have HY := toHid (And.intro hP2 (And.intro hO2.1 (And.intro hbad hgood)))
    clear hP2 hB2 hO2 hbad hgood hM2 ht2 H1
    go_wp2_with fail
    refine H2.out.mono ?_
    rintro e w3 ⟨rfl, ht3, t3, hR3, hm3, hb3, hbad3, hgood3⟩
    obtain ⟨hE, hid, hpost⟩ := add_fin HX.out.1.mem HX.out.2.1 ht HY.out.1 HY.out.2.1 HY.out.2.2.1 HY.out.2.2.2 hR3 ht3 hm3 hb3 hbad3 hgood3
    rw [hid, hE, HQ.out]
    have HF := toHid hpost
    clear hE hid hpost hR3 ht3 hm3 hb3 hbad3 hgood3 HX HY H2
    go_wp2
    go_ret
    exact HF.out
end Go.Proofs.Ytbidppeelophhaa
