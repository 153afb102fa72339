/-
  The program's index and the document's own, side by side; one: a call of both.
-/
import Derived.Test.YtlkppkgfnmlblaaRNewK
import Derived.Test.YtlkppkgfnmlblaaLKeys
import Derived.Test.YtlkppkgfnmlblaaLTied
namespace Go.Proofs.Ytlkppkgfnmlblaa
open Go.RowKit Go.Maps

/-- Both indexes lie in the world, in blocks that came behind w0, and hold the same keys. -/
structure LPair (w0 w : World) (x : LX) (t : RX) : Prop where
  idx : LAt w x
  ref : RAt w t
  up : RUp t
  tied : Tied x.l x.ord t.p
  size : t.size = x.size
  apart : ∀ y ∈ x.own, y ∉ t.blocks
  own : ∀ y ∈ x.own, w0.heap.size ≤ y
  own' : ∀ b ∈ t.blocks, w0.heap.size ≤ b
  touch : Touch [] w0 w
theorem LPair.still {w0 w w' : World} {x : LX} {t : RX} (h : LPair w0 w x t) (ht : Touch [] w w') : LPair w0 w' x t :=
  ⟨h.idx.still ht, h.ref.touch ht (by simp), h.up, h.tied, h.size, h.apart, h.own, h.own', h.touch.trans ht (by simp)⟩
theorem LPair.kind {w0 w : World} {x : LX} {t : RX} (h : LPair w0 w x t) : t.kind = 2 := h.tied.kind
theorem LPair.len {w0 w : World} {x : LX} {t : RX} (h : LPair w0 w x t) : t.slots.length = x.l.length := by
  rw [← h.tied.slots]
  simp [RX.p]
theorem LPair.keysOf {w0 w : World} {x : LX} {t : RX} (h : LPair w0 w x t) : keysOf t.slots = keysP x.l := by
  rw [keysOf_p, ← h.tied.slots]
  rfl
theorem LPair.refB {w0 w w2 : World} {x : LX} {t : RX} (h : LPair w0 w x t) (ht : Touch x.own w w2) : RAt w2 t := h.ref.touch ht (fun b hb hx => h.apart b hx hb)
theorem LPair.keyB {w0 w w2 : World} {x : LX} {t : RX} (h : LPair w0 w x t) (ht : Touch x.own w w2) : Touch [] w0 w2 := h.touch.trans ht (fun y hy => Or.inr (h.own y hy))
/-- A call of both. -/
theorem LPair.both {w0 w w2 w3 : World} {x : LX} {t t' : RX} {q : PX} {l : List (Option (List Int))} {ord : List Nat} (h : LPair w0 w x t) (hs : LStep w x l ord w2) (st : Step w2 w3 t t' q)
    (ht : Tied l ord q) (hz : q.size = t.size) (hc0 : t.clock ≤ q.clock) (hc1 : q.clock ≤ 1000000000) : ∃ g cap, LPair w0 w3 { x with l := l, g := g, cap := cap, ord := ord } t' := by
  obtain ⟨g, cap, hA, ht2, hg⟩ := hs
  have hp := st.p
  have e2 : t'.size = q.size := by rw [← hp]; rfl
  have e3 : t'.clock = q.clock := by rw [← hp]; rfl
  have hlt := hA.lt
  have hsz := ht2.size
  have hw0 := h.touch.size
  have hown : ∀ y ∈ ({ x with l := l, g := g, cap := cap, ord := ord } : LX).own, y ∈ x.own ∨ w.heap.size ≤ y := fun y hy => by
    simp only [LX.own, List.mem_cons, Option.mem_toList] at hy
    rcases hy with rfl | rfl | hy
    · exact Or.inl x.mem_X
    · exact Or.inl x.mem_b
    · exact hg y hy
  have hap : ∀ y ∈ ({ x with l := l, g := g, cap := cap, ord := ord } : LX).own, y ∉ t.blocks := fun y hy hx => by
    rcases hown y hy with h1 | h1
    · exact h.apart y h1 hx
    · have := h.ref.lt y hx
      omega
  refine ⟨g, cap, hA.touch st.touch (fun y hy hx => hap y hy (RX.mem_top hx)), st.at_, ⟨?_, ?_, ?_, ?_⟩, by rw [hp]; exact ht, by rw [e2, hz]; exact h.size, fun y hy hx => ?_, fun y hy => ?_, fun b hb => ?_, ?_⟩
  · rw [st.lens, st.slots]; exact h.up.lens
  · rw [st.slots]; exact h.up.many
  · rw [e3]; have := h.up.clock0; omega
  · rw [e3]; exact hc1
  · rcases st.blocks _ hx with hx | hx
    · exact hap y hy hx
    · have := hlt y hy
      omega
  · rcases hown y hy with h1 | h1
    · exact h.own y h1
    · omega
  · rcases st.blocks _ hb with hb | hb
    · exact h.own' b hb
    · omega
  · exact (h.keyB ht2).trans st.touch (fun y hy => Or.inr (h.own' y (RX.mem_top hy)))

theorem Step.clock {w w' : World} {t t' : RX} {q : PX} (st : Step w w' t t' q) : t'.clock = q.clock := by rw [← st.p]; rfl
/-- What 'one' answers. -/
def OnePost (w0 : World) (x : LX) (t : RX) (e : Ending) (w' : World) : Prop := e = .returned (.bool true) ∧ ∃ x' t', LPair w0 w' x' t' ∧ x'.X = x.X ∧ t'.r = t.r ∧ t'.clock ≤ t.clock + 1

set_option maxHeartbeats 2000000 in
set_option maxRecDepth 100000 in
theorem one_find {w0 w : World} {x : LX} {t : RX} (h : LPair w0 w x t) (hc : t.clock < 1000000000) (o : OpC) (ok : o.Ok w0) (hk : (IntKind.u64.wrap o.k).tmod 4 = 0) :
    Calls Try.prog 10 #[.pointer (some ⟨x.X, 0, none⟩), .pointer (some ⟨t.r, 0, none⟩), opV o] w (OnePost w0 x t) := by
  have hta := (Touch.refl [] w).alloc (.cells #[.int .i64 o.k, .slice o.sa o.sl o.sc, .int .u64 o.fl] 35)
  have hP := h.still hta
  have hkey := ok.key.touch hP.touch
  have hcv := hkey.conv o.sc
  have H1 := toHid (lfind_any hP.idx hP.tied.ok hkey o.sc)
  have hB := Blk.newA w #[.int .i64 o.k, .slice o.sa o.sl o.sc, .int .u64 o.fl] _ 35 rfl
  have HP := toHid (And.intro hP (And.intro ok hB))
  have HC := toHid hc
  have HX : Hid (w.heap.size ∉ t.top ∧ w.heap.size ∉ x.own) := ⟨fun hx => by
    have := h.ref.lt _ (RX.mem_top hx)
    omega, fun hx => by
    have := h.idx.lt _ hx
    omega⟩
  have HPF := toHid (hP.tied.find hP.size o.bs)
  generalize hpr : x.find o.bs = pr at *
  clear h hP hkey ok hta hB hc hpr
  unfold opV
  generalize hA : strOfNums o.bs = A at *
  have HAA := toHid hA
  clear hA
  obtain ⟨fo, oo⟩ := pr
  go_enter Try.func10, Try.ntmps10
  go_wp2_with fail
  refine Calls.mono H1.out ?_
  rintro e w2 ⟨rfl, hS2⟩
  have ht2 : Touch x.own _ w2 := hS2.choose_spec.choose_spec.2.1
  have hb2 := ht2.blk HP.out.2.2 HX.out.2
  have c1 := hb2.cell (i := 1) rfl
  have H2 := toHid (rfindP_any (HP.out.1.refB ht2) HP.out.1.up (by rw [HP.out.1.kind]; decide) (HP.out.2.1.key.touch (HP.out.1.keyB ht2)) o.sc)
  have HP2 := toHid (And.intro hS2 (And.intro ht2 hb2))
  generalize hqr : t.p.find o.bs = qr at *
  obtain ⟨fq, q⟩ := qr
  have hpf : fq = fo := HPF.out.1
  subst hpf
  unfold foundV
  clear ht2 hS2 hb2 H1 hcv hqr
  cases fq with
  | none =>
    unfold idx0 Option.isSome
    go_wp2_with fail
    refine Calls.mono H2.out ?_
    rintro e w3 ⟨rfl, t', st⟩
    unfold idxI
    obtain ⟨g', cap', hP3⟩ := HP.out.1.both HP2.out.1 st HPF.out.2.1 HPF.out.2.2.1 HPF.out.2.2.2.1 (by have := HPF.out.2.2.2.2; have := HC.out; have e : t.p.clock = t.clock := rfl; show q.clock ≤ 1000000000; omega)
    have hb3 := st.touch.blk HP2.out.2.2 HX.out.1
    have d1 := hb3.cell (i := 1) rfl
    have hcv3 := (HP.out.2.1.key.touch hP3.touch).conv o.sc
    rw [HAA.out] at hcv3
    have HF : Hid (∃ x' t', LPair w0 w3 x' t' ∧ x'.X = x.X ∧ t'.r = t.r ∧ t'.clock ≤ t.clock + 1) := ⟨_, t', hP3, rfl, st.r, by rw [st.clock]; exact HPF.out.2.2.2.2⟩
    clear hP3 hb3 st H2 HP2 HPF c1
    go_wp2
    go_ret
    exact ⟨rfl, HF.out⟩
  | some i =>
    unfold idx0 Option.isSome
    go_wp2_with fail
    refine Calls.mono H2.out ?_
    rintro e w3 ⟨rfl, t', st⟩
    unfold idxI
    obtain ⟨g', cap', hP3⟩ := HP.out.1.both HP2.out.1 st HPF.out.2.1 HPF.out.2.2.1 HPF.out.2.2.2.1 (by have := HPF.out.2.2.2.2; have := HC.out; have e : t.p.clock = t.clock := rfl; show q.clock ≤ 1000000000; omega)
    have hb3 := st.touch.blk HP2.out.2.2 HX.out.1
    have d1 := hb3.cell (i := 1) rfl
    have hcv3 := (HP.out.2.1.key.touch hP3.touch).conv o.sc
    rw [HAA.out] at hcv3
    have HF : Hid (∃ x' t', LPair w0 w3 x' t' ∧ x'.X = x.X ∧ t'.r = t.r ∧ t'.clock ≤ t.clock + 1) := ⟨_, t', hP3, rfl, st.r, by rw [st.clock]; exact HPF.out.2.2.2.2⟩
    clear hP3 hb3 st H2 HP2 HPF c1
    go_wp2
    go_ret
    exact ⟨rfl, HF.out⟩

set_option maxHeartbeats 2000000 in
set_option maxRecDepth 100000 in
theorem one_put {w0 w : World} {x : LX} {t : RX} (h : LPair w0 w x t) (hc : t.clock < 1000000000) (o : OpC) (ok : o.Ok w0) (hk : (IntKind.u64.wrap o.k).tmod 4 = 1) :
    Calls Try.prog 10 #[.pointer (some ⟨x.X, 0, none⟩), .pointer (some ⟨t.r, 0, none⟩), opV o] w (OnePost w0 x t) := by
  have hta := (Touch.refl [] w).alloc (.cells #[.int .i64 o.k, .slice o.sa o.sl o.sc, .int .u64 o.fl] 35)
  have hP := h.still hta
  have hkey := ok.key.touch hP.touch
  have hcv := hkey.conv o.sc
  have H1 := toHid (lput_any hP.idx hP.tied.ok (fun w' ht => ok.key.touch (hP.keyB ht)) o.sc o.fl ok.f0)
  have hB := Blk.newA w #[.int .i64 o.k, .slice o.sa o.sl o.sc, .int .u64 o.fl] _ 35 rfl
  have HP := toHid (And.intro hP (And.intro ok hB))
  have HC := toHid hc
  have HX : Hid (w.heap.size ∉ t.top ∧ w.heap.size ∉ x.own) := ⟨fun hx => by
    have := h.ref.lt _ (RX.mem_top hx)
    omega, fun hx => by
    have := h.idx.lt _ hx
    omega⟩
  have HPF := toHid (hP.tied.put hP.size hP.idx.m1 o.bs o.fl)
  generalize hpr : x.put o.bs o.fl = pr at *
  clear h hP hkey ok hta hB hc hpr
  unfold opV
  generalize hA : strOfNums o.bs = A at *
  have HAA := toHid hA
  clear hA
  go_enter Try.func10, Try.ntmps10
  go_wp2_with fail
  refine Calls.mono H1.out ?_
  rintro e w2 ⟨rfl, hS2⟩
  have ht2 : Touch x.own _ w2 := hS2.choose_spec.choose_spec.2.1
  have hb2 := ht2.blk HP.out.2.2 HX.out.2
  have c1 := hb2.cell (i := 1) rfl
  have c2 := hb2.cell (i := 2) rfl
  have H2 := toHid (rput_any (HP.out.1.refB ht2) HP.out.1.up (by rw [HP.out.1.kind]; decide) (by rw [HP.out.1.size]; have := HP.out.1.idx.map.s1; omega) (by rw [HP.out.1.size]; have := HP.out.1.idx.map.s16; omega) (by rw [HP.out.1.len]; exact HP.out.1.idx.m1) (HP.out.2.1.key.touch (HP.out.1.keyB ht2)) o.sc o.fl HP.out.2.1.f0)
  have HP2 := toHid (And.intro hS2 (And.intro ht2 hb2))
  generalize hqr : t.p.put o.bs o.fl = qr at *
  obtain ⟨⟨s, fr, er⟩, q⟩ := qr
  obtain ⟨⟨s', fr', er'⟩, l, ord⟩ := pr
  have hpf := HPF.out.1
  simp only [Prod.mk.injEq] at hpf
  obtain ⟨rfl, rfl, rfl⟩ := hpf
  clear ht2 hS2 hb2 H1 hcv hqr
  go_wp2_with fail
  refine Calls.mono H2.out ?_
  rintro e w3 ⟨rfl, t', st⟩
  obtain ⟨g', cap', hP3⟩ := HP.out.1.both HP2.out.1 st HPF.out.2.1 HPF.out.2.2.1 HPF.out.2.2.2.1 (by have := HPF.out.2.2.2.2; have := HC.out; have e : t.p.clock = t.clock := rfl; show q.clock ≤ 1000000000; omega)
  have hb3 := st.touch.blk HP2.out.2.2 HX.out.1
  have d1 := hb3.cell (i := 1) rfl
  have hcv3 := (HP.out.2.1.key.touch hP3.touch).conv o.sc
  rw [HAA.out] at hcv3
  have HF : Hid (∃ x' t', LPair w0 w3 x' t' ∧ x'.X = x.X ∧ t'.r = t.r ∧ t'.clock ≤ t.clock + 1) := ⟨_, t', hP3, rfl, st.r, by rw [st.clock]; exact HPF.out.2.2.2.2⟩
  clear hP3 hb3 st H2 HP2 HPF c1 c2
  go_wp2
  go_ret
  exact ⟨rfl, HF.out⟩

set_option maxHeartbeats 2000000 in
set_option maxRecDepth 100000 in
theorem one_del {w0 w : World} {x : LX} {t : RX} (h : LPair w0 w x t) (hc : t.clock < 1000000000) (o : OpC) (ok : o.Ok w0) (hk : (IntKind.u64.wrap o.k).tmod 4 = 2) :
    Calls Try.prog 10 #[.pointer (some ⟨x.X, 0, none⟩), .pointer (some ⟨t.r, 0, none⟩), opV o] w (OnePost w0 x t) := by
  have hta := (Touch.refl [] w).alloc (.cells #[.int .i64 o.k, .slice o.sa o.sl o.sc, .int .u64 o.fl] 35)
  have hP := h.still hta
  have hkey := ok.key.touch hP.touch
  have hcv := hkey.conv o.sc
  have H1 := toHid (ldel_any hP.idx hkey o.sc)
  have hB := Blk.newA w #[.int .i64 o.k, .slice o.sa o.sl o.sc, .int .u64 o.fl] _ 35 rfl
  have HP := toHid (And.intro hP (And.intro ok hB))
  have HC := toHid hc
  have HX : Hid (w.heap.size ∉ t.top ∧ w.heap.size ∉ x.own) := ⟨fun hx => by
    have := h.ref.lt _ (RX.mem_top hx)
    omega, fun hx => by
    have := h.idx.lt _ hx
    omega⟩
  have HPF := toHid (hP.tied.del hP.size o.bs)
  generalize hpr : x.del o.bs = pr at *
  clear h hP hkey ok hta hB hc hpr
  unfold opV
  generalize hA : strOfNums o.bs = A at *
  have HAA := toHid hA
  clear hA
  go_enter Try.func10, Try.ntmps10
  go_wp2_with fail
  refine Calls.mono H1.out ?_
  rintro e w2 ⟨rfl, hS2⟩
  have ht2 : Touch x.own _ w2 := hS2.choose_spec.choose_spec.2.1
  have hb2 := ht2.blk HP.out.2.2 HX.out.2
  have c1 := hb2.cell (i := 1) rfl
  have c2 := hb2.cell (i := 2) rfl
  have H2 := toHid (rdel_any (HP.out.1.refB ht2) HP.out.1.up (by rw [HP.out.1.kind]; decide) (HP.out.2.1.key.touch (HP.out.1.keyB ht2)) o.sc)
  have HP2 := toHid (And.intro hS2 (And.intro ht2 hb2))
  generalize hqr : t.p.del o.bs = qr at *
  obtain ⟨⟨s, er⟩, q⟩ := qr
  obtain ⟨⟨s', er'⟩, l, ord⟩ := pr
  have hpf := HPF.out.1
  simp only [Prod.mk.injEq] at hpf
  obtain ⟨rfl, rfl⟩ := hpf
  clear ht2 hS2 hb2 H1 hcv hqr
  go_wp2_with fail
  refine Calls.mono H2.out ?_
  rintro e w3 ⟨rfl, t', st⟩
  obtain ⟨g', cap', hP3⟩ := HP.out.1.both HP2.out.1 st HPF.out.2.1 HPF.out.2.2.1 HPF.out.2.2.2.1 (by have := HPF.out.2.2.2.2; have := HC.out; have e : t.p.clock = t.clock := rfl; show q.clock ≤ 1000000000; omega)
  have hb3 := st.touch.blk HP2.out.2.2 HX.out.1
  have d1 := hb3.cell (i := 1) rfl
  have hcv3 := (HP.out.2.1.key.touch hP3.touch).conv o.sc
  rw [HAA.out] at hcv3
  have HF : Hid (∃ x' t', LPair w0 w3 x' t' ∧ x'.X = x.X ∧ t'.r = t.r ∧ t'.clock ≤ t.clock + 1) := ⟨_, t', hP3, rfl, st.r, by rw [st.clock]; exact HPF.out.2.2.2.2⟩
  clear hP3 hb3 st H2 HP2 HPF c1 c2
  go_wp2
  go_ret
  exact ⟨rfl, HF.out⟩

set_option maxHeartbeats 2000000 in
set_option maxRecDepth 100000 in
theorem one_keys {w0 w : World} {x : LX} {t : RX} (h : LPair w0 w x t) (o : OpC) (ok : o.Ok w0) (hk : (IntKind.u64.wrap o.k).tmod 4 = 3) :
    Calls Try.prog 10 #[.pointer (some ⟨x.X, 0, none⟩), .pointer (some ⟨t.r, 0, none⟩), opV o] w (OnePost w0 x t) := by
  have hta := (Touch.refl [] w).alloc (.cells #[.int .i64 o.k, .slice o.sa o.sl o.sc, .int .u64 o.fl] 35)
  have hP := h.still hta
  have hkey := ok.key.touch hP.touch
  have hcv := hkey.conv o.sc
  have hB := Blk.newA w #[.int .i64 o.k, .slice o.sa o.sl o.sc, .int .u64 o.fl] _ 35 rfl
  have H1 := toHid (lkeys_any hP.idx)
  have HP := toHid (And.intro hP (And.intro ok hB))
  have hm : (keysP x.l).length ≤ 1000 := by have := h.idx.map.many; have := held_le x.l; unfold keysP; omega
  clear h hP hkey ok hta hB
  unfold opV
  generalize hA : strOfNums o.bs = A at *
  have HAA := toHid hA
  have HM := toHid hm
  clear hA hm
  go_enter Try.func10, Try.ntmps10
  go_wp2_with fail
  refine Calls.mono H1.out ?_
  rintro e w2 ⟨⟨v, rfl, hK⟩, ht2⟩
  have hP2 := HP.out.1.still ht2
  have H2 := toHid (rkeys_any hP2.ref (by have := hP2.up.many; omega))
  rw [hP2.keysOf] at H2
  have HK := toHid (And.intro hK (And.intro ht2 hP2))
  clear hK ht2 hP2 H1
  go_wp2_with fail
  refine Calls.mono H2.out ?_
  rintro e w3 ⟨⟨v2, rfl, hK2⟩, ht3⟩
  have H3 := toHid (sameKeys_any (HK.out.1.touch ht3 (by simp)) hK2 HM.out)
  have HT3 := toHid ht3
  clear hK2 ht3 H2
  go_wp2_with fail
  refine Calls.mono H3.out ?_
  rintro e w4 ⟨rfl, ht4⟩
  have hP4 := (HK.out.2.2.still HT3.out).still ht4
  have hb4 := ht4.blk (HT3.out.blk (HK.out.2.1.blk HP.out.2.2 (by simp)) (by simp)) (by simp)
  have d1 := hb4.cell (i := 1) rfl
  have hcv3 := (HP.out.2.1.key.touch hP4.touch).conv o.sc
  rw [HAA.out] at hcv3
  have HF : Hid (LPair w0 w4 x t) := hP4
  clear hP4 hb4 ht4 H3 HT3 HK HP hcv
  go_wp2
  go_ret
  exact ⟨rfl, x, t, HF.out, rfl, rfl, by omega⟩

theorem one_any {w0 w : World} {x : LX} {t : RX} (h : LPair w0 w x t) (hc : t.clock < 1000000000) (o : OpC) (ok : o.Ok w0) :
    Calls Try.prog 10 #[.pointer (some ⟨x.X, 0, none⟩), .pointer (some ⟨t.r, 0, none⟩), opV o] w (OnePost w0 x t) := by
  obtain ⟨q, hq, hk⟩ := kind4 o.k
  have : q = 0 ∨ q = 1 ∨ q = 2 ∨ q = 3 := by omega
  rcases this with rfl | rfl | rfl | rfl
  · exact one_find h hc o ok hk
  · exact one_put h hc o ok hk
  · exact one_del h hc o ok hk
  · exact one_keys h o ok hk
end Go.Proofs.Ytlkppkgfnmlblaa
