/-
  The hash and the document's own, side by side; one: a call of both.
-/
import Derived.Test.YtalmgjahfhdlbaaRNewK
import Derived.Test.YtalmgjahfhdlbaaFirst
namespace Go.Proofs.Ytalmgjahfhdlbaa
open Go.RowKit Go.Maps

/-- Both indexes lie in the world, in blocks that came behind w0, and hold the same keys. -/
structure Pair (w0 w : World) (x : HX) (t : RX) : Prop where
  idx : HAt w x
  ref : RAt w t
  up : RUp t
  kind : t.kind = 1
  size : t.size = x.size
  keys : t.p.slots = x.l
  apart : x.X ∉ t.blocks
  apartB : x.b ∉ t.blocks
  own : w0.heap.size ≤ x.X
  ownB : w0.heap.size ≤ x.b
  own' : ∀ b ∈ t.blocks, w0.heap.size ≤ b
  touch : Touch [] w0 w
theorem Pair.still {w0 w w' : World} {x : HX} {t : RX} (h : Pair w0 w x t) (ht : Touch [] w w') : Pair w0 w' x t :=
  ⟨h.idx.touch ht (by simp) (by simp), h.ref.touch ht (by simp), h.up, h.kind, h.size, h.keys, h.apart, h.apartB, h.own, h.ownB, h.own', h.touch.trans ht (by simp)⟩
theorem Pair.len {w0 w : World} {x : HX} {t : RX} (h : Pair w0 w x t) : t.slots.length = x.l.length := by
  rw [← h.keys]
  simp [RX.p]
theorem Pair.keysOf {w0 w : World} {x : HX} {t : RX} (h : Pair w0 w x t) : keysOf t.slots = keysP x.l := by
  rw [keysOf_p, ← h.keys]
  rfl
/-- A call of both. -/
theorem Pair.both {w0 w w2 w3 : World} {x : HX} {t t' : RX} {q : PX} {l : List (Option (List Int))} (h : Pair w0 w x t) (hA : HAt w2 (x.with l)) (ht2 : Touch [x.b] w w2) (st : Step w2 w3 t t' q)
    (hk : q.kind = t.kind) (hs : q.size = t.size) (hl : q.slots = l) (hc0 : t.clock ≤ q.clock) (hc1 : q.clock ≤ 1000000000) : Pair w0 w3 (x.with l) t' := by
  have hp := st.p
  have e1 : t'.kind = q.kind := by rw [← hp]; rfl
  have e2 : t'.size = q.size := by rw [← hp]; rfl
  have e3 : t'.clock = q.clock := by rw [← hp]; rfl
  have hlt := h.idx.lt
  have hsz := ht2.size
  refine ⟨hA.touch st.touch (fun hx => h.apart (RX.mem_top hx)) (fun hx => h.apartB (RX.mem_top hx)), st.at_, ⟨?_, ?_, ?_, ?_⟩, by rw [e1, hk]; exact h.kind, by rw [e2, hs]; exact h.size, by rw [hp]; exact hl, fun hx => ?_, fun hx => ?_, h.own, h.ownB, fun b hb => ?_, ?_⟩
  · rw [st.lens, st.slots]; exact h.up.lens
  · rw [st.slots]; exact h.up.many
  · rw [e3]; have := h.up.clock0; omega
  · rw [e3]; exact hc1
  · rcases st.blocks _ hx with hx | hx
    · exact h.apart hx
    · have : w2.heap.size ≤ x.X := hx
      omega
  · rcases st.blocks _ hx with hx | hx
    · exact h.apartB hx
    · have : w2.heap.size ≤ x.b := hx
      omega
  · rcases st.blocks _ hb with hb | hb
    · exact h.own' b hb
    · have := h.touch.size
      omega
  · exact (h.touch.trans ht2 (fun y hy => Or.inr (by simp at hy; rw [hy]; exact h.ownB))).trans st.touch (fun y hy => Or.inr (h.own' y (RX.mem_top hy)))

/-- What the document's index answers is what the hash answers. -/
theorem Pair.find {w0 w : World} {x : HX} {t : RX} (h : Pair w0 w x t) (bs : List Int) : (t.p.find bs).1 = x.find bs ∧ (t.p.find bs).2.kind = t.kind ∧ (t.p.find bs).2.size = t.size ∧ (t.p.find bs).2.slots = x.l ∧ t.clock ≤ (t.p.find bs).2.clock ∧ (t.p.find bs).2.clock ≤ t.clock + 1 := by
  unfold PX.find HX.find
  have hs : t.p.size = x.size := h.size
  have hk := h.keys
  by_cases e : bs.length = x.size
  · rw [if_pos e, if_pos (by rw [hs, e]), hk]
    exact ⟨rfl, rfl, rfl, hk, by show t.clock ≤ t.clock + 1; omega, by show t.clock + 1 ≤ t.clock + 1; omega⟩
  · rw [if_neg e, if_neg (by rw [hs]; omega)]
    exact ⟨rfl, rfl, rfl, hk, Int.le_refl _, by show t.clock ≤ t.clock + 1; omega⟩
theorem Pair.put {w0 w : World} {x : HX} {t : RX} (h : Pair w0 w x t) (bs : List Int) (fl : Int) : (t.p.put bs fl).1 = (x.put bs fl).1 ∧ (t.p.put bs fl).2.kind = t.kind ∧ (t.p.put bs fl).2.size = t.size ∧ (t.p.put bs fl).2.slots = (x.put bs fl).2 ∧ t.clock ≤ (t.p.put bs fl).2.clock ∧ (t.p.put bs fl).2.clock ≤ t.clock + 1 := by
  unfold PX.put HX.put
  have hs : t.p.size = x.size := h.size
  have hk := h.keys
  have hkd : t.p.kind = 1 := h.kind
  have hst : t.p.kind = t.kind ∧ t.p.size = t.size ∧ t.p.slots = x.l ∧ t.clock ≤ t.p.clock ∧ t.p.clock ≤ t.clock + 1 := ⟨rfl, rfl, hk, Int.le_refl _, by show t.clock ≤ t.clock + 1; omega⟩
  by_cases e : bs.length = x.size
  · rw [if_pos e, if_pos (by rw [hs, e])]
    by_cases h2 : 2 < fl
    · rw [if_pos h2, if_pos h2]
      exact ⟨by trivial, hst⟩
    · rw [if_neg h2, if_neg h2, hk]
      cases hsm : sameP x.l bs with
      | some i =>
        by_cases h1 : fl = 1
        · simp only [if_pos h1]
          exact ⟨by trivial, hst⟩
        · simp only [if_neg h1]
          exact ⟨by trivial, rfl, rfl, hk, by show t.clock ≤ t.clock + 1; omega, by show t.clock + 1 ≤ t.clock + 1; omega⟩
      | none =>
        have hk0 : ¬ t.p.kind = 0 := by rw [hkd]; decide
        have hk2 : ¬ t.p.kind = 2 := by rw [hkd]; decide
        simp only [if_neg hk0]
        by_cases h1 : fl = 2
        · simp only [if_pos h1]
          exact ⟨by trivial, hst⟩
        · simp only [if_neg h1]
          unfold PX.room
          rw [hk]
          cases hf : freeP x.l with
          | none =>
            simp only [if_neg hk2]
            exact ⟨by trivial, hst⟩
          | some f =>
            refine ⟨rfl, rfl, rfl, ?_, by show t.clock ≤ t.clock + 1; omega, by show t.clock + 1 ≤ t.clock + 1; omega⟩
            show t.p.slots.set f (some bs) = _
            rw [hk]
  · rw [if_neg e, if_neg (by rw [hs]; omega)]
    exact ⟨by trivial, hst⟩
theorem Pair.del {w0 w : World} {x : HX} {t : RX} (h : Pair w0 w x t) (bs : List Int) : (t.p.del bs).1 = (x.del bs).1 ∧ (t.p.del bs).2.kind = t.kind ∧ (t.p.del bs).2.size = t.size ∧ (t.p.del bs).2.slots = (x.del bs).2 ∧ t.clock ≤ (t.p.del bs).2.clock ∧ (t.p.del bs).2.clock ≤ t.clock + 1 := by
  unfold PX.del HX.del
  have hs : t.p.size = x.size := h.size
  have hk := h.keys
  have hkd : t.p.kind = 1 := h.kind
  have hst : t.p.kind = t.kind ∧ t.p.size = t.size ∧ t.p.slots = x.l ∧ t.clock ≤ t.p.clock ∧ t.p.clock ≤ t.clock + 1 := ⟨rfl, rfl, hk, Int.le_refl _, by show t.clock ≤ t.clock + 1; omega⟩
  rw [if_neg (show ¬ t.p.kind = 0 by rw [hkd]; decide)]
  by_cases e : bs.length = x.size
  · rw [if_pos e, if_pos (by rw [hs, e]), hk]
    cases hsm : sameP x.l bs with
    | none => exact ⟨by trivial, hst⟩
    | some i =>
      exact ⟨rfl, rfl, rfl, rfl, Int.le_refl _, by show t.clock ≤ t.clock + 1; omega⟩
  · rw [if_neg e, if_neg (by rw [hs]; omega)]
    exact ⟨by trivial, hst⟩

theorem Step.clock {w w' : World} {t t' : RX} {q : PX} (st : Step w w' t t' q) : t'.clock = q.clock := by rw [← st.p]; rfl
/-- What 'one' answers. -/
def OnePost (w0 : World) (x : HX) (t : RX) (e : Ending) (w' : World) : Prop := e = .returned (.bool true) ∧ ∃ l t', Pair w0 w' (x.with l) t' ∧ t'.r = t.r ∧ t'.clock ≤ t.clock + 1
theorem Pair.refB {w0 w w2 : World} {x : HX} {t : RX} (h : Pair w0 w x t) (ht : Touch [x.b] w w2) : RAt w2 t := h.ref.touch ht (fun b hb hx => h.apartB (by simp at hx; rw [← hx]; exact hb))
theorem Pair.keyB {w0 w w2 : World} {x : HX} {t : RX} (h : Pair w0 w x t) (ht : Touch [x.b] w w2) : Touch [] w0 w2 := h.touch.trans ht (fun y hy => Or.inr (by simp at hy; rw [hy]; exact h.ownB))

set_option maxHeartbeats 2000000 in
set_option maxRecDepth 100000 in
theorem one_find {w0 w : World} {x : HX} {t : RX} (h : Pair w0 w x t) (hc : t.clock < 1000000000) (o : OpC) (ok : o.Ok w0) (hk : (IntKind.u64.wrap o.k).tmod 4 = 0) :
    Calls Try.prog 9 #[.pointer (some ⟨x.X, 0, none⟩), .pointer (some ⟨t.r, 0, none⟩), opV o] w (OnePost w0 x t) := by
  have hta := (Touch.refl [] w).alloc (.cells #[.int .i64 o.k, .slice o.sa o.sl o.sc, .int .u64 o.fl] 35)
  have hP := h.still hta
  have hkey := ok.key.touch hP.touch
  have hcv := hkey.conv o.sc
  have H1 := toHid (find_any hP.idx hkey o.sc)
  have hB := Blk.newA w #[.int .i64 o.k, .slice o.sa o.sl o.sc, .int .u64 o.fl] _ 35 rfl
  have HP := toHid (And.intro hP (And.intro ok hB))
  have HC := toHid hc
  have HX : Hid (w.heap.size ∉ t.top) := fun hx => by
    have := h.ref.lt _ (RX.mem_top hx)
    omega
  clear h hP hkey ok hta hB hc
  unfold opV
  generalize hA : strOfNums o.bs = A at *
  have HAA := toHid hA
  clear hA
  go_enter Try.func9, Try.ntmps9
  go_wp2_with fail
  refine Calls.mono H1.out ?_
  rintro e w2 ⟨rfl, ht2⟩
  have hP2 := HP.out.1.still ht2
  have hb2 := ht2.blk HP.out.2.2 (by simp)
  have c1 := hb2.cell (i := 1) rfl
  have H2 := toHid (rfindP_any hP2.ref hP2.up (by rw [hP2.kind]; decide) (HP.out.2.1.key.touch hP2.touch) o.sc)
  have HP2 := toHid (And.intro hP2 hb2)
  have hpf := hP2.find o.bs
  unfold foundV
  cases hf : x.find o.bs with
  | none =>
    rw [hf] at hpf
    unfold idx0 Option.isSome
    have HPF := toHid hpf
    clear ht2 hP2 hb2 hpf H1 hf hcv
    go_wp2_with fail
    refine Calls.mono H2.out ?_
    rintro e w3 ⟨rfl, t', st⟩
    rw [HPF.out.1]
    unfold idxI
    have hP3 := HP2.out.1.both HP2.out.1.idx (Touch.refl _ _) st HPF.out.2.1 HPF.out.2.2.1 HPF.out.2.2.2.1 HPF.out.2.2.2.2.1 (by have := HPF.out.2.2.2.2.2; have := HC.out; omega)
    have hb3 := st.touch.blk HP2.out.2 HX.out
    have d1 := hb3.cell (i := 1) rfl
    have hcv3 := (HP.out.2.1.key.touch hP3.touch).conv o.sc
    rw [HAA.out] at hcv3
    have HF : Hid (∃ l t', Pair w0 w3 (x.with l) t' ∧ t'.r = t.r ∧ t'.clock ≤ t.clock + 1) := ⟨_, t', hP3, st.r, by rw [st.clock]; exact HPF.out.2.2.2.2.2⟩
    clear hP3 hb3 st H2 HP2 HPF c1
    go_wp2
    go_ret
    exact ⟨rfl, HF.out⟩
  | some i =>
    rw [hf] at hpf
    unfold idx0 Option.isSome
    have HPF := toHid hpf
    clear ht2 hP2 hb2 hpf H1 hf hcv
    go_wp2_with fail
    refine Calls.mono H2.out ?_
    rintro e w3 ⟨rfl, t', st⟩
    rw [HPF.out.1]
    unfold idxI
    have hP3 := HP2.out.1.both HP2.out.1.idx (Touch.refl _ _) st HPF.out.2.1 HPF.out.2.2.1 HPF.out.2.2.2.1 HPF.out.2.2.2.2.1 (by have := HPF.out.2.2.2.2.2; have := HC.out; omega)
    have hb3 := st.touch.blk HP2.out.2 HX.out
    have d1 := hb3.cell (i := 1) rfl
    have hcv3 := (HP.out.2.1.key.touch hP3.touch).conv o.sc
    rw [HAA.out] at hcv3
    have HF : Hid (∃ l t', Pair w0 w3 (x.with l) t' ∧ t'.r = t.r ∧ t'.clock ≤ t.clock + 1) := ⟨_, t', hP3, st.r, by rw [st.clock]; exact HPF.out.2.2.2.2.2⟩
    clear hP3 hb3 st H2 HP2 HPF c1
    go_wp2
    go_ret
    exact ⟨rfl, HF.out⟩

set_option maxHeartbeats 2000000 in
set_option maxRecDepth 100000 in
theorem one_put {w0 w : World} {x : HX} {t : RX} (h : Pair w0 w x t) (hc : t.clock < 1000000000) (o : OpC) (ok : o.Ok w0) (hk : (IntKind.u64.wrap o.k).tmod 4 = 1) :
    Calls Try.prog 9 #[.pointer (some ⟨x.X, 0, none⟩), .pointer (some ⟨t.r, 0, none⟩), opV o] w (OnePost w0 x t) := by
  have hta := (Touch.refl [] w).alloc (.cells #[.int .i64 o.k, .slice o.sa o.sl o.sc, .int .u64 o.fl] 35)
  have hP := h.still hta
  have hkey := ok.key.touch hP.touch
  have hcv := hkey.conv o.sc
  have H1 := toHid (put_any hP.idx hkey o.sc o.fl ok.f0)
  have hB := Blk.newA w #[.int .i64 o.k, .slice o.sa o.sl o.sc, .int .u64 o.fl] _ 35 rfl
  have HP := toHid (And.intro hP (And.intro ok hB))
  have HC := toHid hc
  have HX : Hid (w.heap.size ∉ t.top ∧ w.heap.size ∉ [x.b]) := ⟨fun hx => by
    have := h.ref.lt _ (RX.mem_top hx)
    omega, by
    have := h.idx.lt.2
    simp
    omega⟩
  have HPF := toHid (hP.put o.bs o.fl)
  generalize hpr : x.put o.bs o.fl = pr at *
  clear h hP hkey ok hta hB hc hpr
  unfold opV
  generalize hA : strOfNums o.bs = A at *
  have HAA := toHid hA
  clear hA
  go_enter Try.func9, Try.ntmps9
  go_wp2_with fail
  refine Calls.mono H1.out ?_
  rintro e w2 ⟨rfl, hA2, ht2⟩
  have hb2 := ht2.blk HP.out.2.2 HX.out.2
  have c1 := hb2.cell (i := 1) rfl
  have c2 := hb2.cell (i := 2) rfl
  have H2 := toHid (rput_any (HP.out.1.refB ht2) HP.out.1.up (by rw [HP.out.1.kind]; decide) (by rw [HP.out.1.size]; have := HP.out.1.idx.map.s1; omega) (by rw [HP.out.1.size]; have := HP.out.1.idx.map.s16; omega) (by rw [HP.out.1.len]; exact HP.out.1.idx.m1) (HP.out.2.1.key.touch (HP.out.1.keyB ht2)) o.sc o.fl HP.out.2.1.f0)
  have HP2 := toHid (And.intro hA2 (And.intro ht2 hb2))
  generalize hqr : t.p.put o.bs o.fl = qr at *
  obtain ⟨⟨s, fr, er⟩, q⟩ := qr
  obtain ⟨⟨s', fr', er'⟩, l⟩ := pr
  have hpf := HPF.out.1
  simp only [Prod.mk.injEq] at hpf
  obtain ⟨rfl, rfl, rfl⟩ := hpf
  clear ht2 hA2 hb2 H1 hcv hqr
  go_wp2_with fail
  refine Calls.mono H2.out ?_
  rintro e w3 ⟨rfl, t', st⟩
  have hP3 := HP.out.1.both HP2.out.1 HP2.out.2.1 st HPF.out.2.1 HPF.out.2.2.1 HPF.out.2.2.2.1 HPF.out.2.2.2.2.1 (by have := HPF.out.2.2.2.2.2; have := HC.out; show q.clock ≤ 1000000000; omega)
  have hb3 := st.touch.blk HP2.out.2.2 HX.out.1
  have d1 := hb3.cell (i := 1) rfl
  have hcv3 := (HP.out.2.1.key.touch hP3.touch).conv o.sc
  rw [HAA.out] at hcv3
  have HF : Hid (∃ l t', Pair w0 w3 (x.with l) t' ∧ t'.r = t.r ∧ t'.clock ≤ t.clock + 1) := ⟨_, t', hP3, st.r, by rw [st.clock]; exact HPF.out.2.2.2.2.2⟩
  clear hP3 hb3 st H2 HP2 HPF c1 c2
  go_wp2
  go_ret
  exact ⟨rfl, HF.out⟩

set_option maxHeartbeats 2000000 in
set_option maxRecDepth 100000 in
theorem one_del {w0 w : World} {x : HX} {t : RX} (h : Pair w0 w x t) (hc : t.clock < 1000000000) (o : OpC) (ok : o.Ok w0) (hk : (IntKind.u64.wrap o.k).tmod 4 = 2) :
    Calls Try.prog 9 #[.pointer (some ⟨x.X, 0, none⟩), .pointer (some ⟨t.r, 0, none⟩), opV o] w (OnePost w0 x t) := by
  have hta := (Touch.refl [] w).alloc (.cells #[.int .i64 o.k, .slice o.sa o.sl o.sc, .int .u64 o.fl] 35)
  have hP := h.still hta
  have hkey := ok.key.touch hP.touch
  have hcv := hkey.conv o.sc
  have H1 := toHid (del_any hP.idx hkey o.sc)
  have hB := Blk.newA w #[.int .i64 o.k, .slice o.sa o.sl o.sc, .int .u64 o.fl] _ 35 rfl
  have HP := toHid (And.intro hP (And.intro ok hB))
  have HC := toHid hc
  have HX : Hid (w.heap.size ∉ t.top ∧ w.heap.size ∉ [x.b]) := ⟨fun hx => by
    have := h.ref.lt _ (RX.mem_top hx)
    omega, by
    have := h.idx.lt.2
    simp
    omega⟩
  have HPF := toHid (hP.del o.bs)
  generalize hpr : x.del o.bs = pr at *
  clear h hP hkey ok hta hB hc hpr
  unfold opV
  generalize hA : strOfNums o.bs = A at *
  have HAA := toHid hA
  clear hA
  go_enter Try.func9, Try.ntmps9
  go_wp2_with fail
  refine Calls.mono H1.out ?_
  rintro e w2 ⟨rfl, hA2, ht2⟩
  have hb2 := ht2.blk HP.out.2.2 HX.out.2
  have c1 := hb2.cell (i := 1) rfl
  have c2 := hb2.cell (i := 2) rfl
  have H2 := toHid (rdel_any (HP.out.1.refB ht2) HP.out.1.up (by rw [HP.out.1.kind]; decide) (HP.out.2.1.key.touch (HP.out.1.keyB ht2)) o.sc)
  have HP2 := toHid (And.intro hA2 (And.intro ht2 hb2))
  generalize hqr : t.p.del o.bs = qr at *
  obtain ⟨⟨s, er⟩, q⟩ := qr
  obtain ⟨⟨s', er'⟩, l⟩ := pr
  have hpf := HPF.out.1
  simp only [Prod.mk.injEq] at hpf
  obtain ⟨rfl, rfl⟩ := hpf
  clear ht2 hA2 hb2 H1 hcv hqr
  go_wp2_with fail
  refine Calls.mono H2.out ?_
  rintro e w3 ⟨rfl, t', st⟩
  have hP3 := HP.out.1.both HP2.out.1 HP2.out.2.1 st HPF.out.2.1 HPF.out.2.2.1 HPF.out.2.2.2.1 HPF.out.2.2.2.2.1 (by have := HPF.out.2.2.2.2.2; have := HC.out; show q.clock ≤ 1000000000; omega)
  have hb3 := st.touch.blk HP2.out.2.2 HX.out.1
  have d1 := hb3.cell (i := 1) rfl
  have hcv3 := (HP.out.2.1.key.touch hP3.touch).conv o.sc
  rw [HAA.out] at hcv3
  have HF : Hid (∃ l t', Pair w0 w3 (x.with l) t' ∧ t'.r = t.r ∧ t'.clock ≤ t.clock + 1) := ⟨_, t', hP3, st.r, by rw [st.clock]; exact HPF.out.2.2.2.2.2⟩
  clear hP3 hb3 st H2 HP2 HPF c1 c2
  go_wp2
  go_ret
  exact ⟨rfl, HF.out⟩

set_option maxHeartbeats 2000000 in
set_option maxRecDepth 100000 in
theorem one_keys {w0 w : World} {x : HX} {t : RX} (h : Pair w0 w x t) (o : OpC) (ok : o.Ok w0) (hk : (IntKind.u64.wrap o.k).tmod 4 = 3) :
    Calls Try.prog 9 #[.pointer (some ⟨x.X, 0, none⟩), .pointer (some ⟨t.r, 0, none⟩), opV o] w (OnePost w0 x t) := by
  have hta := (Touch.refl [] w).alloc (.cells #[.int .i64 o.k, .slice o.sa o.sl o.sc, .int .u64 o.fl] 35)
  have hP := h.still hta
  have hkey := ok.key.touch hP.touch
  have hcv := hkey.conv o.sc
  have hB := Blk.newA w #[.int .i64 o.k, .slice o.sa o.sl o.sc, .int .u64 o.fl] _ 35 rfl
  have H1 := toHid (keys_any hP.idx)
  have HP := toHid (And.intro hP (And.intro ok hB))
  have hm : (keysP x.l).length ≤ 1000 := by have := h.idx.map.many; have := held_le x.l; unfold keysP; omega
  clear h hP hkey ok hta hB
  unfold opV
  generalize hA : strOfNums o.bs = A at *
  have HAA := toHid hA
  have HM := toHid hm
  clear hA hm
  go_enter Try.func9, Try.ntmps9
  go_wp2_with fail
  refine Calls.mono H1.out ?_
  rintro e w2 ⟨⟨v, rfl, hK⟩, ht2⟩
  have hP2 := HP.out.1.still ht2
  have H2 := toHid (rkeys_any hP2.ref (by have := hP2.up.many; omega))
  rw [hP2.keysOf] at H2
  have HK := toHid (And.intro hK (And.intro ht2 hP2))
  clear hK ht2 hP2 H1
  go_wp2_with fail
  refine Calls.mono H2.out ?_
  rintro e w3 ⟨⟨v2, rfl, hK2⟩, ht3⟩
  have H3 := toHid (sameKeys_any (HK.out.1.touch ht3 (by simp)) hK2 HM.out)
  have HT3 := toHid ht3
  clear hK2 ht3 H2
  go_wp2_with fail
  refine Calls.mono H3.out ?_
  rintro e w4 ⟨rfl, ht4⟩
  have hP4 := (HK.out.2.2.still HT3.out).still ht4
  have hb4 := ht4.blk (HT3.out.blk (HK.out.2.1.blk HP.out.2.2 (by simp)) (by simp)) (by simp)
  have d1 := hb4.cell (i := 1) rfl
  have hcv3 := (HP.out.2.1.key.touch hP4.touch).conv o.sc
  rw [HAA.out] at hcv3
  have HF : Hid (Pair w0 w4 x t) := hP4
  clear hP4 hb4 ht4 H3 HT3 HK HP hcv
  go_wp2
  go_ret
  exact ⟨rfl, x.l, t, HF.out, rfl, by omega⟩

theorem one_any {w0 w : World} {x : HX} {t : RX} (h : Pair w0 w x t) (hc : t.clock < 1000000000) (o : OpC) (ok : o.Ok w0) :
    Calls Try.prog 9 #[.pointer (some ⟨x.X, 0, none⟩), .pointer (some ⟨t.r, 0, none⟩), opV o] w (OnePost w0 x t) := by
  obtain ⟨q, hq, hk⟩ := kind4 o.k
  have : q = 0 ∨ q = 1 ∨ q = 2 ∨ q = 3 := by omega
  rcases this with rfl | rfl | rfl | rfl
  · exact one_find h hc o ok hk
  · exact one_put h hc o ok hk
  · exact one_del h hc o ok hk
  · exact one_keys h o ok hk
end Go.Proofs.Ytalmgjahfhdlbaa
