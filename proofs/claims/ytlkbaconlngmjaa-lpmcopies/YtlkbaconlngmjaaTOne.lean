/-
  The program's index and the document's own, side by side; one: a call of both.
-/
import Derived.Test.YtlkbaconlngmjaaTFirst
import Derived.Test.YtlkbaconlngmjaaRAny
namespace Go.Proofs.Ytlkbaconlngmjaa
open Go.RowKit Go.Deep

/-- Both indexes lie in the world, in blocks that came behind w0, and hold the same keys. -/
structure TPair (w0 w : World) (x : TX) (t : RX) : Prop where
  idx : IAt w x
  ref : RAt w t
  good : PGood t.p
  kind : t.kind = 3
  up : t.clock ≤ 1000000000
  slots : t.p.slots = x.l
  size : t.size = (x.n : Int) + 4
  apart : ∀ y ∈ x.own, y ∉ t.blocks
  own : ∀ y ∈ x.own, w0.heap.size ≤ y
  own' : ∀ b ∈ t.blocks, w0.heap.size ≤ b
  touch : Touch [] w0 w
theorem TPair.still {w0 w w' : World} {x : TX} {t : RX} (h : TPair w0 w x t) (ht : Touch [] w w') : TPair w0 w' x t :=
  ⟨h.idx.still ht, h.ref.touch ht (by simp), h.good, h.kind, h.up, h.slots, h.size, h.apart, h.own, h.own', h.touch.trans ht (by simp)⟩
theorem TPair.keysOf {w0 w : World} {x : TX} {t : RX} (h : TPair w0 w x t) : keysOf t.slots = keysP x.l := by
  rw [keysOf_p]
  unfold PX.keys
  rw [h.slots]
  rfl
theorem TPair.refB {w0 w w2 : World} {x : TX} {t : RX} (h : TPair w0 w x t) (ht : Touch x.own w w2) : RAt w2 t := h.ref.touch ht (fun b hb hx => h.apart b hx hb)
theorem TPair.keyB {w0 w w2 : World} {x : TX} {t : RX} (h : TPair w0 w x t) (ht : Touch x.own w w2) : Touch [] w0 w2 := h.touch.trans ht (fun y hy => Or.inr (h.own y hy))
/-- A call of both. -/
theorem TPair.both {w0 w w2 w3 : World} {x : TX} {t t' : RX} {q : PX} {l : List (Option (List Int))} (h : TPair w0 w x t) (hs : IStep w x l w2) (st : Step w2 w3 t t' q)
    (hg : PGood q) (hk : PKept t.p q) (hl : q.slots = l) (hc : t.clock < 1000000000) : ∃ T', TPair w0 w3 { x with T := T', l := l } t' := by
  obtain ⟨T', hA, ht2, hb⟩ := hs
  have hp := st.p
  have e1 : t'.kind = q.kind := by rw [← hp]; rfl
  have e2 : t'.size = q.size := by rw [← hp]; rfl
  have e3 : t'.clock = q.clock := by rw [← hp]; rfl
  have hlt := hA.lt
  have hsz := ht2.size
  have hw0 := h.touch.size
  have hown : ∀ y ∈ ({ x with T := T', l := l } : TX).own, y ∈ x.own ∨ w.heap.size ≤ y := fun y hy => by
    simp only [TX.own, List.mem_cons] at hy
    rcases hy with rfl | hy
    · exact Or.inl (by simp [TX.own])
    · exact hb y hy
  have hap : ∀ y ∈ ({ x with T := T', l := l } : TX).own, y ∉ t.blocks := fun y hy hx => by
    rcases hown y hy with h1 | h1
    · exact h.apart y h1 hx
    · have := h.ref.lt y hx
      omega
  have hk1 := hk.kind
  have hk2 := hk.size
  have hk4 := hk.clock1
  have hk5 : t.p.kind = t.kind := rfl
  have hk6 : t.p.size = t.size := rfl
  have hk7 : t.p.clock = t.clock := rfl
  refine ⟨T', hA.touch st.touch (fun y hy hx => hap y hy (RX.mem_top hx)), st.at_, by rw [hp]; exact hg, by rw [e1, hk1, hk5]; exact h.kind, by rw [e3]; omega, by rw [hp]; exact hl, by rw [e2, hk2, hk6]; exact h.size, fun y hy hx => ?_, fun y hy => ?_, fun b hb => ?_, ?_⟩
  · rcases st.blocks _ hx with hx | hx
    · exact hap y hy hx
    · have := hlt y hy
      omega
  · rcases hown y hy with h1 | h1
    · exact h.own y h1
    · omega
  · rcases st.blocks _ hb with hb | hb
    · exact h.own' b hb
    · omega
  · exact (h.keyB ht2).trans st.touch (fun y hy => Or.inr (h.own' y (RX.mem_top hy)))
theorem Step.clock {w w' : World} {t t' : RX} {q : PX} (st : Step w w' t t' q) : t'.clock = q.clock := by rw [← st.p]; rfl

theorem fits_tie {q : PX} {n : Nat} (h : q.size = (n : Int) + 4) (bs : List Int) : q.fits3 bs = fitsK bs n := by
  unfold PX.fits3 fitsK
  rw [h]
  congr 1
  · by_cases e : bs.length = n + 4
    · rw [decide_eq_true e, decide_eq_true (by omega)]
    · rw [decide_eq_false e, decide_eq_false (by omega)]
  · by_cases e : keyNum bs ≤ 8 * (n : Int)
    · rw [decide_eq_true e, decide_eq_true (by omega)]
    · rw [decide_eq_false e, decide_eq_false (by omega)]
theorem TPair.find_tie {w0 w : World} {x : TX} {t : RX} (h : TPair w0 w x t) (bs : List Int) : (t.p.findA bs).1 = x.find bs ∧ (t.p.findA bs).2.slots = x.l := by
  have hf := fits_tie (q := t.p) (n := x.n) h.size bs
  unfold PX.findA
  rw [if_pos (show t.p.kind = 3 from h.kind)]
  unfold PX.find3 TX.find
  rw [hf, h.slots]
  split
  · exact ⟨rfl, h.slots⟩
  · exact ⟨rfl, h.slots⟩
theorem TPair.put_tie {w0 w : World} {x : TX} {t : RX} (h : TPair w0 w x t) {bs : List Int} (hb : ∀ y ∈ bs, 0 ≤ y ∧ y ≤ 255) (fl : Int) : (t.p.putA bs fl).1 = (x.put bs fl).1 ∧ (t.p.putA bs fl).2.slots = (x.put bs fl).2 := by
  have hf := fits_tie (q := t.p) (n := x.n) h.size bs
  unfold PX.putA
  rw [if_pos (show t.p.kind = 3 from h.kind)]
  unfold PX.put3 TX.put TX.add
  rw [hf, h.slots]
  cases hfk : fitsK bs x.n with
  | false => exact ⟨rfl, h.slots⟩
  | true =>
    have hl := (fitsK_len hfk).1
    have hc := cutP_key (by omega) hb
    rw [hl, Nat.add_sub_cancel] at hc
    rw [if_pos rfl, if_pos rfl, hc]
    split
    · exact ⟨rfl, h.slots⟩
    · cases sameP x.l (keyP (pathP bs) x.n) with
      | some i =>
        dsimp only
        split
        · exact ⟨rfl, h.slots⟩
        · exact ⟨rfl, h.slots⟩
      | none =>
        dsimp only
        split
        · exact ⟨rfl, h.slots⟩
        · cases freeP x.l with
          | none => exact ⟨rfl, h.slots⟩
          | some f =>
            refine ⟨rfl, ?_⟩
            show t.p.slots.set f _ = _
            rw [h.slots]
theorem TPair.del_tie {w0 w : World} {x : TX} {t : RX} (h : TPair w0 w x t) {bs : List Int} (hb : ∀ y ∈ bs, 0 ≤ y ∧ y ≤ 255) : (t.p.delA bs).1 = (x.del bs).1 ∧ (t.p.delA bs).2.slots = (x.del bs).2 := by
  have hf := fits_tie (q := t.p) (n := x.n) h.size bs
  unfold PX.delA
  rw [if_pos (show t.p.kind = 3 from h.kind)]
  unfold PX.del3 TX.del
  rw [hf, h.slots]
  cases hfk : fitsK bs x.n with
  | false => exact ⟨rfl, h.slots⟩
  | true =>
    have hl := (fitsK_len hfk).1
    have hc := cutP_key (by omega) hb
    rw [hl, Nat.add_sub_cancel] at hc
    rw [if_pos rfl, if_pos rfl, hc]
    cases sameP x.l (keyP (pathP bs) x.n) with
    | some i => exact ⟨rfl, rfl⟩
    | none => exact ⟨rfl, h.slots⟩
/-- The document's Put of what can be no key. -/
theorem rput3_no {w : World} {x : RX} (h : RAt w x) (hk3 : x.kind = 3) (hs1 : 5 ≤ x.size) (hs2 : x.size ≤ 16) {sa : Option Addr} {sl : Nat} {bs : List Int} (hk : KeyAt w sa sl bs) (kc : Nat) (hsc : sl ≤ kc) (hf : fits3 x bs = false) (fl : Int) :
    Calls Try.prog 22 #[.pointer (some ⟨x.r, 0, none⟩), .slice sa sl kc, .int .u64 fl] w (PutPost w x ((0, false, 2), x.p)) := by
  have H1 := toHid (fits3_any h hk3 hs1 hs2 hk kc hsc)
  rw [hf] at H1
  have HH := toHid h
  clear h hk hk3 hf hs1 hs2
  go_enter Try.func22, Try.ntmps22
  go_wp2_with fail
  refine Calls.mono H1.out ?_
  rintro e w2 ⟨rfl, ht2⟩
  have HF : Hid (∃ x', Step w w2 x x' x.p) := ⟨x, Step.refl HH.out ht2⟩
  clear ht2 H1
  go_wp2
  go_ret3
  exact ⟨rfl, HF.out⟩
theorem TPair.rput {w0 w w2 : World} {x : TX} {t : RX} (h : TPair w0 w x t) (ht : Touch x.own w w2) {o : OpC} (ok : o.Ok w0) (hsc : o.sl ≤ o.sc) :
    Calls Try.prog 22 #[.pointer (some ⟨t.r, 0, none⟩), .slice o.sa o.sl o.sc, .int .u64 o.fl] w2 (PutPost w2 t (t.p.putA o.bs o.fl)) := by
  have hk := ok.key.touch (h.keyB ht)
  by_cases h0 : o.bs.length = 0
  · have hs3 := h.good.s3 h.kind
    have hf : fits3 t o.bs = false := by
      have : t.p.size = t.size := rfl
      unfold fits3
      rw [decide_eq_false (show ¬ (o.bs.length : Int) = t.size by omega)]
      rfl
    have he : t.p.putA o.bs o.fl = ((0, false, 2), t.p) := by
      unfold PX.putA
      rw [if_pos (show t.p.kind = 3 from h.kind)]
      have h3 : t.p.fits3 o.bs = false := hf
      unfold PX.put3
      rw [h3]
      rfl
    rw [he]
    exact rput3_no (h.refB ht) h.kind hs3 h.good.s2 hk o.sc hsc hf o.fl
  · refine rputA_any (h.refB ht) h.good h.up hk (fun b _ hb off e => ?_) o.sc hsc o.fl ok.f0
    obtain ⟨b', off', e', hc⟩ := ok.key.2.2.2 (by omega)
    rw [e] at e'
    injection e' with e'
    injection e' with e1
    have h1 := World.block_lt_of_cell? _ _ (hc 0 (by omega))
    have h2 := h.own' b hb
    have h3 : b = b' := e1
    have h4 : b' < w0.heap.size := h1
    omega
/-- What 'one' answers. -/
def OnePost (w0 : World) (x : TX) (t : RX) (e : Ending) (w' : World) : Prop := e = .returned (.bool true) ∧ ∃ x' t', TPair w0 w' x' t' ∧ x'.X = x.X ∧ t'.r = t.r ∧ t'.clock ≤ t.clock + 1
set_option maxHeartbeats 2000000 in
set_option maxRecDepth 100000 in
theorem one_find {w0 w : World} {x : TX} {t : RX} (h : TPair w0 w x t) (hc : t.clock < 1000000000) (o : OpC) (ok : o.Ok w0) (hsc : o.sl ≤ o.sc) (hk : (IntKind.u64.wrap o.k).tmod 4 = 0) :
    Calls Try.prog 10 #[.pointer (some ⟨x.X, 0, none⟩), .pointer (some ⟨t.r, 0, none⟩), opV o] w (OnePost w0 x t) := by
  have hta := (Touch.refl [] w).alloc (.cells #[.int .i64 o.k, .slice o.sa o.sl o.sc, .int .u64 o.fl] 35)
  have hP := h.still hta
  have hkey := ok.key.touch hP.touch
  have hcv := hkey.conv o.sc
  have H1 := toHid (ifind_any hP.idx hkey o.sc hsc)
  have hB := Blk.newA w #[.int .i64 o.k, .slice o.sa o.sl o.sc, .int .u64 o.fl] _ 35 rfl
  have HP := toHid (And.intro hP (And.intro ok hB))
  have HC := toHid hc
  have HX : Hid (w.heap.size ∉ t.top ∧ w.heap.size ∉ x.own) := ⟨fun hx => by
    have := h.ref.lt _ (RX.mem_top hx)
    omega, fun hx => by
    have := h.idx.lt _ hx
    omega⟩
  have HPF := toHid (And.intro (hP.find_tie o.bs) (hP.good.findA o.bs))
  have HSC := toHid hsc
  generalize hpr : x.find o.bs = fo at *
  clear h hP hkey ok hta hB hc hpr hsc
  unfold opV
  generalize hA : strOfNums o.bs = A at *
  have HAA := toHid hA
  clear hA
  go_enter Try.func10, Try.ntmps10
  go_wp2_with fail
  refine Calls.mono H1.out ?_
  rintro e w2 ⟨rfl, ht2⟩
  have hb2 := ht2.blk HP.out.2.2 (by simp)
  have c1 := hb2.cell (i := 1) rfl
  have hP2 := HP.out.1.still ht2
  have H2 := toHid (rfindA_any hP2.ref hP2.good hP2.up (HP.out.2.1.key.touch hP2.touch) o.sc HSC.out)
  have HP2 := toHid (And.intro (IStep.same HP.out.1.idx ht2) (And.intro ht2 hb2))
  generalize hqr : t.p.findA o.bs = qr at *
  obtain ⟨fq, q⟩ := qr
  have hpf : fq = fo := HPF.out.1.1
  subst hpf
  unfold fV
  clear ht2 hP2 hb2 H1 hcv hqr
  cases fq with
  | none =>
    unfold Option.isSome Option.getD
    go_wp2_with fail
    refine Calls.mono H2.out ?_
    rintro e w3 ⟨rfl, t', st⟩
    unfold idxI
    obtain ⟨T3, hP3⟩ := HP.out.1.both HP2.out.1 st HPF.out.2.1 HPF.out.2.2 HPF.out.1.2 HC.out
    have hb3 := st.touch.blk HP2.out.2.2 HX.out.1
    have d1 := hb3.cell (i := 1) rfl
    have hcv3 := (HP.out.2.1.key.touch hP3.touch).conv o.sc
    rw [HAA.out] at hcv3
    have HF : Hid (∃ x' t', TPair w0 w3 x' t' ∧ x'.X = x.X ∧ t'.r = t.r ∧ t'.clock ≤ t.clock + 1) := ⟨_, t', hP3, rfl, st.r, by rw [st.clock]; exact HPF.out.2.2.clock1⟩
    clear hP3 hb3 st H2 HP2 HPF c1
    go_wp2
    go_ret
    exact ⟨rfl, HF.out⟩
  | some i =>
    unfold Option.isSome Option.getD
    go_wp2_with fail
    refine Calls.mono H2.out ?_
    rintro e w3 ⟨rfl, t', st⟩
    unfold idxI
    obtain ⟨T3, hP3⟩ := HP.out.1.both HP2.out.1 st HPF.out.2.1 HPF.out.2.2 HPF.out.1.2 HC.out
    have hb3 := st.touch.blk HP2.out.2.2 HX.out.1
    have d1 := hb3.cell (i := 1) rfl
    have hcv3 := (HP.out.2.1.key.touch hP3.touch).conv o.sc
    rw [HAA.out] at hcv3
    have HF : Hid (∃ x' t', TPair w0 w3 x' t' ∧ x'.X = x.X ∧ t'.r = t.r ∧ t'.clock ≤ t.clock + 1) := ⟨_, t', hP3, rfl, st.r, by rw [st.clock]; exact HPF.out.2.2.clock1⟩
    clear hP3 hb3 st H2 HP2 HPF c1
    go_wp2
    go_ret
    exact ⟨rfl, HF.out⟩

set_option maxHeartbeats 2000000 in
set_option maxRecDepth 100000 in
theorem one_put {w0 w : World} {x : TX} {t : RX} (h : TPair w0 w x t) (hc : t.clock < 1000000000) (o : OpC) (ok : o.Ok w0) (hsc : o.sl ≤ o.sc) (hk : (IntKind.u64.wrap o.k).tmod 4 = 1) :
    Calls Try.prog 10 #[.pointer (some ⟨x.X, 0, none⟩), .pointer (some ⟨t.r, 0, none⟩), opV o] w (OnePost w0 x t) := by
  have hta := (Touch.refl [] w).alloc (.cells #[.int .i64 o.k, .slice o.sa o.sl o.sc, .int .u64 o.fl] 35)
  have hP := h.still hta
  have hkey := ok.key.touch hP.touch
  have hcv := hkey.conv o.sc
  have H1 := toHid (iput_any hP.idx hkey o.sc hsc o.fl ok.f0)
  have hB := Blk.newA w #[.int .i64 o.k, .slice o.sa o.sl o.sc, .int .u64 o.fl] _ 35 rfl
  have HP := toHid (And.intro hP (And.intro ok hB))
  have HC := toHid hc
  have HX : Hid (w.heap.size ∉ t.top ∧ w.heap.size ∉ x.own) := ⟨fun hx => by
    have := h.ref.lt _ (RX.mem_top hx)
    omega, fun hx => by
    have := h.idx.lt _ hx
    omega⟩
  have HPF := toHid (And.intro (hP.put_tie ok.key.2.1 o.fl) (hP.good.putA o.bs o.fl))
  have HSC := toHid hsc
  generalize hpr : x.put o.bs o.fl = pr at *
  clear h hP hkey ok hta hB hc hpr hsc
  unfold opV
  generalize hA : strOfNums o.bs = A at *
  have HAA := toHid hA
  clear hA
  go_enter Try.func10, Try.ntmps10
  go_wp2_with fail
  refine Calls.mono H1.out ?_
  rintro e w2 ⟨rfl, hS2⟩
  have ht2 : Touch x.own _ w2 := hS2.choose_spec.2.1
  have hb2 := ht2.blk HP.out.2.2 HX.out.2
  have c1 := hb2.cell (i := 1) rfl
  have c2 := hb2.cell (i := 2) rfl
  have H2 := toHid (HP.out.1.rput ht2 HP.out.2.1 HSC.out)
  have HP2 := toHid (And.intro hS2 (And.intro ht2 hb2))
  generalize hqr : t.p.putA o.bs o.fl = qr at *
  obtain ⟨⟨s, fr, er⟩, q⟩ := qr
  obtain ⟨⟨s', fr', er'⟩, l⟩ := pr
  have hpf := HPF.out.1.1
  unfold AddV
  simp only [Prod.mk.injEq] at hpf
  obtain ⟨rfl, rfl, rfl⟩ := hpf
  clear ht2 hS2 hb2 H1 hcv hqr
  go_wp2_with fail
  refine Calls.mono H2.out ?_
  rintro e w3 ⟨rfl, t', st⟩
  obtain ⟨T3, hP3⟩ := HP.out.1.both HP2.out.1 st HPF.out.2.1 HPF.out.2.2 HPF.out.1.2 HC.out
  have hb3 := st.touch.blk HP2.out.2.2 HX.out.1
  have d1 := hb3.cell (i := 1) rfl
  have hcv3 := (HP.out.2.1.key.touch hP3.touch).conv o.sc
  rw [HAA.out] at hcv3
  have HF : Hid (∃ x' t', TPair w0 w3 x' t' ∧ x'.X = x.X ∧ t'.r = t.r ∧ t'.clock ≤ t.clock + 1) := ⟨_, t', hP3, rfl, st.r, by rw [st.clock]; exact HPF.out.2.2.clock1⟩
  clear hP3 hb3 st H2 HP2 HPF c1 c2
  go_wp2
  go_ret
  exact ⟨rfl, HF.out⟩

set_option maxHeartbeats 2000000 in
set_option maxRecDepth 100000 in
theorem one_del {w0 w : World} {x : TX} {t : RX} (h : TPair w0 w x t) (hc : t.clock < 1000000000) (o : OpC) (ok : o.Ok w0) (hsc : o.sl ≤ o.sc) (hk : (IntKind.u64.wrap o.k).tmod 4 = 2) :
    Calls Try.prog 10 #[.pointer (some ⟨x.X, 0, none⟩), .pointer (some ⟨t.r, 0, none⟩), opV o] w (OnePost w0 x t) := by
  have hta := (Touch.refl [] w).alloc (.cells #[.int .i64 o.k, .slice o.sa o.sl o.sc, .int .u64 o.fl] 35)
  have hP := h.still hta
  have hkey := ok.key.touch hP.touch
  have hcv := hkey.conv o.sc
  have H1 := toHid (idel_any hP.idx hkey o.sc hsc)
  have hB := Blk.newA w #[.int .i64 o.k, .slice o.sa o.sl o.sc, .int .u64 o.fl] _ 35 rfl
  have HP := toHid (And.intro hP (And.intro ok hB))
  have HC := toHid hc
  have HX : Hid (w.heap.size ∉ t.top ∧ w.heap.size ∉ x.own) := ⟨fun hx => by
    have := h.ref.lt _ (RX.mem_top hx)
    omega, fun hx => by
    have := h.idx.lt _ hx
    omega⟩
  have HPF := toHid (And.intro (hP.del_tie ok.key.2.1) (hP.good.delA o.bs))
  have HSC := toHid hsc
  generalize hpr : x.del o.bs = pr at *
  clear h hP hkey ok hta hB hc hpr hsc
  unfold opV
  generalize hA : strOfNums o.bs = A at *
  have HAA := toHid hA
  clear hA
  go_enter Try.func10, Try.ntmps10
  go_wp2_with fail
  refine Calls.mono H1.out ?_
  rintro e w2 ⟨rfl, hS2⟩
  have ht2 : Touch x.own _ w2 := hS2.choose_spec.2.1
  have hb2 := ht2.blk HP.out.2.2 HX.out.2
  have c1 := hb2.cell (i := 1) rfl
  have c2 := hb2.cell (i := 2) rfl
  have H2 := toHid (rdelA_any (HP.out.1.refB ht2) HP.out.1.good HP.out.1.up (HP.out.2.1.key.touch (HP.out.1.keyB ht2)) o.sc HSC.out)
  have HP2 := toHid (And.intro hS2 (And.intro ht2 hb2))
  generalize hqr : t.p.delA o.bs = qr at *
  obtain ⟨⟨s, er⟩, q⟩ := qr
  obtain ⟨⟨s', er'⟩, l⟩ := pr
  have hpf := HPF.out.1.1
  unfold DelV
  simp only [Prod.mk.injEq] at hpf
  obtain ⟨rfl, rfl⟩ := hpf
  clear ht2 hS2 hb2 H1 hcv hqr
  go_wp2_with fail
  refine Calls.mono H2.out ?_
  rintro e w3 ⟨rfl, t', st⟩
  obtain ⟨T3, hP3⟩ := HP.out.1.both HP2.out.1 st HPF.out.2.1 HPF.out.2.2 HPF.out.1.2 HC.out
  have hb3 := st.touch.blk HP2.out.2.2 HX.out.1
  have d1 := hb3.cell (i := 1) rfl
  have hcv3 := (HP.out.2.1.key.touch hP3.touch).conv o.sc
  rw [HAA.out] at hcv3
  have HF : Hid (∃ x' t', TPair w0 w3 x' t' ∧ x'.X = x.X ∧ t'.r = t.r ∧ t'.clock ≤ t.clock + 1) := ⟨_, t', hP3, rfl, st.r, by rw [st.clock]; exact HPF.out.2.2.clock1⟩
  clear hP3 hb3 st H2 HP2 HPF c1 c2
  go_wp2
  go_ret
  exact ⟨rfl, HF.out⟩

set_option maxHeartbeats 2000000 in
set_option maxRecDepth 100000 in
theorem one_keys {w0 w : World} {x : TX} {t : RX} (h : TPair w0 w x t) (o : OpC) (ok : o.Ok w0) (hk : (IntKind.u64.wrap o.k).tmod 4 = 3) :
    Calls Try.prog 10 #[.pointer (some ⟨x.X, 0, none⟩), .pointer (some ⟨t.r, 0, none⟩), opV o] w (OnePost w0 x t) := by
  have hta := (Touch.refl [] w).alloc (.cells #[.int .i64 o.k, .slice o.sa o.sl o.sc, .int .u64 o.fl] 35)
  have hP := h.still hta
  have hkey := ok.key.touch hP.touch
  have hcv := hkey.conv o.sc
  have hB := Blk.newA w #[.int .i64 o.k, .slice o.sa o.sl o.sc, .int .u64 o.fl] _ 35 rfl
  have H1 := toHid (ikeys_any hP.idx)
  have HP := toHid (And.intro hP (And.intro ok hB))
  have hm : (keysP x.l).length ≤ 1000 := by have h1 := h.idx.m64; have h2 := h.idx.len; have h3 : (keysP x.l).length ≤ x.l.length := List.length_filterMap_le _ _; omega
  clear h hP hkey ok hta hB
  unfold opV
  generalize hA : strOfNums o.bs = A at *
  have HAA := toHid hA
  have HM := toHid hm
  clear hA hm
  go_enter Try.func10, Try.ntmps10
  go_wp2_with fail
  refine Calls.mono H1.out ?_
  rintro e w2 ⟨⟨v, rfl, hK⟩, ht2⟩
  have hP2 := HP.out.1.still ht2
  have H2 := toHid (rkeys_any hP2.ref (by have h1 := hP2.good.m2; have h2 : t.p.slots.length = t.slots.length := (by simp [RX.p]); omega))
  rw [hP2.keysOf] at H2
  have HK := toHid (And.intro hK (And.intro ht2 hP2))
  clear hK ht2 hP2 H1
  go_wp2_with fail
  refine Calls.mono H2.out ?_
  rintro e w3 ⟨⟨v2, rfl, hK2⟩, ht3⟩
  have H3 := toHid (sameKeys_any (HK.out.1.touch ht3 (by simp)) hK2 HM.out)
  have HT3 := toHid ht3
  clear hK2 ht3 H2
  go_wp2_with fail
  refine Calls.mono H3.out ?_
  rintro e w4 ⟨rfl, ht4⟩
  have hP4 := (HK.out.2.2.still HT3.out).still ht4
  have hb4 := ht4.blk (HT3.out.blk (HK.out.2.1.blk HP.out.2.2 (by simp)) (by simp)) (by simp)
  have d1 := hb4.cell (i := 1) rfl
  have hcv3 := (HP.out.2.1.key.touch hP4.touch).conv o.sc
  rw [HAA.out] at hcv3
  have HF : Hid (TPair w0 w4 x t) := hP4
  clear hP4 hb4 ht4 H3 HT3 HK HP hcv
  go_wp2
  go_ret
  exact ⟨rfl, x, t, HF.out, rfl, rfl, by omega⟩


theorem one_any {w0 w : World} {x : TX} {t : RX} (h : TPair w0 w x t) (hc : t.clock < 1000000000) (o : OpC) (ok : o.Ok w0) (hsc : o.sl ≤ o.sc) :
    Calls Try.prog 10 #[.pointer (some ⟨x.X, 0, none⟩), .pointer (some ⟨t.r, 0, none⟩), opV o] w (OnePost w0 x t) := by
  obtain ⟨q, hq, hk⟩ := kind4 o.k
  have : q = 0 ∨ q = 1 ∨ q = 2 ∨ q = 3 := by omega
  rcases this with rfl | rfl | rfl | rfl
  · exact one_find h hc o ok hsc hk
  · exact one_put h hc o ok hsc hk
  · exact one_del h hc o ok hsc hk
  · exact one_keys h o ok hk
end Go.Proofs.Ytlkbaconlngmjaa
