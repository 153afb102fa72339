/-
  The ring and the document's, side by side.
-/
import Derived.Test.YtkfmhabplcikiaaGRef3
import Derived.Test.YtkfmhabplcikiaaGArgs
namespace Go.Proofs.Ytkfmhabplcikiaa.Ring
open Go.RowKit
attribute [local go_sem ↓] Go.wp_at_zero Go.wp_at_succ

structure GDuo (w0 w : World) (x : RG) (s : Mem.MS) (y : RRG) (u : Mem.RS) (c : Nat) : Prop where
  g : GBoth w x s
  r : RGBoth w y u
  recs : x.recs = y.recs
  outs : x.l.map KR.bs = y.l.map KR.bs
  rel : Mem.Rel s.rs s.next u.all
  apart : ∀ b, b ∈ x.blocks ∨ b ∈ s.blocks → ¬ (b ∈ y.blocks ∨ b ∈ u.blocks)
  own : ∀ b, b ∈ x.blocks ∨ b ∈ s.blocks → w0.heap.size ≤ b
  own' : ∀ b, b ∈ y.blocks ∨ b ∈ u.blocks → w0.heap.size ≤ b
  touch : Touch [] w0 w
  next : s.next ≤ c
  outn : x.l.length ≤ c
theorem GDuo.still {w0 w w' : World} {x : RG} {s : Mem.MS} {y : RRG} {u : Mem.RS} {c : Nat} (h : GDuo w0 w x s y u c) (ht : Touch [] w w') : GDuo w0 w' x s y u c :=
  ⟨h.g.still ht, h.r.still ht, h.recs, h.outs, h.rel, h.apart, h.own, h.own', h.touch.trans ht (by simp), h.next, h.outn⟩
theorem GDuo.overR {w0 w w1 : World} {x x1 : RG} {s s1 : Mem.MS} {y : RRG} {u : Mem.RS} {c : Nat} (h : GDuo w0 w x s y u c) (st : GStep w w1 x x1 s s1) : RGBoth w1 y u :=
  ⟨h.r.ring.touch st.touch (fun b hb hx => h.apart b (List.mem_append.1 hx) (Or.inl hb)), h.r.mem.touch st.touch (fun b hb hx => h.apart b (List.mem_append.1 hx) (Or.inr hb)), h.r.at_, h.r.apart⟩
theorem GDuo.go {w0 w w1 w2 : World} {x x1 : RG} {s s1 : Mem.MS} {y y1 : RRG} {u u1 : Mem.RS} {c c' : Nat} (h : GDuo w0 w x s y u c) (st : GStep w w1 x x1 s s1) (st' : RGStep w1 w2 y y1 u u1)
    (hrecs : x1.recs = y1.recs) (houts : x1.l.map KR.bs = y1.l.map KR.bs) (hrel : Mem.Rel s1.rs s1.next u1.all) (hn : s1.next ≤ c') (hl : x1.l.length ≤ c') : GDuo w0 w2 x1 s1 y1 u1 c' := by
  have hz := h.touch.size
  have hz1 := st.touch.size
  have hlt : ∀ b, b ∈ y.blocks ∨ b ∈ u.blocks → b < w.heap.size := fun b hb => by
    rcases hb with hb | hb
    · exact h.r.ring.lt b hb
    · exact h.r.mem.lt b hb
  have hx1 : ∀ b, b ∈ x1.blocks ∨ b ∈ s1.blocks → (b ∈ x.blocks ∨ b ∈ s.blocks) ∨ w.heap.size ≤ b := fun b hb => by
    rcases hb with hb | hb
    · rcases st.xb b hb with h1 | h1
      · exact Or.inl (Or.inl h1)
      · exact Or.inr h1
    · rcases st.sb b hb with h1 | h1
      · exact Or.inl (Or.inr h1)
      · exact Or.inr h1
  have hy1 : ∀ b, b ∈ y1.blocks ∨ b ∈ u1.blocks → (b ∈ y.blocks ∨ b ∈ u.blocks) ∨ w1.heap.size ≤ b := fun b hb => by
    rcases hb with hb | hb
    · rcases st'.yb b hb with h1 | h1
      · exact Or.inl (Or.inl h1)
      · exact Or.inr h1
    · rcases st'.ub b hb with h1 | h1
      · exact Or.inl (Or.inr h1)
      · exact Or.inr h1
  have hxl : ∀ b, b ∈ x1.blocks ∨ b ∈ s1.blocks → b < w1.heap.size := fun b hb => by
    rcases hb with hb | hb
    · exact st.both.ring.lt b hb
    · exact st.both.mem.lt b hb
  have hdis : ∀ b, b ∈ x1.blocks ∨ b ∈ s1.blocks → ¬ (b ∈ y.blocks ∨ b ∈ u.blocks) := fun b hb hy => by
    rcases hx1 b hb with h1 | h1
    · exact h.apart b h1 hy
    · have := hlt b hy; omega
  have hN : ∀ b, b ∈ x1.blocks ∨ b ∈ s1.blocks → b ∉ y.blocks ++ u.blocks := fun b hb hx => hdis b hb (List.mem_append.1 hx)
  refine ⟨⟨st.both.ring.touch st'.touch (fun b hb => hN b (Or.inl hb)), st.both.mem.touch st'.touch (fun b hb => hN b (Or.inr hb)), st.both.at_, st.both.apart, st.both.held⟩, st'.both, hrecs, houts, hrel, fun b hb hy => ?_, fun b hb => ?_, fun b hb => ?_, ?_, hn, hl⟩
  · rcases hy1 b hy with h1 | h1
    · exact hdis b hb h1
    · have := hxl b hb; omega
  · rcases hx1 b hb with h1 | h1
    · exact h.own b h1
    · omega
  · rcases hy1 b hb with h1 | h1
    · exact h.own' b h1
    · omega
  · exact (h.touch.trans st.touch (fun b hb => Or.inr (h.own b (List.mem_append.1 hb)))).trans st'.touch (fun b hb => Or.inr (h.own' b (List.mem_append.1 hb)))
/-- How many regions live. -/
theorem GDuo.few {w0 w : World} {x : RG} {s : Mem.MS} {y : RRG} {u : Mem.RS} {c : Nat} (h : GDuo w0 w x s y u c) : s.rs.length ≤ c ∧ u.all.length ≤ c := by
  have h1 := h.rel.count h.g.mem.ids
  have h2 : Mem.liveN u.all ≤ u.all.length := List.length_filter_le _ _
  have h3 := h.rel.len
  have h4 := h.next
  omega
theorem twin_new {w : World} {s : Mem.MS} (h : Mem.MemAt w s) {r : Mem.Reg} (hr : r ∈ s.rs) {id base size : Int} (hn : Mem.NewReg r id base size 3) (_z : 1 ≤ size) {rr : Mem.RReg} (h1 : rr.live = true) (h2 : rr.base = base) (h3 : rr.perm = 3) (h4 : rr.bytes = List.replicate size.toNat 0) (h5 : rr.set = List.replicate size.toNat true) : Mem.Twin r rr := by
  have hsb : r.sb = none := (h.ok r hr).plain.2 (by rw [hn.hperm]; omega)
  refine ⟨h1, by rw [h2, hn.hbase], by rw [h3, hn.hperm], by rw [h4, hn.hbytes], ?_⟩
  unfold Mem.setOf
  rw [hsb, h5, hn.hbytes]
  simp
def Goes (w0 : World) (x : RG) (s : Mem.MS) (y : RRG) (u : Mem.RS) (c : Nat) (w1 w2 : World) : Prop := ∃ x' s' y' u', GDuo w0 w2 x' s' y' u' (c + 1) ∧ x'.r = x.r ∧ s'.m = s.m ∧ y'.q = y.q ∧ u'.m = u.m ∧ Touch (y.blocks ++ u.blocks) w1 w2
theorem GDuo.reserve2 {w0 w w1 : World} {x : RG} {s : Mem.MS} {y : RRG} {u : Mem.RS} {c : Nat} (h : GDuo w0 w x s y u c) (hc : c ≤ 100) {size : Int} (z0 : 0 ≤ size) (z1 : size ≤ 18446744073709551615) {e : Ending} (hp : ResPost w x s size e w1) :
    Calls Try.prog 13 #[.pointer (some ⟨y.q, 0, none⟩), .int .u64 size] w1 fun e' w2 => e' = .returned (.tuple #[.int .u64 (resP x.recs size fun b => Mem.addE s.rs b size 3).1, .int .i64 (resP x.recs size fun b => Mem.addE s.rs b size 3).2]) ∧ Goes w0 x s y u c w1 w2 := by
  obtain ⟨f1, f2⟩ := h.few
  have hE : (fun b => Mem.raddE u.all b size 3) = (fun b => Mem.addE s.rs b size 3) := by
    funext b
    exact h.rel.addE (by omega) b size 3
  have hst : ∃ x1 s1, GStep w w1 x x1 s s1 := by
    rcases hp.2 with ⟨_, h1⟩ | ⟨_, _, _, _, _, _, _, _, _, _, _, _, _, h1⟩
    · exact ⟨_, _, h1⟩
    · exact ⟨_, _, h1⟩
  obtain ⟨x1, s1, hst⟩ := hst
  refine (rgreserve_any (h.overR hst) (by omega) size z0 z1).mono ?_
  rintro e' w2 ⟨he, hp'⟩
  rw [hE, ← h.recs] at he hp'
  refine ⟨he, ?_⟩
  rcases hp.2 with ⟨hne, st⟩ | ⟨n, i, r, s', hn8, hf, hn, hpp, hadd, hi, hrs, hnx, hnr, st⟩
  · rcases hp' with ⟨_, u', hall, st'⟩ | ⟨n', r', u', _, _, _, hpp', _⟩
    · exact ⟨x, s, y, u', h.go st st' h.recs h.outs (by rw [hall]; exact h.rel) (by have := h.next; omega) (by have := h.outn; omega), rfl, rfl, rfl, st'.m, st'.touch⟩
    · rw [hpp'] at hne
      exact absurd rfl hne
  · rcases hp' with ⟨hne, _⟩ | ⟨n', r', u', _, hf', _, _, _, hall, g1, g2, g3, g4, g5, st'⟩
    · rw [hpp] at hne
      exact absurd rfl hne
    · obtain rfl : n' = n := by rw [hf] at hf'; omega
      have hz : 1 ≤ size := by
        unfold resP at hpp
        by_cases hb : size < 1 ∨ 64 < size
        · rw [if_pos hb] at hpp
          have := congrArg Prod.snd hpp
          cases this
        · omega
      have hrm : r ∈ s'.rs := by rw [hrs]; simp
      have hl := h.rel.len
      refine ⟨_, s', _, u', h.go st st' ?_ h.outs ?_ (by rw [hnx]; have := h.next; omega) (by have := h.outn; show x.l.length ≤ _; omega), rfl, st.m, rfl, st'.m, st'.touch⟩
      · show x.recs.set n' _ = x.recs.set n' _
        rw [hl]
      · rw [hrs, hnx, hall]
        exact h.rel.add hnr.hid (twin_new st.both.mem hrm hnr hz g1 g2 g3 g4 g5)
theorem GDuo.heldR {w0 w : World} {x : RG} {s : Mem.MS} {y : RRG} {u : Mem.RS} {c : Nat} (h : GDuo w0 w x s y u c) : ∀ n i : Nat, y.recs[n]? = some (some i) → ∃ r, u.all[i]? = some r ∧ r.bytes.length ≤ 64 := fun n i hn => by
  rw [← h.recs] at hn
  obtain ⟨r, hr, hid, _, h64⟩ := h.g.held n i hn
  obtain ⟨j, z, hz, hj, ht⟩ := h.rel.there r hr
  obtain rfl : j = i := by omega
  exact ⟨z, hz, by rw [ht.bytes]; exact h64⟩
theorem GDuo.submit2 {w0 w w1 : World} {x : RG} {s : Mem.MS} {y : RRG} {u : Mem.RS} {c : Nat} (h : GDuo w0 w x s y u c) (hc : c ≤ 100) {addr : Int} (a0 : 0 ≤ addr) {e : Ending} (hp : SubPost w x s addr e w1) :
    Calls Try.prog 16 #[.pointer (some ⟨y.q, 0, none⟩), .int .u64 addr, .bool true] w1 fun e' w2 => e' = .returned (.int .i64 (if numI x.recs addr = -1 then 14 else 0)) ∧ Goes w0 x s y u c w1 w2 := by
  have hst : ∃ x1 s1, GStep w w1 x x1 s s1 := by
    rcases hp.2 with ⟨_, h1⟩ | ⟨_, _, _, _, _, _, _, _, _, _, _, _, _, _, _, h1⟩
    · exact ⟨_, _, h1⟩
    · exact ⟨_, _, h1⟩
  obtain ⟨x1, s1, hst⟩ := hst
  have hyl : y.l.length = x.l.length := by have := congrArg List.length h.outs; simpa using this.symm
  refine (rgend_any (h.overR hst) (by have := h.outn; omega) h.heldR addr a0 true).mono ?_
  rintro e' w2 ⟨he, hp'⟩
  rw [← h.recs] at he hp'
  refine ⟨he, ?_⟩
  rcases hp.2 with ⟨hf, st⟩ | ⟨n, i, r, s', g', cap', k, hn8, hf, hn, hr, hid, hk, hrs, hnx, st⟩
  · rcases hp' with ⟨_, st'⟩ | ⟨n', _, _, _, _, _, _, hf', _⟩
    · exact ⟨x, s, y, u, h.go st st' h.recs h.outs h.rel (by have := h.next; omega) (by have := h.outn; omega), rfl, rfl, rfl, rfl, st'.touch⟩
    · rw [hf] at hf'; omega
  · rcases hp' with ⟨hf', _⟩ | ⟨n', i', r', g2, cap2, l2, _, hf', hn', hr', hbs, st'⟩
    · rw [hf] at hf'; omega
    · obtain rfl : n' = n := by rw [hf] at hf'; omega
      obtain rfl : i' = i := by rw [hn] at hn'; injection hn' with hn'; injection hn' with hn'; exact hn'.symm
      have htw := h.rel.at hr' r hr hid
      refine ⟨_, s', _, { u with all := Mem.rkillAll u.all i' }, h.go st st' rfl ?_ ?_ (by rw [hnx]; have := h.next; omega) ?_, rfl, st.m, rfl, rfl, st'.touch⟩
      · show (x.l ++ [k]).map KR.bs = l2.map KR.bs
        rw [hbs, List.map_append, h.outs, if_pos rfl, htw.bytes, ← hk]
        rfl
      · rw [hrs, hnx]
        exact h.rel.kill i'
      · show (x.l ++ [k]).length ≤ c + 1
        rw [List.length_append]
        have := h.outn
        simp
        omega
theorem GDuo.discard2 {w0 w w1 : World} {x : RG} {s : Mem.MS} {y : RRG} {u : Mem.RS} {c : Nat} (h : GDuo w0 w x s y u c) (hc : c ≤ 100) {addr : Int} (a0 : 0 ≤ addr) {e : Ending} (hp : DisPost w x s addr e w1) :
    Calls Try.prog 16 #[.pointer (some ⟨y.q, 0, none⟩), .int .u64 addr, .bool false] w1 fun e' w2 => e' = .returned (.int .i64 (if numI x.recs addr = -1 then 14 else 0)) ∧ Goes w0 x s y u c w1 w2 := by
  have hst : ∃ x1 s1, GStep w w1 x x1 s s1 := by
    rcases hp.2 with ⟨_, h1⟩ | ⟨_, _, _, _, _, _, _, _, h1⟩
    · exact ⟨_, _, h1⟩
    · exact ⟨_, _, h1⟩
  obtain ⟨x1, s1, hst⟩ := hst
  have hyl : y.l.length = x.l.length := by have := congrArg List.length h.outs; simpa using this.symm
  refine (rgend_any (h.overR hst) (by have := h.outn; omega) h.heldR addr a0 false).mono ?_
  rintro e' w2 ⟨he, hp'⟩
  rw [← h.recs] at he hp'
  refine ⟨he, ?_⟩
  rcases hp.2 with ⟨hf, st⟩ | ⟨n, i, s', hn8, hf, hn, hrs, hnx, st⟩
  · rcases hp' with ⟨_, st'⟩ | ⟨n', _, _, _, _, _, _, hf', _⟩
    · exact ⟨x, s, y, u, h.go st st' h.recs h.outs h.rel (by have := h.next; omega) (by have := h.outn; omega), rfl, rfl, rfl, rfl, st'.touch⟩
    · rw [hf] at hf'; omega
  · rcases hp' with ⟨hf', _⟩ | ⟨n', i', r', g2, cap2, l2, _, hf', hn', hr', hbs, st'⟩
    · rw [hf] at hf'; omega
    · obtain rfl : n' = n := by rw [hf] at hf'; omega
      obtain rfl : i' = i := by rw [hn] at hn'; injection hn' with hn'; injection hn' with hn'; exact hn'.symm
      refine ⟨_, s', _, { u with all := Mem.rkillAll u.all i' }, h.go st st' rfl ?_ ?_ (by rw [hnx]; have := h.next; omega) (by have := h.outn; show x.l.length ≤ _; omega), rfl, st.m, rfl, rfl, st'.touch⟩
      · show x.l.map KR.bs = l2.map KR.bs
        rw [hbs, h.outs]
        simp
      · rw [hrs, hnx]
        exact h.rel.kill i'
theorem GDuo.store2 {w0 w w1 : World} {x : RG} {s : Mem.MS} {y : RRG} {u : Mem.RS} {c : Nat} (h : GDuo w0 w x s y u c) {addr v : Int} (a0 : 0 ≤ addr) (a1 : addr ≤ 18446744073709551615) (v0 : 0 ≤ v) (v1 : v ≤ 18446744073709551615) {e : Ending} (hp : Mem.StorePost w s addr 1 v e w1) :
    Calls Try.prog 19 #[.pointer (some ⟨u.m, 0, none⟩), .int .u64 addr, .int .i64 1, .int .u64 v] w1 fun e' w2 => e' = .returned (.int .i64 (Mem.storeE s.rs addr 1)) ∧ Goes w0 x s y u c w1 w2 := by
  have st := h.g.store hp
  have hR := h.overR st
  have hok : ∀ r ∈ s.rs, 0 ≤ r.perm ∧ r.perm ≤ 7 := fun r hr => ⟨(h.g.mem.ok r hr).perm0, (h.g.mem.ok r hr).perm1⟩
  refine (Mem.rstore_any hR.mem addr 1 v a0 a1 v0 v1).mono ?_
  rintro e' w2 ⟨he, hs⟩
  rw [h.rel.storeE h.g.mem.sorted hok addr 1] at he
  refine ⟨he, x, _, y, { u with all := Mem.rstoreAll u.all addr 1 v }, h.go st ⟨⟨hR.ring.touch hs.2.2 hR.apart, hs.1, hR.at_, fun b hb => by rw [hs.2.1]; exact hR.apart b hb⟩, rfl, rfl, hs.2.2.mono (fun b hb => Or.inl (List.mem_append_right _ hb)), fun b hb => Or.inl hb, fun b hb => Or.inl (by rw [hs.2.1] at hb; exact hb)⟩ h.recs h.outs (h.rel.store h.g.mem.sorted hok addr 1 v) (by have := h.next; show s.next ≤ _; omega) (by have := h.outn; omega), rfl, rfl, rfl, rfl, hs.2.2.mono (fun b hb => Or.inl (List.mem_append_right _ hb))⟩
/-- The address that a call of a script names. -/
def addrI (o : OpT) : Int := if o.at_ < 0 then o.n else 68719476736 + o.at_ % 10 * 4096
theorem addrI_bd {o : OpT} (ok : o.Ok) : 0 ≤ addrI o ∧ addrI o ≤ 18446744073709551615 := by
  unfold addrI
  have := ok.f0
  have := ok.f1
  split <;> omega
def opT (o : OpT) : Value := .agg #[.int .i64 o.k, .int .i64 o.at_, .int .u64 o.n]
set_option maxRecDepth 100000 in
theorem address_any (o : OpT) (ok : o.Ok) (w : World) : Calls Try.prog 15 #[opT o] w fun e w' => e = .returned (.int .u64 (addrI o)) ∧ Touch [] w w' := by
  have hB := Blk.newA w o.cells.toArray _ 44 rfl
  have HT := toHid ((Touch.refl [] w).alloc (.cells o.cells.toArray 44))
  have c1 := hB.cell (i := 1) rfl
  have c2 := hB.cell (i := 2) rfl
  unfold opT
  unfold OpT.cells at *
  have m1 := ok.m1
  by_cases hneg : o.at_ < 0
  · have he : Hid (addrI o = o.n) := by unfold addrI; rw [if_pos hneg]; exact rfl
    go_enter Try.func15, Try.ntmps15
    go_wp2
    go_ret
    exact ⟨by rw [he.out] <;> rfl, HT.out⟩
  · have he : Hid (addrI o = 68719476736 + o.at_ % 10 * 4096) := by unfold addrI; rw [if_neg hneg]; exact rfl
    have h0 : 0 ≤ o.at_ := by omega
    obtain ⟨m, hm10, hm⟩ : ∃ m : Nat, m < 10 ∧ o.at_ % 10 = m := ⟨(o.at_ % 10).toNat, by omega, by omega⟩
    have hm2 : o.at_.tmod 10 = m := by rw [Int.tmod_eq_emod_of_nonneg h0]; exact hm
    rw [hm] at he
    clear hB hm
    go_enter Try.func15, Try.ntmps15
    go_wp2
    go_ret
    exact ⟨by rw [he.out] <;> rfl, HT.out⟩
end Go.Proofs.Ytkfmhabplcikiaa.Ring
