/-
  Texts laid together: Duo2, MNil, MFirst, Both10, OneOp, One10, OneU, OneG, OneS, OneD, OneA, PNil, PSolo, PFirst, PArgs, Plays.
-/
import Derived.Test.YtmhhahmjkopjhaaGreatPlaysM5
import Derived.BigQuiet
import Derived.Deep.QuietTactic
import Derived.ProofKit
import Derived.Deep.Slices
section
namespace Go.Proofs.YtmhhahmjkopjhaaGreat
open Go.RowKit
theorem Duo.upd {w0 w w2 w3 : World} {x x' : PT} {s : Mem.MS} {y y' : RT} {u : Mem.RS} {c : Int} {qs : List PX} {rs : List Mem.Reg} {all : List Mem.RReg} (h : Duo w0 w x s y u c) (st : PUSt w w2 x x' s qs rs) (st' : USt w2 w3 y y' u qs all) (hr : Mem.Rel rs s.next all) (hc : ∀ q ∈ qs, q.clock ≤ c + 1) :
  Duo w0 w3 x' { s with rs := rs } y' { u with all := all } (c + 1) := by
 have hyl := h.r.tab.lt
 have hul := h.r.mem.lt
 have hxl := st.both.tab.lt
 have hsl := st.both.mem.lt
 have hx' : ∀ b, b ∈ x'.blocks ∨ b ∈ ({ s with rs := rs } : Mem.MS).blocks → (b ∈ x.blocks ∨ b ∈ s.blocks) ∨ w.heap.size ≤ b := fun b hb => by
  rcases hb with hb | hb
  ·rcases st.blocks b hb with h1 | h1
   ·exact Or.inl (Or.inl h1)
   ·exact Or.inr h1
  ·rw [st.sblk] at hb
   exact Or.inl (Or.inr hb)
 have hlt : ∀ b, b ∈ x'.blocks ∨ b ∈ ({ s with rs := rs } : Mem.MS).blocks → b < w2.heap.size := fun b hb => by
  rcases hb with hb | hb
  ·exact hxl b hb
  ·exact hsl b hb
 have hap : ∀ b, b ∈ x'.blocks ∨ b ∈ ({ s with rs := rs } : Mem.MS).blocks → b ∉ y.blocks ∧ b ∉ u.blocks := fun b hb => by
  rcases hx' b hb with h1 | h1
  ·exact h.apart b h1
  ·exact ⟨fun hx => by have := hyl b hx; omega, fun hx => by have := hul b hx; omega⟩
 have hs0 := h.touch.size
 have hs2 := st.touch.size
 have hnot : ∀ b, b ∈ x'.blocks ∨ b ∈ ({ s with rs := rs } : Mem.MS).blocks → b ∉ y.blocks ++ u.blocks := fun b hb hx => by
  rcases List.mem_append.1 hx with hx | hx
  ·exact (hap b hb).1 hx
  ·exact (hap b hb).2 hx
 refine ⟨⟨st.both.tab.touch st'.touch (fun b hb => hnot b (Or.inl hb)), st.both.mem.touch st'.touch (fun b hb => hnot b (Or.inr hb)), st.both.at_, st.both.apart⟩, st'.both, hr, by rw [st.qs, st'.ps], by rw [st.ds, st'.keys, h.ds], fun b hb => ?_, fun b hb => ?_, fun b hb => ?_, ?_, by rw [st'.ps]; exact hc⟩
 ·refine ⟨fun hx => ?_, fun hx => ?_⟩
  ·rcases st'.blocks b hx with h1 | h1
   ·exact (hap b hb).1 h1
   ·have := hlt b hb; omega
  ·rw [st'.sblk] at hx
   exact (hap b hb).2 hx
 ·rcases hx' b hb with h1 | h1
  ·exact h.own b h1
  ·omega
 ·rcases hb with hb | hb
  ·rcases st'.blocks b hb with h1 | h1
   ·exact h.own' b (Or.inl h1)
   ·omega
  ·rw [st'.sblk] at hb
   exact h.own' b (Or.inr hb)
 ·refine (h.touch.trans st.touch (fun b hb => Or.inr (h.own b ?_))).trans st'.touch (fun b hb => Or.inr (h.own' b ?_))
  ·rcases List.mem_append.1 hb with hb | hb
   ·exact Or.inl hb
   ·exact Or.inr hb
  ·rcases List.mem_append.1 hb with hb | hb
   ·exact Or.inl hb
   ·exact Or.inr hb
theorem Duo.perm {w0 w : World} {x : PT} {s : Mem.MS} {y : RT} {u : Mem.RS} {c : Int} (h : Duo w0 w x s y u c) : ∀ r ∈ s.rs, 0 ≤ r.perm ∧ r.perm ≤ 7 := fun r hr => ⟨(h.p.mem.ok r hr).perm0, (h.p.mem.ok r hr).perm1⟩
theorem le_up {qs : List PX} {c : Int} (h : ∀ q ∈ qs, q.clock ≤ c) : ∀ q ∈ qs, q.clock ≤ c + 1 := fun q hq => by have := h q hq; omega
theorem Duo.look_clock {w0 w : World} {x : PT} {s : Mem.MS} {y : RT} {u : Mem.RS} {c : Int} (h : Duo w0 w x s y u c) (i : Int) (bs : List Int) : ∀ q ∈ (lookP x i bs).2, q.clock ≤ c + 1 := by
 have hcl : ∀ q ∈ x.qs, q.clock ≤ c := by rw [h.qs]; exact h.clock
 unfold lookP
 split
 ·cases hq : x.qs[i.toNat]? with
  | none => exact le_up hcl
  | some q =>
   obtain ⟨m, hm, rfl⟩ : ∃ m, x.maps[i.toNat]? = some m ∧ m.q = q := by
    unfold PT.qs at hq
    rw [List.getElem?_map] at hq
    cases hm : x.maps[i.toNat]? with
    | none => rw [hm] at hq; cases hq
    | some m => rw [hm] at hq; exact ⟨m, rfl, by simpa using hq⟩
   exact clock_set hcl hq ((h.p.tab.maps m (List.mem_of_getElem? hm)).good.findA bs).2
 ·exact le_up hcl
theorem Duo.del_clock {w0 w : World} {x : PT} {s : Mem.MS} {y : RT} {u : Mem.RS} {c : Int} (h : Duo w0 w x s y u c) (i : Int) (bs : List Int) : ∀ q ∈ (delP x i bs).2, q.clock ≤ c + 1 := by
 have hcl : ∀ q ∈ x.qs, q.clock ≤ c := by rw [h.qs]; exact h.clock
 unfold delP
 split
 ·cases hq : x.qs[i.toNat]? with
  | none => exact le_up hcl
  | some q =>
   obtain ⟨m, hm, rfl⟩ : ∃ m, x.maps[i.toNat]? = some m ∧ m.q = q := by
    unfold PT.qs at hq
    rw [List.getElem?_map] at hq
    cases hm : x.maps[i.toNat]? with
    | none => rw [hm] at hq; cases hq
    | some m => rw [hm] at hq; exact ⟨m, rfl, by simpa using hq⟩
   exact clock_set hcl hq ((h.p.tab.maps m (List.mem_of_getElem? hm)).good.delA bs).2
 ·exact le_up hcl
theorem Duo.upd_eq {w0 w : World} {x : PT} {s : Mem.MS} {y : RT} {u : Mem.RS} {c : Int} (h : Duo w0 w x s y u c) (i : Int) (bs vs : List Int) (fl : Int) :
  updE s.rs vs (updP x i bs vs fl) = (updI y u.all i bs vs fl).1 ∧ (updP x i bs vs fl).2.1 = (updI y u.all i bs vs fl).2.1 ∧ Mem.Rel (updRs s.rs vs (updP x i bs vs fl)) s.next (updI y u.all i bs vs fl).2.2 ∧ ∀ q ∈ (updP x i bs vs fl).2.1, q.clock ≤ c + 1 := by
 have hcl : ∀ q ∈ x.qs, q.clock ≤ c := by rw [h.qs]; exact h.clock
 have hck := h.check i bs.length
 by_cases h0 : chkP x.ds i bs.length = 0
 ·obtain ⟨k, m, rfl, hm, _⟩ := chk_ok h0
  obtain ⟨m', hm', hq, _, hv⟩ := h.maps hm
  have e1 : updP x k bs vs fl = if (vs.length : Int) = m.d.val then
    (if (m.q.putA bs fl).1.2.2 = 0 then (0, x.qs.set k (m.q.putA bs fl).2, some (plI k (m.q.putA bs fl).1.1))
    else ((m.q.putA bs fl).1.2.2, x.qs.set k (m.q.putA bs fl).2, none))
   else (2, x.qs, none) := by
   unfold updP
   rw [if_pos h0, Int.toNat_natCast, hm]
  have e2 : updI y u.all k bs vs fl = if (vs.length : Int) = m'.val then
    (if (m'.ix.p.putA bs fl).1.2.2 = 0 then (0, y.ps.set k (m'.ix.p.putA bs fl).2, updAll m'.ids u.all (m'.ix.p.putA bs fl).1.1 vs)
    else ((m'.ix.p.putA bs fl).1.2.2, y.ps.set k (m'.ix.p.putA bs fl).2, u.all))
   else (2, y.ps, u.all) := by
   unfold updI
   rw [if_pos (by rw [← hck]; exact h0), Int.toNat_natCast, hm']
  have hqk : x.qs[k]? = some m.q := by unfold PT.qs; rw [List.getElem?_map, hm]; rfl
  have hgood := (h.p.tab.maps m (List.mem_of_getElem? hm)).good
  have hcl2 := clock_set hcl hqk (hgood.putA bs fl).2
  rw [e1, e2, ← hv, ← hq, ← h.qs]
  by_cases hvv : (vs.length : Int) = m.d.val
  ·rw [if_pos hvv, if_pos hvv]
   by_cases he : (m.q.putA bs fl).1.2.2 = 0
   ·rw [if_pos he, if_pos he]
    obtain ⟨sN, hs1, hs2⟩ := pput_slot hgood he
    obtain ⟨m2, id, r, rp, p1, p2, p3, p4, p5, p6, p7, p8, p9, p10⟩ := h.place hm hs2
    rw [hm'] at p1
    injection p1 with p1
    subst p1
    obtain ⟨q1, q2⟩ := MemAt.write_at h.p.mem p5 p10 (vs := vs) (by omega)
    rw [hs1]
    refine ⟨?_, rfl, ?_, hcl2⟩
    ·show Mem.writeE s.rs (plI k sN) vs = 0
     rw [← p8]
     exact q1
    ·show Mem.Rel (Mem.writeRs s.rs (plI k sN) vs) s.next (updAll m'.ids u.all (sN : Int) vs)
     rw [← p8, q2, p6]
     unfold updAll
     rw [Int.toNat_natCast, p2]
     dsimp only
     rw [p3]
     exact h.rel.lay p3 p4 (by rw [p7.bytes]; omega)
   ·rw [if_neg he, if_neg he]
    exact ⟨rfl, rfl, h.rel, hcl2⟩
  ·rw [if_neg hvv, if_neg hvv]
   exact ⟨rfl, rfl, h.rel, le_up hcl⟩
 ·have e1 : updP x i bs vs fl = (chkP x.ds i bs.length, x.qs, none) := if_neg h0
  have e2 : updI y u.all i bs vs fl = (checkI y i bs.length, y.ps, u.all) := if_neg (by rw [← hck]; exact h0)
  rw [e1, e2, ← hck, ← h.qs]
  exact ⟨rfl, rfl, h.rel, le_up hcl⟩
theorem Duo.get_eq {w0 w : World} {x : PT} {s : Mem.MS} {y : RT} {u : Mem.RS} {c : Int} (h : Duo w0 w x s y u c) (i : Int) (bs : List Int) :
  (getP x s.rs i bs).1.2 = (getI y u.all i bs).1.2 ∧ (getP x s.rs i bs).2 = (getI y u.all i bs).2 ∧ (getP x s.rs i bs).2 = (lookP x i bs).2 ∧
   ((getP x s.rs i bs).1.1 = [] ∧ (getI y u.all i bs).1.1 = none ∨ ∃ (id : Nat) (r : Mem.RReg), u.all[id]? = some r ∧ (getI y u.all i bs).1.1 = some r ∧ (getP x s.rs i bs).1.1 = r.bytes) := by
 have hck := h.check i bs.length
 by_cases h0 : chkP x.ds i bs.length = 0
 ·obtain ⟨k, m, rfl, hm, _⟩ := chk_ok h0
  obtain ⟨m', hm', hq, _, hv⟩ := h.maps hm
  have hqk : x.qs[k]? = some m.q := by unfold PT.qs; rw [List.getElem?_map, hm]; rfl
  have e1 : getP x s.rs k bs = ((match (m.q.findA bs).1 with
   | some sl => (Mem.readV s.rs (plI k (sl : Int)) m.d.val, Mem.readE s.rs (plI k (sl : Int)) m.d.val)
   | none => ([], 14)), x.qs.set k (m.q.findA bs).2) := by
   unfold getP
   rw [if_pos h0, Int.toNat_natCast, hm] <;> rfl
  have e2 : getI y u.all k bs = (getR m'.ids u.all (m'.ix.p.findA bs).1, y.ps.set k (m'.ix.p.findA bs).2) := by
   unfold getI
   rw [if_pos (by rw [← hck]; exact h0), Int.toNat_natCast, hm']
  have e3 : (lookP x k bs).2 = x.qs.set k (m.q.findA bs).2 := by
   unfold lookP
   rw [if_pos h0, Int.toNat_natCast, hqk]
  rw [e1, e2, e3, ← hq, ← h.qs]
  cases hf : (m.q.findA bs).1 with
  | none =>
   unfold getR
   exact ⟨rfl, rfl, rfl, Or.inl ⟨rfl, rfl⟩⟩
  | some sl =>
   obtain ⟨id, r, p1, p2, p3, p4⟩ := h.bytes hm hm' (pfind_lt hf)
   unfold getR
   dsimp only
   rw [p1]
   dsimp only
   rw [p2, p3, p4]
   exact ⟨rfl, rfl, rfl, Or.inr ⟨id, r, p2, rfl, rfl⟩⟩
 ·have e1 : getP x s.rs i bs = (([], chkP x.ds i bs.length), x.qs) := if_neg h0
  have e2 : getI y u.all i bs = ((none, checkI y i bs.length), y.ps) := if_neg (by rw [← hck]; exact h0)
  have e3 : (lookP x i bs).2 = x.qs := by unfold lookP; rw [if_neg h0]
  rw [e1, e2, e3, ← hck, ← h.qs]
  exact ⟨rfl, rfl, rfl, Or.inl ⟨rfl, rfl⟩⟩
theorem rwrite_keeps {all : List Mem.RReg} {addr : Int} {bs : List Int} (_ha : 0 ≤ addr) {id : Nat} {r : Mem.RReg} (hr : all[id]? = some r) : ∃ r', (Mem.rwriteAll all addr bs)[id]? = some r' ∧ r'.live = r.live ∧ r'.base = r.base ∧ r'.bytes.length = r.bytes.length ∧ r'.perm = r.perm := by
 unfold Mem.rwriteAll
 split
 ·exact ⟨r, hr, rfl, rfl, rfl, rfl⟩
 ·cases hc : Mem.accI all addr bs.length Mem.canW with
  | none => exact ⟨r, hr, rfl, rfl, rfl, rfl⟩
  | some i =>
   dsimp only
   by_cases e : i = id
   ·subst e
    have hlt := (List.getElem?_eq_some_iff.1 hr).1
    rw [List.getElem?_set_self hlt]
    have hd : all.getD i Mem.RReg.zero = r := by rw [List.getD_eq_getElem?_getD, hr]; rfl
    rw [hd]
    refine ⟨_, rfl, rfl, rfl, ?_, rfl⟩
    unfold Mem.accI at hc
    cases hf : all.findIdx? (Mem.rhasB · addr) with
    | none => rw [hf] at hc; cases hc
    | some j =>
     rw [hf] at hc
     dsimp only at hc
     split at hc
     ·rename_i hcc
      injection hc with hc
      subst hc
      rw [hd] at hcc
      rw [List.findIdx?_eq_some_iff_getElem] at hf
      obtain ⟨hj, hb, _⟩ := hf
      rw [List.getElem?_eq_getElem hj] at hr
      injection hr with hr
      rw [hr] at hb
      unfold Mem.rhasB at hb
      rw [Bool.and_eq_true, decide_eq_true_eq] at hb
      exact Mem.laidTo_len _ _ _ _ (Nat.le_refl _) (by omega)
     ·cases hc
   ·rw [List.getElem?_set_ne e]
    exact ⟨r, hr, rfl, rfl, rfl, rfl⟩
theorem rstore_keeps {all : List Mem.RReg} {addr n v : Int} (ha : 0 ≤ addr) {id : Nat} {r : Mem.RReg} (hr : all[id]? = some r) : ∃ r', (Mem.rstoreAll all addr n v)[id]? = some r' ∧ r'.live = r.live ∧ r'.base = r.base ∧ r'.bytes.length = r.bytes.length ∧ r'.perm = r.perm := by
 unfold Mem.rstoreAll
 split
 ·exact rwrite_keeps ha hr
 ·exact ⟨r, hr, rfl, rfl, rfl, rfl⟩
theorem RBoth.store {w w2 : World} {y : RT} {u : Mem.RS} (h : RBoth w y u) {addr n v : Int} (ha : 0 ≤ addr) (st : Mem.RefStep w u (Mem.rstoreAll u.all addr n v) w2) : USt w w2 y y u y.ps (Mem.rstoreAll u.all addr n v) := by
 obtain ⟨hA, hb, ht⟩ := st
 refine ⟨⟨h.tab.touch ht (fun b hx hy => h.apart b hx hy), hA, h.at_, fun b hx => by rw [hb]; exact h.apart b hx, fun i j id m hm hj => ?_⟩, rfl, rfl, rfl, rfl, hb, ht.mono (fun b hx => Or.inl (List.mem_append_right _ hx)), fun b hx => Or.inl hx⟩
 obtain ⟨r, q1, q2, q3, q4, q5⟩ := h.ids i j id m hm hj
 obtain ⟨r', p1, p2, p3, p4, p5⟩ := rstore_keeps (n := n) (v := v) ha q1
 exact ⟨r', p1, by rw [p2, q2], by rw [p3, q3], by rw [p4]; exact q4, by rw [p5, q5]⟩
theorem PBoth.store {w w2 : World} {x : PT} {s : Mem.MS} (h : PBoth w x s) {addr n v : Int} (hm : Mem.MemAt w2 { s with rs := Mem.storeRs s.rs addr n v }) (hb : ({ s with rs := Mem.storeRs s.rs addr n v } : Mem.MS).blocks = s.blocks) (ht : Touch s.blocks w w2) : PUSt w w2 x x s x.qs (Mem.storeRs s.rs addr n v) :=
 ⟨h.over hm rfl (fun _b hx => Or.inl (hb ▸ hx)) ht, rfl, rfl, rfl, hb, ht.mono (fun _b hx => Or.inl (List.mem_append_right _ hx)), fun _b hx => Or.inl hx⟩
end Go.Proofs.YtmhhahmjkopjhaaGreat
end
section
namespace Go.Proofs.YtmhhahmjkopjhaaGreat.Mem
open Go.RowKit
end Go.Proofs.YtmhhahmjkopjhaaGreat.Mem
end
section
namespace Go.Proofs.YtmhhahmjkopjhaaGreat.Mem
open Go.RowKit
def MS.new (m : Nat) : MS := ⟨m, none, 0, [], 0⟩
theorem memAt_new (w : World) : MemAt (w.alloc (.cells #[.slice none 0 0, .int .i64 0] 79)) (MS.new w.heap.size) where
 self := Blk.newA w #[.slice none 0 0, .int .i64 0] _ 79 rfl
 row := ⟨rfl, by simp [MS.new], by simp [MS.new], rfl⟩
 regs := fun r hr => by cases hr
 ok := fun r hr => by cases hr
 apart := by simp [MS.blocks, MS.new]
 sorted := List.Pairwise.nil
 ids := List.Pairwise.nil
 idlt := fun r hr => by cases hr
 many := by simp [MS.new]
theorem newM_any (w : World) : Calls Tryz.prog 26 #[] w fun e w' => e = .returned (.pointer (some ⟨w.heap.size, 0, none⟩)) ∧ MemAt w' (MS.new w.heap.size) ∧ Touch [] w w' :=
 (new_any w).mono (fun e w' ⟨h1, h2⟩ => ⟨h1, by rw [h2]; exact memAt_new w, by rw [h2]; exact (Touch.refl _ w).alloc _⟩)
end Go.Proofs.YtmhhahmjkopjhaaGreat.Mem
end
section
namespace Go.Proofs.YtmhhahmjkopjhaaGreat
open Go.RowKit
theorem pair_new {w0 w : World} (m : Nat) (hM : Mem.MemAt w (Mem.MS.new m)) (ht : Touch [] w0 w) (hm : w0.heap.size ≤ m) : Mem.Pair w0 (w.alloc (.cells #[.slice none 0 0] 69)) (Mem.MS.new m) ⟨w.heap.size, none, 0, []⟩ where
 mem := hM.touch ((Touch.refl [] w).alloc _) (by simp)
 ref :=
  {self := Blk.newA w #[.slice none 0 0] _ 69 rfl
   row := ⟨rfl, Nat.le_refl _, Nat.zero_le _, rfl⟩
   regs := fun r hr => by cases hr
   ok := fun r hr => by cases hr
   apart := by simp [Mem.RS.blocks]
   many := by simp }
 apart := fun x hx hy => by
  have := hM.lt x hx
  simp [Mem.RS.blocks] at hy
  omega
 own := fun x hx => by
  simp [Mem.MS.blocks, Mem.MS.new] at hx
  omega
 own' := fun x hx => by
  simp [Mem.RS.blocks] at hx
  have := ht.size
  omega
 touch := ht.alloc _
def BothPost (w0 : World) (ds : List MDef) (e : Ending) (w' : World) : Prop :=
 (∃ s u why, why ≠ 0 ∧ e = .returned (.tuple #[.pointer none, .pointer (some ⟨s.m, 0, none⟩), .int .i64 why, .pointer none, .pointer (some ⟨u.m, 0, none⟩), .int .i64 why]) ∧ Mem.Pair w0 w' s u ∧ Mem.Rel s.rs s.next u.all) ∨
 (∃ x s y u, e = .returned (.tuple #[.pointer (some ⟨x.t, 0, none⟩), .pointer (some ⟨s.m, 0, none⟩), .int .i64 0, .pointer (some ⟨y.t, 0, none⟩), .pointer (some ⟨u.m, 0, none⟩), .int .i64 0]) ∧ Duo w0 w' x s y u 0 ∧ x.ds = ds ∧ ds.length ≤ 8 ∧ s.next ≤ 600)
theorem may_facts {ds : List MDef} (h : mayI ds = true) : ds.length ≤ 8 ∧ (∀ d ∈ ds, d.Ok) ∧ ∀ d ∈ ds, 1 ≤ d.max ∧ d.max ≤ 64 ∧ 1 ≤ d.val := by
 unfold mayI at h
 rw [decide_eq_true_iff] at h
 exact ⟨h.1, h.2, fun d hd => by have h9 := h.2 d hd; exact ⟨h9.2.2.2.2.1, h9.2.2.2.2.2.1, h9.2.2.1⟩⟩
theorem room_same {ds : List MDef} {rs : List Mem.Reg} {next : Nat} {all : List Mem.RReg} (hr : Mem.Rel rs next all) (hl : rs.length ≤ 1) (hm : mayI ds = true) : roomOk ds rs ↔ FreeR ds all ds.length := by
 obtain ⟨h1, _, h3⟩ := may_facts hm
 have hb := maxSum_bd ds (fun d hd => by have := h3 d hd; omega)
 constructor
 ·intro h i d hi hd s hs
  rw [hr.busy]
  exact h.1 i d hi hd s hs
 ·intro h
  refine ⟨fun i d hi hd s hs => ?_, by omega⟩
  rw [← hr.busy]
  exact h i d hi hd s hs
theorem duo_new {w0 w w3 w4 : World} {s s' : Mem.MS} {u u' : Mem.RS} {x : PT} {y : RT} {ds : List MDef} (hP : Mem.Pair w0 w s u) (hr : Mem.Rel s.rs s.next u.all) (h1 : PNewAt w w3 x s s' ds) (h2 : RNewAt2 w3 w4 y u u' ds) : Duo w0 w4 x s' y u' 0 := by
 have hsz := h1.touch.size
 have hsz0 := hP.touch.size
 have hul := hP.ref.lt
 have hxl := h1.both.tab.lt
 have hsl := h1.both.mem.lt
 have hn : ∀ b, b ∈ x.blocks ∨ b ∈ s'.blocks → b ∉ u.blocks := fun b hb hx => by
  have h9 := hul b hx
  rcases hb with hb | hb
  ·have := h1.own b hb; omega
  ·rcases h1.mown b hb with h8 | h8
   ·exact hP.apart b h8 hx
   ·omega
 have hlt : ∀ b, b ∈ x.blocks ∨ b ∈ s'.blocks → b < w3.heap.size := fun b hb => by
  rcases hb with hb | hb
  ·exact hxl b hb
  ·exact hsl b hb
 refine ⟨⟨h1.both.tab.touch h2.touch (fun b hb => hn b (Or.inl hb)), h1.both.mem.touch h2.touch (fun b hb => hn b (Or.inr hb)), h1.both.at_, h1.both.apart⟩, h2.both, Rel.adds h1.adds h2.adds hr, by rw [h1.qs, h2.ps], by rw [h1.ds, h2.keys], fun b hb => ⟨fun hx => ?_, fun hx => ?_⟩, fun b hb => ?_, fun b hb => ?_, ?_, fun q hq => ?_⟩
 ·have h9 := h2.own b hx
  have := hlt b hb
  omega
 ·rcases h2.mown b hx with h9 | h9
  ·exact hn b hb h9
  ·have := hlt b hb
   omega
 ·rcases hb with hb | hb
  ·have := h1.own b hb; omega
  ·rcases h1.mown b hb with h8 | h8
   ·exact hP.own b h8
   ·omega
 ·rcases hb with hb | hb
  ·have := h2.own b hb; omega
  ·rcases h2.mown b hb with h8 | h8
   ·exact hP.own' b h8
   ·omega
 ·exact (hP.touch.trans h1.touch (fun b hb => Or.inr (hP.own b hb))).trans h2.touch (fun b hb => Or.inr (hP.own' b hb))
 ·rw [h2.ps] at hq
  obtain ⟨d, _, rfl⟩ := List.mem_map.1 hq
  exact Int.le_refl 0
theorem add_both {w0 w1 w2 w3 : World} {m rm : Nat} {s2 : Mem.MS} {t3 : Mem.RS} {tk : Int} (hP : Mem.Pair w0 w2 s2 ⟨rm, none, 0, []⟩) (hs : Mem.Own w1 (Mem.MS.new m) s2)
  (hbad : Mem.addE (Mem.MS.new m).rs tk 8 3 ≠ 0 → s2 = Mem.MS.new m) (hgood : Mem.addE (Mem.MS.new m).rs tk 8 3 = 0 → s2.next = (Mem.MS.new m).next + 1 ∧ ∃ i r, i ≤ (Mem.MS.new m).rs.length ∧ s2.rs = (Mem.MS.new m).rs.take i ++ r :: (Mem.MS.new m).rs.drop i ∧ Mem.NewReg r (Mem.MS.new m).next tk 8 3)
  (hR3 : Mem.RefAt w3 t3) (ht3 : Touch (⟨rm, none, 0, []⟩ : Mem.RS).blocks w2 w3) (hm3 : t3.m = rm) (hb3 : ∀ x ∈ t3.blocks, x ∈ (⟨rm, none, 0, []⟩ : Mem.RS).blocks ∨ w2.heap.size ≤ x) (hbad3 : Mem.raddE [] tk 8 3 ≠ 0 → t3.all = [])
  (hgood3 : Mem.raddE [] tk 8 3 = 0 → ∃ r, t3.all = [] ++ [r] ∧ r.live = true ∧ r.base = tk ∧ r.perm = 3 ∧ r.bytes = List.replicate (8 : Int).toNat 0 ∧ r.set = List.replicate (8 : Int).toNat (decide ((3 : Int) < 4))) :
  Mem.Pair w0 w3 s2 t3 ∧ Mem.Rel s2.rs s2.next t3.all ∧ s2.rs.length ≤ 1 ∧ s2.next ≤ 1 ∧ t3.all.length ≤ 1 ∧ s2.m = m ∧ t3.m = rm := by
 have hE := Mem.Rel.empty.addE (by simp) tk 8 3
 refine ⟨hP.goR hR3 ht3 hb3, ?_, ?_, ?_, ?_, hs.1, hm3⟩
 ·by_cases h0 : Mem.addE (Mem.MS.new m).rs tk 8 3 = 0
  ·obtain ⟨hn, i, r, _, hrs, hnew⟩ := hgood h0
   obtain ⟨x, hx, hl, hxb, hxp, hxby, hxs⟩ := hgood3 (hE.trans h0)
   rw [hn, hrs, hx]
   exact Mem.Rel.empty.add hnew.hid (Mem.Twin.new hnew (hP.mem.ok r (by rw [hrs]; simp)) hl hxb hxp hxby hxs)
  ·rw [hbad h0, hbad3 (by rw [hE]; exact h0)]
   exact Mem.Rel.empty
 ·by_cases h0 : Mem.addE (Mem.MS.new m).rs tk 8 3 = 0
  ·obtain ⟨hn, i, r, _, hrs, hnew⟩ := hgood h0
   rw [hrs]
   simp [Mem.MS.new]
  ·rw [hbad h0]
   simp [Mem.MS.new]
 ·by_cases h0 : Mem.addE (Mem.MS.new m).rs tk 8 3 = 0
  ·rw [(hgood h0).1]
   exact Nat.le_refl _
  ·rw [hbad h0]
   exact Nat.zero_le _
 ·by_cases h0 : Mem.addE (Mem.MS.new m).rs tk 8 3 = 0
  ·obtain ⟨x, hx, _⟩ := hgood3 (hE.trans h0)
   rw [hx]
   exact Nat.le_refl _
  ·rw [hbad3 (by rw [hE]; exact h0)]
   exact Nat.zero_le _
theorem DefsAt.old {w : World} {sa : Option Addr} {n : Nat} {ds : List MDef} (h : DefsAt w sa n ds) {b off : Nat} (e : sa = some ⟨b, off, none⟩) (h1 : 1 ≤ n) : b < w.heap.size := by
 obtain ⟨b', off', e', hc⟩ := h.at_ h1
 rw [e] at e'
 injection e' with e'
 injection e' with e1
 have e1 : b = b' := e1
 rw [e1]
 have hl := h.len
 exact World.block_lt_of_cell? _ _ (hc 0 ds[0] (List.getElem?_eq_getElem (by omega)) 0 _ rfl)
set_option maxHeartbeats 4000000 in
set_option maxRecDepth 100000 in
theorem both_any {w : World} {sa : Option Addr} {n sc : Nat} {ds : List MDef} (hd : DefsAt w sa n ds) (tk : Int) (t0 : 0 ≤ tk) (t1 : tk ≤ 18446744073709551615) :
  Calls Tryz.prog 8 #[.slice sa n sc, .int .u64 tk] w (BothPost w ds) := by
 have HD := toHid hd
 clear hd
 go_enter Tryz.func8, Tryz.ntmps8
 go_wp2_with fail
 refine (Mem.newM_any _).mono ?_
 rintro e w2 ⟨rfl, hm, ht⟩
 have HP := toHid (pair_new w.heap.size hm ht (Nat.le_refl _))
 have H1 := toHid (Mem.add_any HP.out.mem tk 8 3 t0 t1 (by show 0 < 4611686018427387904; omega))
 clear hm ht
 go_wp2_with fail
 refine H1.out.mono ?_
 rintro e w3 ⟨rfl, ht3, s2, hM2, hO2, hbad, hgood⟩
 have hP3 := HP.out.goM hM2 ht3 hO2.2
 have H2 := toHid (Mem.radd_any hP3.ref tk 8 3 t0 t1 (by show 0 < 1000; omega))
 have HY := toHid (And.intro hP3 (And.intro hO2 (And.intro hbad hgood)))
 generalize (if Mem.addE (Mem.MS.new w.heap.size).rs tk 8 3 = 0 then ((Mem.MS.new w.heap.size).next : Int) else 0) = q1
 generalize Mem.addE (Mem.MS.new w.heap.size).rs tk 8 3 = q2
 clear hP3 hM2 ht3 hO2 hbad hgood H1 HP
 go_wp2_with fail
 refine H2.out.mono ?_
 rintro e w4 ⟨rfl, ht4, t3, hR3, hm3, hb3, hbad3, hgood3⟩
 have HQ := toHid (add_both HY.out.1 HY.out.2.1 HY.out.2.2.1 HY.out.2.2.2 hR3 ht4 hm3 hb3 hbad3 hgood3)
 clear hR3 ht4 hm3 hb3 hbad3 hgood3 HY H2
 generalize (if Mem.raddE ({ m := w2.heap.size, g := none, cap := 0, all := [] } : Mem.RS).all tk 8 3 = 0 then ((({ m := w2.heap.size, g := none, cap := 0, all := [] } : Mem.RS).all.length : Nat) : Int) else 0) = q3
 generalize Mem.raddE ({ m := w2.heap.size, g := none, cap := 0, all := [] } : Mem.RS).all tk 8 3 = q4
 have hs2 := HQ.out.2.2.2.2.2.1
 have hu3 := HQ.out.2.2.2.2.2.2
 have hd4 := HD.out.touch HQ.out.1.touch
 have H1 := toHid (pnew_any HQ.out.1.mem (by have := HQ.out.2.2.2.1; omega) (sc := sc) hd4)
 rw [hs2] at H1
 have HRS := toHid (room_same (ds := ds) HQ.out.2.1 HQ.out.2.2.1)
 clear hs2 hd4
 go_wp2_with fail
 refine H1.out.mono ?_
 rintro e w5 hp
 have HPP := toHid hp
 clear hp H1
 rcases HPP.out with ⟨hno, rfl, ht5⟩ | ⟨hyes, hno, rfl, ht5⟩ | ⟨hyes, hroom, x, s', rfl, hN⟩
 ·have hP5 := HQ.out.1.still ht5
  have H2 := toHid (rtnew_any hP5.ref (by have := HQ.out.2.2.2.2.1; omega) (sc := sc) (HD.out.touch hP5.touch) (fun b off e h1 hx => by
   have := HD.out.old e h1
   have := HQ.out.1.own' b hx
   omega))
  rw [hu3] at H2
  have HF := toHid hP5
  clear hP5 ht5 HPP
  go_wp2_with fail
  refine H2.out.mono ?_
  rintro e w6 hp
  obtain ⟨rfl, ht6⟩ : e = .returned (.tuple #[.pointer none, .int .i64 2]) ∧ Touch [] w5 w6 := by
   rcases hp with ⟨_, h1, h2⟩ | ⟨h1, _⟩ | ⟨h1, _⟩
   ·exact ⟨h1, h2⟩
   ·rw [hno] at h1; cases h1
   ·rw [hno] at h1; cases h1
  have HG : Hid (BothPost w ds (.returned (.tuple #[.pointer none, .pointer (some ⟨w.heap.size, 0, none⟩), .int .i64 2, .pointer none, .pointer (some ⟨w2.heap.size, 0, none⟩), .int .i64 2])) w6) := Or.inl ⟨s2, t3, 2, by decide, by rw [HQ.out.2.2.2.2.2.1, hu3], HF.out.still ht6, HQ.out.2.1⟩
  clear ht6 hp H2
  go_wp2
  exact bodyPost_ret (by simp [results, Tryz.results8, go_sem]; try rfl) rfl HG.out
 ·have hP5 := HQ.out.1.still ht5
  have H2 := toHid (rtnew_any hP5.ref (by have := HQ.out.2.2.2.2.1; omega) (sc := sc) (HD.out.touch hP5.touch) (fun b off e h1 hx => by
   have := HD.out.old e h1
   have := HQ.out.1.own' b hx
   omega))
  rw [hu3] at H2
  have HF := toHid hP5
  have HNO := toHid (And.intro hyes hno)
  clear hP5 ht5 HPP hno hyes
  go_wp2_with fail
  refine H2.out.mono ?_
  rintro e w6 hp
  obtain ⟨rfl, ht6⟩ : e = .returned (.tuple #[.pointer none, .int .i64 12]) ∧ Touch [] w5 w6 := by
   rcases hp with ⟨h1, _⟩ | ⟨_, _, h1, h2⟩ | ⟨_, h1, _⟩
   ·rw [HNO.out.1] at h1; cases h1
   ·exact ⟨h1, h2⟩
   ·exact absurd ((HRS.out HNO.out.1).2 h1) HNO.out.2
  have HG : Hid (BothPost w ds (.returned (.tuple #[.pointer none, .pointer (some ⟨w.heap.size, 0, none⟩), .int .i64 12, .pointer none, .pointer (some ⟨w2.heap.size, 0, none⟩), .int .i64 12])) w6) := Or.inl ⟨s2, t3, 12, by decide, by rw [HQ.out.2.2.2.2.2.1, hu3], HF.out.still ht6, HQ.out.2.1⟩
  clear ht6 hp H2
  go_wp2
  exact bodyPost_ret (by simp [results, Tryz.results8, go_sem]; try rfl) rfl HG.out
 ·have hR5 : Mem.RefAt w5 t3 := HQ.out.1.ref.touch hN.touch (fun b hb hx => HQ.out.1.apart b hx hb)
  have hT5 : Touch [] w w5 := HQ.out.1.touch.trans hN.touch (fun b hb => Or.inr (HQ.out.1.own b hb))
  have H2 := toHid (rtnew_any hR5 (by have := HQ.out.2.2.2.2.1; omega) (sc := sc) (HD.out.touch hT5) (fun b off e h1 hx => by
   have := HD.out.old e h1
   have := HQ.out.1.own' b hx
   omega))
  rw [hu3] at H2
  have HF := toHid (And.intro hyes (And.intro hroom hN))
  clear hR5 hT5 HPP hyes hroom hN
  go_wp2_with fail
  refine H2.out.mono ?_
  rintro e w6 hp
  obtain ⟨y, u', rfl, hN2⟩ : ∃ y u', e = .returned (.tuple #[.pointer (some ⟨y.t, 0, none⟩), .int .i64 0]) ∧ RNewAt2 w5 w6 y t3 u' ds := by
   rcases hp with ⟨h1, _⟩ | ⟨_, h1, _⟩ | ⟨_, _, y, u', h1, h2⟩
   ·rw [HF.out.1] at h1; cases h1
   ·exact absurd ((HRS.out HF.out.1).1 HF.out.2.1) h1
   ·exact ⟨y, u', h1, h2⟩
  have HG : Hid (BothPost w ds (.returned (.tuple #[.pointer (some ⟨x.t, 0, none⟩), .pointer (some ⟨w.heap.size, 0, none⟩), .int .i64 0, .pointer (some ⟨y.t, 0, none⟩), .pointer (some ⟨w2.heap.size, 0, none⟩), .int .i64 0])) w6) := Or.inr ⟨x, s', y, u', by rw [HF.out.2.2.m, HQ.out.2.2.2.2.2.1, hN2.m, hu3], duo_new HQ.out.1 HQ.out.2.1 HF.out.2.2 hN2, HF.out.2.2.ds, (may_facts HF.out.1).1, by
   have h1 := HF.out.2.2.adds.facts.2.1
   have h2 := may_facts HF.out.1
   have h3 := plcs_len (ds := ds) (k := ds.length) (Nat.le_refl _) (fun d hd => by have := h2.2.2 d hd; omega)
   rw [List.take_length] at h3
   have h4 := maxSum_bd ds (fun d hd => by have := h2.2.2 d hd; omega)
   have h5 := HQ.out.2.2.2.1
   dsimp only at h1
   omega⟩
  clear hN2 hp H2 HF
  go_wp2
  exact bodyPost_ret (by simp [results, Tryz.results8, go_sem]; try rfl) rfl HG.out
end Go.Proofs.YtmhhahmjkopjhaaGreat
end
section
namespace Go.Proofs.YtmhhahmjkopjhaaGreat
open Go.RowKit
structure OpT where
 k : Int
 mp : Int
 ka : Option Addr
 kl : Nat
 kc : Nat
 kb : List Int
 va : Option Addr
 vl : Nat
 vc : Nat
 vb : List Int
 fl : Int
structure OpT.Ok (w : World) (o : OpT) : Prop where
 k0 : -9223372036854775808 ≤ o.k
 k1 : o.k ≤ 9223372036854775807
 m0 : -9223372036854775808 ≤ o.mp
 m1 : o.mp ≤ 9223372036854775807
 f0 : 0 ≤ o.fl
 f1 : o.fl ≤ 18446744073709551615
 key : KeyAt w o.ka o.kl o.kb
 val : KeyAt w o.va o.vl o.vb
 kcap : o.kl ≤ o.kc
def OpT.cells (o : OpT) : List Value := [.int .i64 o.k, .int .i64 o.mp, .slice o.ka o.kl o.kc, .slice o.va o.vl o.vc, .int .u64 o.fl]
def opT (o : OpT) : Value := .agg #[.int .i64 o.k, .int .i64 o.mp, .slice o.ka o.kl o.kc, .slice o.va o.vl o.vc, .int .u64 o.fl]
theorem KeyAt.old {w : World} {sa : Option Addr} {sl : Nat} {bs : List Int} (h : KeyAt w sa sl bs) {b off : Nat} (e : sa = some ⟨b, off, none⟩) (h1 : 1 ≤ bs.length) : b < w.heap.size := by
 obtain ⟨b', off', e', hc⟩ := h.2.2.2 h1
 rw [e] at e'
 injection e' with e'
 injection e' with e1
 have e1 : b = b' := e1
 rw [e1]
 exact World.block_lt_of_cell? _ _ (hc 0 (by omega))
end Go.Proofs.YtmhhahmjkopjhaaGreat
end
section
namespace Go.Proofs.YtmhhahmjkopjhaaGreat
open Go.RowKit
def OnePost (w0 : World) (x : PT) (s : Mem.MS) (y : RT) (u : Mem.RS) (c : Int) (e : Ending) (w' : World) : Prop :=
 e = .returned (.bool true) ∧ ∃ x' s' y' u', Duo w0 w' x' s' y' u' (c + 1) ∧ x'.t = x.t ∧ (s'.m, s'.next) = (s.m, s.next) ∧ y'.t = y.t ∧ u'.m = u.m ∧ x'.ds = x.ds
theorem kind6 (k0 : Int) : ∃ q : Nat, q < 6 ∧ (IntKind.u64.wrap k0).tmod 6 = q := by
 rw [IntKind.wrap_u64, Int.tmod_eq_emod_of_nonneg (by omega)]
 exact ⟨(k0 % 18446744073709551616 % 6).toNat, by omega, by omega⟩
theorem Duo.box {w0 w : World} {x : PT} {s : Mem.MS} {y : RT} {u : Mem.RS} {c : Int} (h : Duo w0 w x s y u c) : w.heap.size ∉ x.blocks ∧ w.heap.size ∉ s.blocks ∧ w.heap.size ∉ y.blocks ∧ w.heap.size ∉ u.blocks :=
 ⟨fun hx => by have := h.p.tab.lt _ hx; omega, fun hx => by have := h.p.mem.lt _ hx; omega, fun hx => by have := h.r.tab.lt _ hx; omega, fun hx => by have := h.r.mem.lt _ hx; omega⟩
set_option maxHeartbeats 4000000 in
set_option maxRecDepth 100000 in
theorem one_look {w0 w : World} {x : PT} {s : Mem.MS} {y : RT} {u : Mem.RS} {c : Int} (h : Duo w0 w x s y u c) (hc : c < 1000000000) (o : OpT) (ok : o.Ok w0) (hk : (IntKind.u64.wrap o.k).tmod 6 = 0) :
  Calls Tryz.prog 13 #[.pointer (some ⟨x.t, 0, none⟩), .pointer (some ⟨s.m, 0, none⟩), .pointer (some ⟨y.t, 0, none⟩), .pointer (some ⟨u.m, 0, none⟩), opT o] w (OnePost w0 x s y u c) := by
 have hta : Touch [] w (w.alloc (.cells o.cells.toArray 41)) := (Touch.refl [] w).alloc _
 have hD := h.still hta
 have hkey := ok.key.touch hD.touch
 have H1 := toHid (plookup_any hD.p.tab o.mp hkey o.kc ok.kcap)
 have hB := Blk.newA w o.cells.toArray _ 41 rfl
 have HX := toHid (And.intro hD (And.intro ok (And.intro hB (And.intro h.box (And.intro hc (And.intro (h.look o.mp o.kb) (h.look_clock o.mp o.kb)))))))
 unfold opT
 unfold OpT.cells at *
 generalize hlp : lookP x o.mp o.kb = lp at *
 clear h hD hkey ok hB hta hlp
 go_enter Tryz.func13, Tryz.ntmps13
 go_wp2_with fail
 refine Calls.mono H1.out ?_
 rintro e w2 ⟨rfl, x1, st⟩
 obtain ⟨hD, ok, hB, hbx, hc, heq, hcl⟩ := HX.out
 have hb2 := st.touch.blk hB hbx.1
 have e1 := hb2.cell (i := 1) rfl
 have e2 := hb2.cell (i := 2) rfl
 have hyB : ∀ b ∈ y.blocks, b ∉ x.blocks := fun b hb hx => (hD.apart b (Or.inl hx)).1 hb
 have hr2 := hD.r.tab.touch st.touch hyB
 have hkey2 := (ok.key.touch hD.touch).over st.touch (fun b off e h1 hx => by have := ok.key.old e h1; have := hD.own b (Or.inl hx); omega)
 have H2 := toHid (rlookup_any hr2 (hD.clocks (by omega)) o.mp hkey2 o.kc ok.kcap)
 rw [← heq] at H2
 have HS := toHid st
 clear hD ok hB hbx hc heq hcl st hb2 hyB hr2 hkey2 H1
 go_wp2_with fail
 refine Calls.mono H2.out ?_
 rintro e w3 ⟨rfl, y1, st'⟩
 have HF := toHid (HX.out.1.step HS.out st' HX.out.2.2.2.2.2.2)
 have HE : Hid (x1.t = x.t ∧ y1.t = y.t ∧ x1.ds = x.ds) := ⟨HS.out.t, st'.t, HS.out.ds⟩
 obtain ⟨⟨a1, a2⟩, qs⟩ := lp
 clear st' e1 e2 H2
 go_wp2
 go_ret
 exact ⟨by simp, x1, s, y1, u, HF.out, HE.out.1, rfl, HE.out.2.1, rfl, HE.out.2.2⟩
set_option maxHeartbeats 4000000 in
set_option maxRecDepth 100000 in
theorem one_del {w0 w : World} {x : PT} {s : Mem.MS} {y : RT} {u : Mem.RS} {c : Int} (h : Duo w0 w x s y u c) (hc : c < 1000000000) (o : OpT) (ok : o.Ok w0) (hk : (IntKind.u64.wrap o.k).tmod 6 = 2) :
  Calls Tryz.prog 13 #[.pointer (some ⟨x.t, 0, none⟩), .pointer (some ⟨s.m, 0, none⟩), .pointer (some ⟨y.t, 0, none⟩), .pointer (some ⟨u.m, 0, none⟩), opT o] w (OnePost w0 x s y u c) := by
 have hta : Touch [] w (w.alloc (.cells o.cells.toArray 41)) := (Touch.refl [] w).alloc _
 have hD := h.still hta
 have hB := Blk.newA w o.cells.toArray _ 41 rfl
 have hTd : Touch [] w (w.alloc (.cells o.cells.toArray 41)).drew := hta.drew
 have hDd := h.still hTd
 have hkey := ok.key.touch hDd.touch
 have H1 := toHid (pdelete_any hDd.p.tab o.mp hkey o.kc ok.kcap)
 have HX := toHid (And.intro hDd (And.intro ok (And.intro hB.drew (And.intro h.box (And.intro hc (And.intro (h.del o.mp o.kb) (h.del_clock o.mp o.kb)))))))
 unfold opT
 unfold OpT.cells at *
 generalize hlp : delP x o.mp o.kb = lp at *
 clear h hD hDd hkey ok hB hta hTd hlp
 have HSS : Hid (∀ S w', Touch S (w.alloc (.cells #[.int .i64 o.k, .int .i64 o.mp, .slice o.ka o.kl o.kc, .slice o.va o.vl o.vc, .int .u64 o.fl] 41)).drew w' → w.heap.size ∉ S → w'.cell? ⟨w.heap.size, 1, none⟩ = some (.int .i64 o.mp) ∧ w'.cell? ⟨w.heap.size, 2, none⟩ = some (.slice o.ka o.kl o.kc)) := fun S w' ht hn => by
  have h9 := ht.blk HX.out.2.2.1 hn
  exact ⟨h9.cell rfl, h9.cell rfl⟩
 go_enter Tryz.func13, Tryz.ntmps13
 go_wp2_with fail
 refine wp_region_held_drew (S := fun w' => w'.cell? ⟨w.heap.size, 1, none⟩ = some (.int .i64 o.mp) ∧ w'.cell? ⟨w.heap.size, 2, none⟩ = some (.slice o.ka o.kl o.kc)) (by kernel_rfl) ?_ (fun hHeld => ?_)
 ·exact HSS.out [] _ (Touch.refl _ _) (by simp)
 refine wpAnyH_take (i := 0) (v := ?_) rfl (by kernel_rfl) (by kernel_rfl) (by kernel_rfl) (fun _ _ _ h => h) (Or.inl ⟨by rfl, ?_⟩) (by assumption) ?_
 rotate_left
 ·(intro w hSw; (try dsimp only at hSw); go_simp; try with_reducible rfl)
 simp only [Act.put, List.getElem_toArray, List.getElem_cons_zero, List.setIfInBounds_toArray, List.set_cons_zero, List.set_cons_succ]
 refine wpAnyH_take (i := 1) (v := ?_) rfl (by kernel_rfl) (by kernel_rfl) (by kernel_rfl) (fun _ _ _ h => h) (Or.inl ⟨by rfl, ?_⟩) (by assumption) ?_
 rotate_left
 ·(intro w hSw; (try dsimp only at hSw); go_simp; try with_reducible rfl)
 simp only [Act.put, List.getElem_toArray, List.getElem_cons_zero, List.getElem_cons_succ, List.setIfInBounds_toArray, List.set_cons_zero, List.set_cons_succ]
 refine wpAnyH_take (i := 2) (v := ?_) rfl (by kernel_rfl) (by kernel_rfl) (by kernel_rfl) (fun _ _ _ h => h) (Or.inl ⟨by rfl, ?_⟩) (by assumption) ?_
 rotate_left
 ·(intro w hSw; (try dsimp only at hSw); go_simp; try with_reducible rfl)
 simp only [Act.put, List.getElem_toArray, List.getElem_cons_zero, List.getElem_cons_succ, List.setIfInBounds_toArray, List.set_cons_zero, List.set_cons_succ]
 refine wpAnyH_take (i := 3) (v := ?_) rfl (by kernel_rfl) (by kernel_rfl) (by kernel_rfl) (fun _ _ _ h => h) (Or.inl ⟨by rfl, ?_⟩) (by assumption) ?_
 rotate_left
 ·(intro w hSw; (try dsimp only at hSw); go_simp; try with_reducible rfl)
 simp only [Act.put, List.getElem_toArray, List.getElem_cons_zero, List.getElem_cons_succ, List.setIfInBounds_toArray, List.set_cons_zero, List.set_cons_succ]
 refine wpAnyH_take (i := 4) (v := ?_) rfl (by kernel_rfl) (by kernel_rfl) (by kernel_rfl) (fun _ _ _ h => h) (Or.inl ⟨by rfl, ?_⟩) (by assumption) ?_
 rotate_left
 ·(intro w hSw; (try dsimp only at hSw); go_simp; try with_reducible rfl)
 simp only [Act.put, List.getElem_toArray, List.getElem_cons_zero, List.getElem_cons_succ, List.setIfInBounds_toArray, List.set_cons_zero, List.set_cons_succ]
 refine wpAnyH_take (i := 6) (v := ?_) rfl (by kernel_rfl) (by kernel_rfl) (by kernel_rfl) (fun _ _ _ h => h) (Or.inl ⟨by rfl, ?_⟩) (by assumption) ?_
 rotate_left
 ·(intro w hSw; (try dsimp only at hSw); go_simp; try with_reducible rfl)
 simp only [Act.put, List.getElem_toArray, List.getElem_cons_zero, List.getElem_cons_succ, List.setIfInBounds_toArray, List.set_cons_zero, List.set_cons_succ]
 refine wpAnyH_take (i := 7) (v := ?_) rfl (by kernel_rfl) (by kernel_rfl) (by kernel_rfl) (fun _ _ _ h => h) (Or.inl ⟨by rfl, ?_⟩) (by assumption) ?_
 rotate_left
 ·(intro w hSw; (try dsimp only at hSw); go_simp; try with_reducible rfl)
 simp only [Act.put, List.getElem_toArray, List.getElem_cons_zero, List.getElem_cons_succ, List.setIfInBounds_toArray, List.set_cons_zero, List.set_cons_succ]
 refine wpAnyH_take (i := 8) (v := ?_) rfl (by kernel_rfl) (by kernel_rfl) (by kernel_rfl) (fun _ _ _ h => h) (Or.inl ⟨by rfl, ?_⟩) (by assumption) ?_
 rotate_left
 ·(intro w hSw; (try dsimp only at hSw); go_simp; try with_reducible rfl)
 simp only [Act.put, List.getElem_toArray, List.getElem_cons_zero, List.getElem_cons_succ, List.setIfInBounds_toArray, List.set_cons_zero, List.set_cons_succ]
 refine wpAnyH_take (i := 9) (v := ?_) rfl (by kernel_rfl) (by kernel_rfl) (by kernel_rfl) (fun _ _ _ h => h) (Or.inl ⟨by rfl, ?_⟩) (by assumption) ?_
 rotate_left
 ·(intro w hSw; (try dsimp only at hSw); go_simp; try with_reducible rfl)
 simp only [Act.put, List.getElem_toArray, List.getElem_cons_zero, List.getElem_cons_succ, List.setIfInBounds_toArray, List.set_cons_zero, List.set_cons_succ]
 refine wpAnyH_take (i := 10) (v := ?_) rfl (by kernel_rfl) (by kernel_rfl) (by kernel_rfl) (fun _ _ _ h => h) (Or.inl ⟨by rfl, ?_⟩) (by assumption) ?_
 rotate_left
 ·(intro w hSw; (try dsimp only at hSw); go_simp; try with_reducible rfl)
 simp only [Act.put, List.getElem_toArray, List.getElem_cons_zero, List.getElem_cons_succ, List.setIfInBounds_toArray, List.set_cons_zero, List.set_cons_succ]
 refine wpAnyH_ready (rs := [5]) (by kernel_rfl) (by simp) ?_
 refine AllReadyH.cons rfl (fun K hK => ?_) AllReadyH.nil
 simp only [List.getElem_toArray, List.getElem_cons_zero, List.getElem_cons_succ]
 go_simp
 refine Calls.mono H1.out ?_; rintro e w2 ⟨rfl, x1, st⟩; have HS := toHid st; clear st
 go_wp2_with fail
 refine hK.out _ _ ?_ (fun hHeld => ?_)
 ·exact HSS.out _ _ HS.out.touch HX.out.2.2.2.1.1
 clear hK K
 try simp only [Act.put, List.getElem_toArray, List.getElem_cons_zero, List.getElem_cons_succ, List.setIfInBounds_toArray, List.set_cons_zero, List.set_cons_succ]
 refine wpAnyH_ready (rs := [11]) (by kernel_rfl) (by simp) ?_
 refine AllReadyH.cons rfl (fun K hK => ?_) AllReadyH.nil
 simp only [List.getElem_toArray, List.getElem_cons_zero, List.getElem_cons_succ]
 go_simp
 refine Calls.mono (by obtain ⟨hD, ok, hB, hbx, hc, heq, hcl⟩ := HX.out; have hr2 := hD.r.tab.touch HS.out.touch (fun b hb hx => (hD.apart b (Or.inl hx)).1 hb); have hkey2 := (ok.key.touch hD.touch).over HS.out.touch (fun b off e h1 hx => by have := ok.key.old e h1; have := hD.own b (Or.inl hx); omega); have h9 := rtdelete_any hr2 (hD.clocks (by omega)) o.mp hkey2 o.kc ok.kcap; rw [← heq] at h9; exact h9) ?_; rintro e w3 ⟨rfl, y1, st'⟩; have HF := toHid (HX.out.1.step HS.out st' HX.out.2.2.2.2.2.2); have HE : Hid (x1.t = x.t ∧ y1.t = y.t ∧ x1.ds = x.ds) := ⟨HS.out.t, st'.t, HS.out.ds⟩; have HT3 := toHid st'.touch; clear st'
 go_wp2_with fail
 refine hK.out _ _ ?_ (fun hHeld => ?_)
 ·exact HSS.out (x.blocks ++ y.blocks) _ ((HS.out.touch.mono (S' := x.blocks ++ y.blocks) (fun b hb => Or.inl (List.mem_append_left _ hb))).trans HT3.out (fun b hb => Or.inl (List.mem_append_right _ hb))) (fun hx => by rcases List.mem_append.1 hx with hx | hx; exact HX.out.2.2.2.1.1 hx; exact HX.out.2.2.2.1.2.2.1 hx)
 clear hK K
 try simp only [Act.put, List.getElem_toArray, List.getElem_cons_zero, List.getElem_cons_succ, List.setIfInBounds_toArray, List.set_cons_zero, List.set_cons_succ]
 refine wpAnyH_take (i := 12) (v := ?_) rfl (by kernel_rfl) (by kernel_rfl) (by kernel_rfl) (fun _ _ _ h => h) (Or.inl ⟨by rfl, ?_⟩) (by assumption) ?_
 rotate_left
 ·(intro w hSw; (try dsimp only at hSw); go_simp; try with_reducible rfl)
 simp only [Act.put, List.getElem_toArray, List.getElem_cons_zero, List.getElem_cons_succ, List.setIfInBounds_toArray, List.set_cons_zero, List.set_cons_succ]
 refine wpAnyH_ready (rs := [13]) (by kernel_rfl) (by simp) ?_
 refine AllReadyH.cons rfl (fun K hK => ?_) AllReadyH.nil
 simp only [List.getElem_toArray, List.getElem_cons_zero, List.getElem_cons_succ]
 go_simp
 refine hK.out _ _ ?_ (fun hHeld => ?_)
 ·exact hHeld
 clear hK K
 try simp only [Act.put, List.getElem_toArray, List.getElem_cons_zero, List.getElem_cons_succ, List.setIfInBounds_toArray, List.set_cons_zero, List.set_cons_succ]
 refine wpAnyH_done (by kernel_rfl) ?_ _
 clear hHeld HSS
 obtain ⟨a1, qs⟩ := lp
 go_wp2
 go_ret
 exact ⟨by simp, x1, s, y1, u, HF.out, HE.out.1, rfl, HE.out.2.1, rfl, HE.out.2.2⟩
end Go.Proofs.YtmhhahmjkopjhaaGreat
end
section
namespace Go.Proofs.YtmhhahmjkopjhaaGreat
open Go.RowKit
set_option maxHeartbeats 4000000 in
set_option maxRecDepth 100000 in
theorem one_upd {w0 w : World} {x : PT} {s : Mem.MS} {y : RT} {u : Mem.RS} {c : Int} (h : Duo w0 w x s y u c) (hc : c < 1000000000) (o : OpT) (ok : o.Ok w0) (hk : (IntKind.u64.wrap o.k).tmod 6 = 1) :
  Calls Tryz.prog 13 #[.pointer (some ⟨x.t, 0, none⟩), .pointer (some ⟨s.m, 0, none⟩), .pointer (some ⟨y.t, 0, none⟩), .pointer (some ⟨u.m, 0, none⟩), opT o] w (OnePost w0 x s y u c) := by
 have hta : Touch [] w (w.alloc (.cells o.cells.toArray 41)) := (Touch.refl [] w).alloc _
 have hD := h.still hta
 have hB := Blk.newA w o.cells.toArray _ 41 rfl
 have hTd : Touch [] w (w.alloc (.cells o.cells.toArray 41)).drew := hta.drew
 have hDd := h.still hTd
 have hkey := ok.key.touch hDd.touch
 have hval := ok.val.touch hDd.touch
 have H1 := toHid (pupdate_any hDd.p o.mp hkey o.kc ok.kcap (fun b off e h1 hx => by have := ok.key.old e h1; have := hDd.own b (Or.inl hx); omega) hval o.vc (fun b off e h1 hx => by have := ok.val.old e h1; have := hDd.own b (Or.inl hx); omega) o.fl ok.f0)
 obtain ⟨q1, q2, q3, q4⟩ := hDd.upd_eq o.mp o.kb o.vb o.fl
 have HX := toHid (And.intro hDd (And.intro ok (And.intro hB.drew (And.intro h.box (And.intro hc (And.intro q2 (And.intro q3 q4)))))))
 unfold PUpdPost at H1
 rw [q1] at H1
 unfold opT
 unfold OpT.cells at *
 generalize hpa : updP x o.mp o.kb o.vb o.fl = pa at *
 generalize hra : updI y u.all o.mp o.kb o.vb o.fl = ra at *
 have HRA := toHid hra
 have HB := toHid h.box
 clear h hD hDd hkey hval ok hB hta hTd hpa q1 q2 q3 q4 hra
 have HSS : Hid (∀ S w', Touch S (w.alloc (.cells #[.int .i64 o.k, .int .i64 o.mp, .slice o.ka o.kl o.kc, .slice o.va o.vl o.vc, .int .u64 o.fl] 41)).drew w' → w.heap.size ∉ S → w'.cell? ⟨w.heap.size, 1, none⟩ = some (.int .i64 o.mp) ∧ w'.cell? ⟨w.heap.size, 2, none⟩ = some (.slice o.ka o.kl o.kc) ∧ w'.cell? ⟨w.heap.size, 3, none⟩ = some (.slice o.va o.vl o.vc) ∧ w'.cell? ⟨w.heap.size, 4, none⟩ = some (.int .u64 o.fl)) := fun S w' ht hn => by
  have h9 := ht.blk HX.out.2.2.1 hn
  exact ⟨h9.cell rfl, h9.cell rfl, h9.cell rfl, h9.cell rfl⟩
 have HN1 : Hid (w.heap.size ∉ x.blocks ++ s.blocks) := fun hx => by
  rcases List.mem_append.1 hx with hx | hx
  ·exact HB.out.1 hx
  ·exact HB.out.2.1 hx
 have HN2 : Hid (w.heap.size ∉ (x.blocks ++ s.blocks) ++ (y.blocks ++ u.blocks)) := fun hx => by
  rcases List.mem_append.1 hx with hx | hx
  ·exact HN1.out hx
  ·rcases List.mem_append.1 hx with hx | hx
   ·exact HB.out.2.2.1 hx
   ·exact HB.out.2.2.2 hx
 have H2 : Hid (∀ w2 x1, PUSt (w.alloc (.cells #[.int .i64 o.k, .int .i64 o.mp, .slice o.ka o.kl o.kc, .slice o.va o.vl o.vc, .int .u64 o.fl] 41)).drew w2 x x1 s pa.2.1 (updRs s.rs o.vb pa) → Calls Tryz.prog 34 #[.pointer (some ⟨y.t, 0, none⟩), .int .i64 o.mp, .slice o.ka o.kl o.kc, .slice o.va o.vl o.vc, .int .u64 o.fl] w2 (UpdPost w2 y u ra)) := fun w2 x1 st => by
  obtain ⟨hD, ok, _⟩ := HX.out
  have hno : ∀ b, b ∈ y.blocks ∨ b ∈ u.blocks → b ∉ x.blocks ++ s.blocks := fun b hb hx => by
   rcases List.mem_append.1 hx with hx | hx
   ·rcases hb with hb | hb
    ·exact (hD.apart b (Or.inl hx)).1 hb
    ·exact (hD.apart b (Or.inl hx)).2 hb
   ·rcases hb with hb | hb
    ·exact (hD.apart b (Or.inr hx)).1 hb
    ·exact (hD.apart b (Or.inr hx)).2 hb
  have hold : ∀ b, b < w0.heap.size → b ∉ x.blocks ++ s.blocks := fun b hb hx => by
   rcases List.mem_append.1 hx with hx | hx
   ·have := hD.own b (Or.inl hx); omega
   ·have := hD.own b (Or.inr hx); omega
  have hr2 : RBoth w2 y u := ⟨hD.r.tab.touch st.touch (fun b hb => hno b (Or.inl hb)), hD.r.mem.touch st.touch (fun b hb => hno b (Or.inr hb)), hD.r.at_, hD.r.apart, hD.r.ids⟩
  have hkey2 := (ok.key.touch hD.touch).over st.touch (fun b off e h1 => hold b (ok.key.old e h1))
  have hval2 := (ok.val.touch hD.touch).over st.touch (fun b off e h1 => hold b (ok.val.old e h1))
  have h9 := rupdate_any hr2 (hD.clocks (by have := HX.out.2.2.2.2.1; omega)) o.mp hkey2 o.kc ok.kcap (fun h1 b off e hx => by have := ok.key.old e h1; have := hD.own' b (Or.inl hx); omega) hval2 o.vc (fun b off e h1 => ⟨fun hx => by have := ok.val.old e h1; have := hD.own' b (Or.inl hx); omega, fun hx => by have := ok.val.old e h1; have := hD.own' b (Or.inr hx); omega⟩) o.fl ok.f0
  rw [HRA.out] at h9
  exact h9
 go_enter Tryz.func13, Tryz.ntmps13
 go_wp2_with fail
 refine wp_region_held_drew (S := fun w' => w'.cell? ⟨w.heap.size, 1, none⟩ = some (.int .i64 o.mp) ∧ w'.cell? ⟨w.heap.size, 2, none⟩ = some (.slice o.ka o.kl o.kc) ∧ w'.cell? ⟨w.heap.size, 3, none⟩ = some (.slice o.va o.vl o.vc) ∧ w'.cell? ⟨w.heap.size, 4, none⟩ = some (.int .u64 o.fl)) (by kernel_rfl) ?_ (fun hHeld => ?_)
 ·exact HSS.out [] _ (Touch.refl _ _) (by simp)
 refine wpAnyH_take (i := 0) (v := ?_) rfl (by kernel_rfl) (by kernel_rfl) (by kernel_rfl) (fun _ _ _ h => h) (Or.inl ⟨by rfl, ?_⟩) (by assumption) ?_
 rotate_left
 ·(intro w hSw; (try dsimp only at hSw); go_simp; try with_reducible rfl)
 simp only [Act.put, List.getElem_toArray, List.getElem_cons_zero, List.setIfInBounds_toArray, List.set_cons_zero, List.set_cons_succ]
 refine wpAnyH_take (i := 1) (v := ?_) rfl (by kernel_rfl) (by kernel_rfl) (by kernel_rfl) (fun _ _ _ h => h) (Or.inl ⟨by rfl, ?_⟩) (by assumption) ?_
 rotate_left
 ·(intro w hSw; (try dsimp only at hSw); go_simp; try with_reducible rfl)
 simp only [Act.put, List.getElem_toArray, List.getElem_cons_zero, List.getElem_cons_succ, List.setIfInBounds_toArray, List.set_cons_zero, List.set_cons_succ]
 refine wpAnyH_take (i := 2) (v := ?_) rfl (by kernel_rfl) (by kernel_rfl) (by kernel_rfl) (fun _ _ _ h => h) (Or.inl ⟨by rfl, ?_⟩) (by assumption) ?_
 rotate_left
 ·(intro w hSw; (try dsimp only at hSw); go_simp; try with_reducible rfl)
 simp only [Act.put, List.getElem_toArray, List.getElem_cons_zero, List.getElem_cons_succ, List.setIfInBounds_toArray, List.set_cons_zero, List.set_cons_succ]
 refine wpAnyH_take (i := 3) (v := ?_) rfl (by kernel_rfl) (by kernel_rfl) (by kernel_rfl) (fun _ _ _ h => h) (Or.inl ⟨by rfl, ?_⟩) (by assumption) ?_
 rotate_left
 ·(intro w hSw; (try dsimp only at hSw); go_simp; try with_reducible rfl)
 simp only [Act.put, List.getElem_toArray, List.getElem_cons_zero, List.getElem_cons_succ, List.setIfInBounds_toArray, List.set_cons_zero, List.set_cons_succ]
 refine wpAnyH_take (i := 4) (v := ?_) rfl (by kernel_rfl) (by kernel_rfl) (by kernel_rfl) (fun _ _ _ h => h) (Or.inl ⟨by rfl, ?_⟩) (by assumption) ?_
 rotate_left
 ·(intro w hSw; (try dsimp only at hSw); go_simp; try with_reducible rfl)
 simp only [Act.put, List.getElem_toArray, List.getElem_cons_zero, List.getElem_cons_succ, List.setIfInBounds_toArray, List.set_cons_zero, List.set_cons_succ]
 refine wpAnyH_take (i := 5) (v := ?_) rfl (by kernel_rfl) (by kernel_rfl) (by kernel_rfl) (fun _ _ _ h => h) (Or.inl ⟨by rfl, ?_⟩) (by assumption) ?_
 rotate_left
 ·(intro w hSw; (try dsimp only at hSw); go_simp; try with_reducible rfl)
 simp only [Act.put, List.getElem_toArray, List.getElem_cons_zero, List.getElem_cons_succ, List.setIfInBounds_toArray, List.set_cons_zero, List.set_cons_succ]
 refine wpAnyH_take (i := 6) (v := ?_) rfl (by kernel_rfl) (by kernel_rfl) (by kernel_rfl) (fun _ _ _ h => h) (Or.inl ⟨by rfl, ?_⟩) (by assumption) ?_
 rotate_left
 ·(intro w hSw; (try dsimp only at hSw); go_simp; try with_reducible rfl)
 simp only [Act.put, List.getElem_toArray, List.getElem_cons_zero, List.getElem_cons_succ, List.setIfInBounds_toArray, List.set_cons_zero, List.set_cons_succ]
 refine wpAnyH_take (i := 7) (v := ?_) rfl (by kernel_rfl) (by kernel_rfl) (by kernel_rfl) (fun _ _ _ h => h) (Or.inl ⟨by rfl, ?_⟩) (by assumption) ?_
 rotate_left
 ·(intro w hSw; (try dsimp only at hSw); go_simp; try with_reducible rfl)
 simp only [Act.put, List.getElem_toArray, List.getElem_cons_zero, List.getElem_cons_succ, List.setIfInBounds_toArray, List.set_cons_zero, List.set_cons_succ]
 refine wpAnyH_take (i := 8) (v := ?_) rfl (by kernel_rfl) (by kernel_rfl) (by kernel_rfl) (fun _ _ _ h => h) (Or.inl ⟨by rfl, ?_⟩) (by assumption) ?_
 rotate_left
 ·(intro w hSw; (try dsimp only at hSw); go_simp; try with_reducible rfl)
 simp only [Act.put, List.getElem_toArray, List.getElem_cons_zero, List.getElem_cons_succ, List.setIfInBounds_toArray, List.set_cons_zero, List.set_cons_succ]
 refine wpAnyH_take (i := 10) (v := ?_) rfl (by kernel_rfl) (by kernel_rfl) (by kernel_rfl) (fun _ _ _ h => h) (Or.inl ⟨by rfl, ?_⟩) (by assumption) ?_
 rotate_left
 ·(intro w hSw; (try dsimp only at hSw); go_simp; try with_reducible rfl)
 simp only [Act.put, List.getElem_toArray, List.getElem_cons_zero, List.getElem_cons_succ, List.setIfInBounds_toArray, List.set_cons_zero, List.set_cons_succ]
 refine wpAnyH_take (i := 11) (v := ?_) rfl (by kernel_rfl) (by kernel_rfl) (by kernel_rfl) (fun _ _ _ h => h) (Or.inl ⟨by rfl, ?_⟩) (by assumption) ?_
 rotate_left
 ·(intro w hSw; (try dsimp only at hSw); go_simp; try with_reducible rfl)
 simp only [Act.put, List.getElem_toArray, List.getElem_cons_zero, List.getElem_cons_succ, List.setIfInBounds_toArray, List.set_cons_zero, List.set_cons_succ]
 refine wpAnyH_take (i := 12) (v := ?_) rfl (by kernel_rfl) (by kernel_rfl) (by kernel_rfl) (fun _ _ _ h => h) (Or.inl ⟨by rfl, ?_⟩) (by assumption) ?_
 rotate_left
 ·(intro w hSw; (try dsimp only at hSw); go_simp; try with_reducible rfl)
 simp only [Act.put, List.getElem_toArray, List.getElem_cons_zero, List.getElem_cons_succ, List.setIfInBounds_toArray, List.set_cons_zero, List.set_cons_succ]
 refine wpAnyH_take (i := 13) (v := ?_) rfl (by kernel_rfl) (by kernel_rfl) (by kernel_rfl) (fun _ _ _ h => h) (Or.inl ⟨by rfl, ?_⟩) (by assumption) ?_
 rotate_left
 ·(intro w hSw; (try dsimp only at hSw); go_simp; try with_reducible rfl)
 simp only [Act.put, List.getElem_toArray, List.getElem_cons_zero, List.getElem_cons_succ, List.setIfInBounds_toArray, List.set_cons_zero, List.set_cons_succ]
 refine wpAnyH_take (i := 14) (v := ?_) rfl (by kernel_rfl) (by kernel_rfl) (by kernel_rfl) (fun _ _ _ h => h) (Or.inl ⟨by rfl, ?_⟩) (by assumption) ?_
 rotate_left
 ·(intro w hSw; (try dsimp only at hSw); go_simp; try with_reducible rfl)
 simp only [Act.put, List.getElem_toArray, List.getElem_cons_zero, List.getElem_cons_succ, List.setIfInBounds_toArray, List.set_cons_zero, List.set_cons_succ]
 refine wpAnyH_take (i := 15) (v := ?_) rfl (by kernel_rfl) (by kernel_rfl) (by kernel_rfl) (fun _ _ _ h => h) (Or.inl ⟨by rfl, ?_⟩) (by assumption) ?_
 rotate_left
 ·(intro w hSw; (try dsimp only at hSw); go_simp; try with_reducible rfl)
 simp only [Act.put, List.getElem_toArray, List.getElem_cons_zero, List.getElem_cons_succ, List.setIfInBounds_toArray, List.set_cons_zero, List.set_cons_succ]
 refine wpAnyH_take (i := 16) (v := ?_) rfl (by kernel_rfl) (by kernel_rfl) (by kernel_rfl) (fun _ _ _ h => h) (Or.inl ⟨by rfl, ?_⟩) (by assumption) ?_
 rotate_left
 ·(intro w hSw; (try dsimp only at hSw); go_simp; try with_reducible rfl)
 simp only [Act.put, List.getElem_toArray, List.getElem_cons_zero, List.getElem_cons_succ, List.setIfInBounds_toArray, List.set_cons_zero, List.set_cons_succ]
 refine wpAnyH_take (i := 17) (v := ?_) rfl (by kernel_rfl) (by kernel_rfl) (by kernel_rfl) (fun _ _ _ h => h) (Or.inl ⟨by rfl, ?_⟩) (by assumption) ?_
 rotate_left
 ·(intro w hSw; (try dsimp only at hSw); go_simp; try with_reducible rfl)
 simp only [Act.put, List.getElem_toArray, List.getElem_cons_zero, List.getElem_cons_succ, List.setIfInBounds_toArray, List.set_cons_zero, List.set_cons_succ]
 refine wpAnyH_take (i := 18) (v := ?_) rfl (by kernel_rfl) (by kernel_rfl) (by kernel_rfl) (fun _ _ _ h => h) (Or.inl ⟨by rfl, ?_⟩) (by assumption) ?_
 rotate_left
 ·(intro w hSw; (try dsimp only at hSw); go_simp; try with_reducible rfl)
 simp only [Act.put, List.getElem_toArray, List.getElem_cons_zero, List.getElem_cons_succ, List.setIfInBounds_toArray, List.set_cons_zero, List.set_cons_succ]
 refine wpAnyH_ready (rs := [9]) (by kernel_rfl) (by simp) ?_
 refine AllReadyH.cons rfl (fun K hK => ?_) AllReadyH.nil
 simp only [List.getElem_toArray, List.getElem_cons_zero, List.getElem_cons_succ]
 go_simp
 refine Calls.mono H1.out ?_; rintro e w2 ⟨rfl, x1, st⟩; have HS := toHid st; clear st
 go_wp2_with fail
 refine hK.out _ _ ?_ (fun hHeld => ?_)
 ·exact HSS.out _ _ HS.out.touch HN1.out
 clear hK K
 try simp only [Act.put, List.getElem_toArray, List.getElem_cons_zero, List.getElem_cons_succ, List.setIfInBounds_toArray, List.set_cons_zero, List.set_cons_succ]
 refine wpAnyH_ready (rs := [19]) (by kernel_rfl) (by simp) ?_
 refine AllReadyH.cons rfl (fun K hK => ?_) AllReadyH.nil
 simp only [List.getElem_toArray, List.getElem_cons_zero, List.getElem_cons_succ]
 go_simp
 refine Calls.mono (H2.out _ _ HS.out) ?_; rintro e w3 ⟨rfl, y1, st'⟩; have HF := toHid (HX.out.1.upd HS.out (by have h9 := HX.out.2.2.2.2.2.1; rw [h9]; exact st') HX.out.2.2.2.2.2.2.1 HX.out.2.2.2.2.2.2.2); have HE : Hid (x1.t = x.t ∧ y1.t = y.t ∧ x1.ds = x.ds) := ⟨HS.out.t, st'.t, HS.out.ds⟩; have HT3 := toHid st'.touch; clear st'
 go_wp2_with fail
 refine hK.out _ _ ?_ (fun hHeld => ?_)
 ·exact HSS.out _ _ ((HS.out.touch.mono (S' := (x.blocks ++ s.blocks) ++ (y.blocks ++ u.blocks)) (fun b hb => Or.inl (List.mem_append_left _ hb))).trans HT3.out (fun b hb => Or.inl (List.mem_append_right _ hb))) HN2.out
 clear hK K
 try simp only [Act.put, List.getElem_toArray, List.getElem_cons_zero, List.getElem_cons_succ, List.setIfInBounds_toArray, List.set_cons_zero, List.set_cons_succ]
 refine wpAnyH_take (i := 20) (v := ?_) rfl (by kernel_rfl) (by kernel_rfl) (by kernel_rfl) (fun _ _ _ h => h) (Or.inl ⟨by rfl, ?_⟩) (by assumption) ?_
 rotate_left
 ·(intro w hSw; (try dsimp only at hSw); go_simp; try with_reducible rfl)
 simp only [Act.put, List.getElem_toArray, List.getElem_cons_zero, List.getElem_cons_succ, List.setIfInBounds_toArray, List.set_cons_zero, List.set_cons_succ]
 refine wpAnyH_ready (rs := [21]) (by kernel_rfl) (by simp) ?_
 refine AllReadyH.cons rfl (fun K hK => ?_) AllReadyH.nil
 simp only [List.getElem_toArray, List.getElem_cons_zero, List.getElem_cons_succ]
 go_simp
 refine hK.out _ _ ?_ (fun hHeld => ?_)
 ·exact hHeld
 clear hK K
 try simp only [Act.put, List.getElem_toArray, List.getElem_cons_zero, List.getElem_cons_succ, List.setIfInBounds_toArray, List.set_cons_zero, List.set_cons_succ]
 refine wpAnyH_done (by kernel_rfl) ?_ _
 clear hHeld HSS
 obtain ⟨a1, qs, all⟩ := ra
 go_wp2
 go_ret
 exact ⟨by simp, x1, _, y1, _, HF.out, HE.out.1, rfl, HE.out.2.1, rfl, HE.out.2.2⟩
end Go.Proofs.YtmhhahmjkopjhaaGreat
end
section
namespace Go.Proofs.YtmhhahmjkopjhaaGreat
open Go.RowKit
set_option maxHeartbeats 4000000 in
set_option maxRecDepth 100000 in
theorem one_get {w0 w : World} {x : PT} {s : Mem.MS} {y : RT} {u : Mem.RS} {c : Int} (h : Duo w0 w x s y u c) (hc : c < 1000000000) (o : OpT) (ok : o.Ok w0) (hk : (IntKind.u64.wrap o.k).tmod 6 = 3) :
  Calls Tryz.prog 13 #[.pointer (some ⟨x.t, 0, none⟩), .pointer (some ⟨s.m, 0, none⟩), .pointer (some ⟨y.t, 0, none⟩), .pointer (some ⟨u.m, 0, none⟩), opT o] w (OnePost w0 x s y u c) := by
 have hta : Touch [] w (w.alloc (.cells o.cells.toArray 41)) := (Touch.refl [] w).alloc _
 have hD := h.still hta
 have hB := Blk.newA w o.cells.toArray _ 41 rfl
 have hkey := ok.key.touch hD.touch
 have H1 := toHid (pget_any hD.p o.mp hkey o.kc ok.kcap)
 obtain ⟨q1, q2, q3, q4⟩ := hD.get_eq o.mp o.kb
 have HX := toHid (And.intro hD (And.intro ok (And.intro hB (And.intro h.box (And.intro hc (And.intro q2 (And.intro (by rw [q3]; exact h.look_clock o.mp o.kb : ∀ q ∈ (getP x s.rs o.mp o.kb).2, q.clock ≤ c + 1) q4)))))))
 unfold PGetPost at H1
 rw [q1] at H1
 unfold opT
 unfold OpT.cells at *
 generalize hpa : getP x s.rs o.mp o.kb = pa at *
 generalize hra : getI y u.all o.mp o.kb = ra at *
 have HRA := toHid hra
 clear h hD hkey ok hB hta hpa q1 q2 q3 q4 hra
 go_enter Tryz.func13, Tryz.ntmps13
 go_wp2_with fail
 refine Calls.mono H1.out ?_
 rintro e w2 ⟨v, rfl, hsl, hfr, x1, st⟩
 obtain ⟨hD, ok, hB, hbx, hc, heq, hcl, hby⟩ := HX.out
 have hb2 := st.touch.blk hB hbx.1
 have e1 := hb2.cell (i := 1) rfl
 have e2 := hb2.cell (i := 2) rfl
 have hr2 : RBoth w2 y u := ⟨hD.r.tab.touch st.touch (fun b hb hx => (hD.apart b (Or.inl hx)).1 hb), hD.r.mem.touch st.touch (fun b hb hx => (hD.apart b (Or.inl hx)).2 hb), hD.r.at_, hD.r.apart, hD.r.ids⟩
 have hkey2 := (ok.key.touch hD.touch).over st.touch (fun b off e h1 hx => by have := ok.key.old e h1; have := hD.own b (Or.inl hx); omega)
 have H2 := toHid (rget_any hr2 (hD.clocks (by omega)) o.mp hkey2 o.kc ok.kcap)
 rw [HRA.out] at H2
 have HS := toHid (And.intro st (And.intro hsl (And.intro hr2 hfr)))
 have hvs : ∃ sa sl sc, v = .slice sa sl sc := by
  rcases hsl with ⟨_, rfl⟩ | ⟨_, N, rfl, _⟩ <;> exact ⟨_, _, _, rfl⟩
 obtain ⟨sa, sl, sc, rfl⟩ := hvs
 clear hD ok hB hbx hc heq hcl hby st hb2 hr2 hkey2 H1 hsl hfr
 go_wp2_with fail
 refine Calls.mono H2.out ?_
 rintro e w3 ⟨rfl, y1, st'⟩
 obtain ⟨st, hsl, hr2, hfr⟩ := HS.out
 obtain ⟨hD, ok, hB, hbx, hc, heq, hcl, hby⟩ := HX.out
 have HF := toHid (hD.step st (by rw [heq]; exact st') hcl)
 have HE : Hid (x1.t = x.t ∧ y1.t = y.t ∧ x1.ds = x.ds) := ⟨st.t, st'.t, st.ds⟩
 have hbd : ∀ b ∈ pa.1.1, 0 ≤ b ∧ b ≤ 255 := fun b hb => by
  rcases hby with ⟨h1, _⟩ | ⟨id, r, h1, _, h3⟩
  ·rw [h1] at hb; cases hb
  ·rw [h3] at hb
   exact (hr2.mem.ok r (List.mem_of_getElem? h1)).byte b hb
 have hkp : KeyAt w3 sa sl pa.1.1 := by
  rcases hsl with ⟨hn, hv⟩ | ⟨h1, N, hv, hBN⟩
  ·injection hv with q1 q2
   rw [hn, q1, q2]
   exact ⟨rfl, by simp, by simp, by simp⟩
  ·injection hv with q1 q2
   have hN := hfr N 0 sl sc (by rw [q1])
   have hB3 := st'.touch.blk hBN (fun hx => by have := hD.r.tab.lt N hx; omega)
   have hlen := HX.out.1.touch.size
   refine ⟨q2, hbd, ?_, fun _ => ⟨N, 0, q1, fun j hj => ?_⟩⟩
   ·rcases hby with ⟨h1, _⟩ | ⟨id, r, h1, _, h3⟩
    ·rw [h1]; simp
    ·rw [h3]
     have := (hr2.mem.ok r (List.mem_of_getElem? h1)).size2
     omega
   ·rw [Nat.zero_add]
    refine hB3.cell ?_
    rw [List.getElem?_map, List.getElem?_eq_getElem hj, List.getD_eq_getElem?_getD, List.getElem?_eq_getElem hj]
    rfl
 have hrp : ∃ ra9 rl rc, regV ra.1.1 = .slice ra9 rl rc ∧ KeyAt w3 ra9 rl pa.1.1 := by
  rcases hby with ⟨h1, h2⟩ | ⟨id, r, h1, h2, h3⟩
  ·rw [h2, h1]
   exact ⟨none, 0, 0, rfl, rfl, by simp, by simp, by simp⟩
  ·rw [h2, h3]
   have hR := hr2.step st'
   obtain ⟨rest, hRB⟩ := (hR.mem.regs r (List.mem_of_getElem? h1)).bytes
   have hro := hR.mem.ok r (List.mem_of_getElem? h1)
   refine ⟨_, _, _, rfl, rfl, hro.byte, by have := hro.size2; omega, fun _ => ⟨r.bb, 0, rfl, fun j hj => ?_⟩⟩
   rw [Nat.zero_add]
   refine hRB.cell ?_
   rw [List.getElem?_append_left (by simpa using hj), List.getElem?_map, List.getElem?_eq_getElem hj, List.getD_eq_getElem?_getD, List.getElem?_eq_getElem hj]
   rfl
 obtain ⟨ra9, rl, rc, hrv, hkr⟩ := hrp
 have hc1 := hkp.conv sc
 have hc2 := hkr.conv rc
 rw [hrv]
 generalize strOfNums pa.1.1 = A at *
 obtain ⟨⟨a1, a2⟩, qs⟩ := ra
 clear hD ok hB hbx hc heq hcl hby st st' hsl hr2 hfr hbd hkp hkr H2 HX HS e1 e2 hrv HRA
 go_wp2
 go_ret
 exact ⟨by simp, x1, s, y1, u, HF.out, HE.out.1, rfl, HE.out.2.1, rfl, HE.out.2.2⟩
end Go.Proofs.YtmhhahmjkopjhaaGreat
end
section
namespace Go.Proofs.YtmhhahmjkopjhaaGreat
open Go.RowKit
set_option maxHeartbeats 4000000 in
set_option maxRecDepth 100000 in
theorem one_store {w0 w : World} {x : PT} {s : Mem.MS} {y : RT} {u : Mem.RS} {c : Int} (h : Duo w0 w x s y u c) (hc : c < 1000000000) (o : OpT) (ok : o.Ok w0) (hk : (IntKind.u64.wrap o.k).tmod 6 = 5) :
  Calls Tryz.prog 13 #[.pointer (some ⟨x.t, 0, none⟩), .pointer (some ⟨s.m, 0, none⟩), .pointer (some ⟨y.t, 0, none⟩), .pointer (some ⟨u.m, 0, none⟩), opT o] w (OnePost w0 x s y u c) := by
 have hta : Touch [] w (w.alloc (.cells o.cells.toArray 41)) := (Touch.refl [] w).alloc _
 have hD := h.still hta
 have hB := Blk.newA w o.cells.toArray _ 41 rfl
 obtain ⟨i, hi8, hi⟩ : ∃ i : Nat, i < 8 ∧ (IntKind.u64.wrap o.mp).tmod 8 = i := by
  rw [IntKind.wrap_u64, Int.tmod_eq_emod_of_nonneg (by omega)]
  exact ⟨(o.mp % 18446744073709551616 % 8).toNat, by omega, by omega⟩
 obtain ⟨sl, hs64, hsl⟩ : ∃ sl : Nat, sl < 64 ∧ o.fl.tmod 64 = sl := by
  have := ok.f0
  rw [Int.tmod_eq_emod_of_nonneg (by omega)]
  exact ⟨(o.fl % 64).toNat, by omega, by omega⟩
 have w1 : IntKind.i64.wrap (i : Int) = i := by rw [IntKind.wrap_i64]; omega
 have w2 : IntKind.i64.wrap (sl : Int) = sl := by rw [IntKind.wrap_i64]; omega
 have HP := toHid (rplace_any (w.alloc (.cells o.cells.toArray 41)) i sl hi8 hs64)
 have hpl0 : 0 ≤ placeI i sl := by unfold placeI; omega
 have hpl1 : placeI i sl ≤ 18446744073709551615 := by unfold placeI; omega
 have hDd := hD.still ((Touch.refl [] (w.alloc (.cells o.cells.toArray 41))).drew)
 have H1 := toHid (Mem.store_any hDd.p.mem (placeI i sl) 1 o.fl hpl0 hpl1 ok.f0)
 have HX := toHid (And.intro hDd (And.intro ok (And.intro hB.drew (And.intro h.box (And.intro hc (And.intro hpl0 hpl1))))))
 have hE := hDd.rel.storeE hDd.p.mem.sorted hDd.perm (placeI i sl) 1
 have HE := toHid hE
 unfold Mem.StorePost at H1
 unfold opT
 unfold OpT.cells at *
 generalize hpl : placeI i sl = pl at *
 clear h hD hDd ok hB hta hpl hpl0 hpl1 hE
 have HSS : Hid (∀ S w', Touch S (w.alloc (.cells #[.int .i64 o.k, .int .i64 o.mp, .slice o.ka o.kl o.kc, .slice o.va o.vl o.vc, .int .u64 o.fl] 41)).drew w' → w.heap.size ∉ S → w'.cell? ⟨w.heap.size, 4, none⟩ = some (.int .u64 o.fl)) := fun S w' ht hn => by
  have h9 := ht.blk HX.out.2.2.1 hn
  exact h9.cell rfl
 go_enter Tryz.func13, Tryz.ntmps13
 go_wp2_with fail
 refine Calls.mono HP.out ?_
 rintro e w' ⟨rfl, rfl⟩
 go_wp2_with fail
 refine wp_region_held_drew (S := fun w' => w'.cell? ⟨w.heap.size, 4, none⟩ = some (.int .u64 o.fl)) (by kernel_rfl) ?_ (fun hHeld => ?_)
 ·exact HSS.out [] _ (Touch.refl _ _) (by simp)
 refine wpAnyH_take (i := 0) (v := ?_) rfl (by kernel_rfl) (by kernel_rfl) (by kernel_rfl) (fun _ _ _ h => h) (Or.inl ⟨by rfl, ?_⟩) (by assumption) ?_
 rotate_left
 ·(intro w hSw; (try dsimp only at hSw); go_simp; try with_reducible rfl)
 simp only [Act.put, List.getElem_toArray, List.getElem_cons_zero, List.setIfInBounds_toArray, List.set_cons_zero, List.set_cons_succ]
 refine wpAnyH_take (i := 1) (v := ?_) rfl (by kernel_rfl) (by kernel_rfl) (by kernel_rfl) (fun _ _ _ h => h) (Or.inl ⟨by rfl, ?_⟩) (by assumption) ?_
 rotate_left
 ·(intro w hSw; (try dsimp only at hSw); go_simp; try with_reducible rfl)
 simp only [Act.put, List.getElem_toArray, List.getElem_cons_zero, List.getElem_cons_succ, List.setIfInBounds_toArray, List.set_cons_zero, List.set_cons_succ]
 refine wpAnyH_take (i := 2) (v := ?_) rfl (by kernel_rfl) (by kernel_rfl) (by kernel_rfl) (fun _ _ _ h => h) (Or.inl ⟨by rfl, ?_⟩) (by assumption) ?_
 rotate_left
 ·(intro w hSw; (try dsimp only at hSw); go_simp; try with_reducible rfl)
 simp only [Act.put, List.getElem_toArray, List.getElem_cons_zero, List.getElem_cons_succ, List.setIfInBounds_toArray, List.set_cons_zero, List.set_cons_succ]
 refine wpAnyH_take (i := 3) (v := ?_) rfl (by kernel_rfl) (by kernel_rfl) (by kernel_rfl) (fun _ _ _ h => h) (Or.inl ⟨by rfl, ?_⟩) (by assumption) ?_
 rotate_left
 ·(intro w hSw; (try dsimp only at hSw); go_simp; try with_reducible rfl)
 simp only [Act.put, List.getElem_toArray, List.getElem_cons_zero, List.getElem_cons_succ, List.setIfInBounds_toArray, List.set_cons_zero, List.set_cons_succ]
 refine wpAnyH_take (i := 5) (v := ?_) rfl (by kernel_rfl) (by kernel_rfl) (by kernel_rfl) (fun _ _ _ h => h) (Or.inl ⟨by rfl, ?_⟩) (by assumption) ?_
 rotate_left
 ·(intro w hSw; (try dsimp only at hSw); go_simp; try with_reducible rfl)
 simp only [Act.put, List.getElem_toArray, List.getElem_cons_zero, List.getElem_cons_succ, List.setIfInBounds_toArray, List.set_cons_zero, List.set_cons_succ]
 refine wpAnyH_take (i := 6) (v := ?_) rfl (by kernel_rfl) (by kernel_rfl) (by kernel_rfl) (fun _ _ _ h => h) (Or.inl ⟨by rfl, ?_⟩) (by assumption) ?_
 rotate_left
 ·(intro w hSw; (try dsimp only at hSw); go_simp; try with_reducible rfl)
 simp only [Act.put, List.getElem_toArray, List.getElem_cons_zero, List.getElem_cons_succ, List.setIfInBounds_toArray, List.set_cons_zero, List.set_cons_succ]
 refine wpAnyH_take (i := 7) (v := ?_) rfl (by kernel_rfl) (by kernel_rfl) (by kernel_rfl) (fun _ _ _ h => h) (Or.inl ⟨by rfl, ?_⟩) (by assumption) ?_
 rotate_left
 ·(intro w hSw; (try dsimp only at hSw); go_simp; try with_reducible rfl)
 simp only [Act.put, List.getElem_toArray, List.getElem_cons_zero, List.getElem_cons_succ, List.setIfInBounds_toArray, List.set_cons_zero, List.set_cons_succ]
 refine wpAnyH_take (i := 8) (v := ?_) rfl (by kernel_rfl) (by kernel_rfl) (by kernel_rfl) (fun _ _ _ h => h) (Or.inl ⟨by rfl, ?_⟩) (by assumption) ?_
 rotate_left
 ·(intro w hSw; (try dsimp only at hSw); go_simp; try with_reducible rfl)
 simp only [Act.put, List.getElem_toArray, List.getElem_cons_zero, List.getElem_cons_succ, List.setIfInBounds_toArray, List.set_cons_zero, List.set_cons_succ]
 refine wpAnyH_ready (rs := [4]) (by kernel_rfl) (by simp) ?_
 refine AllReadyH.cons rfl (fun K hK => ?_) AllReadyH.nil
 simp only [List.getElem_toArray, List.getElem_cons_zero, List.getElem_cons_succ]
 go_simp
 refine Calls.mono H1.out ?_; rintro e w2 ⟨rfl, ht2, hm2, hb2⟩; have HS := toHid (HX.out.1.p.store hm2 hb2 ht2); have HT2 := toHid ht2; clear ht2 hm2 hb2
 go_wp2_with fail
 refine hK.out _ _ ?_ (fun hHeld => ?_)
 ·exact HSS.out _ _ HT2.out HX.out.2.2.2.1.2.1
 clear hK K
 try simp only [Act.put, List.getElem_toArray, List.getElem_cons_zero, List.getElem_cons_succ, List.setIfInBounds_toArray, List.set_cons_zero, List.set_cons_succ]
 refine wpAnyH_ready (rs := [9]) (by kernel_rfl) (by simp) ?_
 refine AllReadyH.cons rfl (fun K hK => ?_) AllReadyH.nil
 simp only [List.getElem_toArray, List.getElem_cons_zero, List.getElem_cons_succ]
 go_simp
 refine Calls.mono (by obtain ⟨hD, ok, hB, hbx, hc, hpl0, hpl1⟩ := HX.out; have hr2 : RBoth _ y u := ⟨hD.r.tab.touch HT2.out (fun b hb hx => (hD.apart b (Or.inr hx)).1 hb), hD.r.mem.touch HT2.out (fun b hb hx => (hD.apart b (Or.inr hx)).2 hb), hD.r.at_, hD.r.apart, hD.r.ids⟩; have h9 := (Mem.rstore_any hr2.mem pl 1 o.fl hpl0 hpl1 ok.f0 ok.f1).mono (fun e w' (hh : _ ∧ _) => And.intro hh.1 (And.intro (hr2.store hpl0 hh.2) hh.2.2.2)); rw [HE.out] at h9; exact h9) ?_; rintro e w3 ⟨rfl, st', ht3⟩; have HF := toHid (HX.out.1.upd HS.out (by have h9 := HX.out.1.qs; rw [h9]; exact st') (HX.out.1.rel.store HX.out.1.p.mem.sorted HX.out.1.perm pl 1 o.fl) (by have h9 := HX.out.1.clock; have h8 := HX.out.1.qs; rw [← h8] at h9; exact le_up h9)); have HT3 := toHid ht3; clear st' ht3
 go_wp2_with fail
 refine hK.out _ _ ?_ (fun hHeld => ?_)
 ·exact HSS.out (s.blocks ++ u.blocks) _ ((HT2.out.mono (S' := s.blocks ++ u.blocks) (fun b hb => Or.inl (List.mem_append_left _ hb))).trans HT3.out (fun b hb => Or.inl (List.mem_append_right _ hb))) (fun hx => by rcases List.mem_append.1 hx with hx | hx; exact HX.out.2.2.2.1.2.1 hx; exact HX.out.2.2.2.1.2.2.2 hx)
 clear hK K
 try simp only [Act.put, List.getElem_toArray, List.getElem_cons_zero, List.getElem_cons_succ, List.setIfInBounds_toArray, List.set_cons_zero, List.set_cons_succ]
 refine wpAnyH_take (i := 10) (v := ?_) rfl (by kernel_rfl) (by kernel_rfl) (by kernel_rfl) (fun _ _ _ h => h) (Or.inl ⟨by rfl, ?_⟩) (by assumption) ?_
 rotate_left
 ·(intro w hSw; (try dsimp only at hSw); go_simp; try with_reducible rfl)
 simp only [Act.put, List.getElem_toArray, List.getElem_cons_zero, List.getElem_cons_succ, List.setIfInBounds_toArray, List.set_cons_zero, List.set_cons_succ]
 refine wpAnyH_ready (rs := [11]) (by kernel_rfl) (by simp) ?_
 refine AllReadyH.cons rfl (fun K hK => ?_) AllReadyH.nil
 simp only [List.getElem_toArray, List.getElem_cons_zero, List.getElem_cons_succ]
 go_simp
 refine hK.out _ _ ?_ (fun hHeld => ?_)
 ·exact hHeld
 clear hK K
 try simp only [Act.put, List.getElem_toArray, List.getElem_cons_zero, List.getElem_cons_succ, List.setIfInBounds_toArray, List.set_cons_zero, List.set_cons_succ]
 refine wpAnyH_done (by kernel_rfl) ?_ _
 clear hHeld HSS
 generalize Mem.storeE s.rs pl 1 = er at *
 go_wp2
 go_ret
 exact ⟨by simp, x, _, y, _, HF.out, rfl, rfl, rfl, rfl, rfl⟩
end Go.Proofs.YtmhhahmjkopjhaaGreat
end
section
namespace Go.Proofs.YtmhhahmjkopjhaaGreat
open Go.RowKit
set_option maxHeartbeats 4000000 in
set_option maxRecDepth 100000 in
theorem one_dump {w0 w : World} {x : PT} {s : Mem.MS} {y : RT} {u : Mem.RS} {c : Int} (h : Duo w0 w x s y u c) (_hc : c < 1000000000) (o : OpT) (ok : o.Ok w0) (hk : (IntKind.u64.wrap o.k).tmod 6 = 4) :
  Calls Tryz.prog 13 #[.pointer (some ⟨x.t, 0, none⟩), .pointer (some ⟨s.m, 0, none⟩), .pointer (some ⟨y.t, 0, none⟩), .pointer (some ⟨u.m, 0, none⟩), opT o] w (OnePost w0 x s y u c) := by
 have hta : Touch [] w (w.alloc (.cells o.cells.toArray 41)) := (Touch.refl [] w).alloc _
 have hD := h.still hta
 have hB := Blk.newA w o.cells.toArray _ 41 rfl
 cases hn : x.nth o.mp with
 | none =>
  have H1 := toHid (pdump_none hD.p.tab hn)
  have hc1 := hD.r.tab.c1
  have hlen := hD.len
  have hout : ¬ (0 ≤ o.mp ∧ o.mp < (y.maps.length : Int)) := fun hh => by
   unfold PT.nth at hn
   rw [if_pos hh.1] at hn
   have := List.getElem?_eq_none_iff.1 hn
   omega
  unfold slV at hc1
  have HX := toHid (And.intro hD (And.intro hB (And.intro ok h.box)))
  unfold opT
  unfold OpT.cells at *
  generalize y.maps.length = L at *
  generalize (y.g.map fun b => (⟨b, 0, none⟩ : Addr)) = yg at *
  clear h hD ok hB hta hn hlen
  go_enter Tryz.func13, Tryz.ntmps13
  go_wp2_with fail
  refine Calls.mono H1.out ?_
  rintro e w2 ⟨rfl, ht2⟩
  have e1 := (ht2.blk HX.out.2.1 (by simp)).cell (i := 1) rfl
  have y1 := ht2.cell hc1 (by simp)
  have HF : Hid (∀ n, Duo w0 (w2.drewN n) x s y u (c + 1)) := fun n => by
   have h9 := HX.out.1.still (ht2.drewN n)
   exact ⟨h9.p, h9.r, h9.rel, h9.qs, h9.ds, h9.apart, h9.own, h9.own', h9.touch, le_up h9.clock⟩
  clear ht2 hc1 H1
  by_cases hneg : o.mp < 0
  ·clear hout
   go_wp2_with fail
   go_quiet (fail)
   go_wp2
   go_ret
   exact ⟨by simp, x, s, y, u, HF.out _, rfl, rfl, rfl, rfl, rfl⟩
  ·have hge : (L : Int) ≤ o.mp := by omega
   clear hout
   go_wp2_with fail
   go_quiet (fail)
   go_wp2
   go_ret
   exact ⟨by simp, x, s, y, u, HF.out _, rfl, rfl, rfl, rfl, rfl⟩
 | some m =>
  obtain ⟨k, hmp, hm⟩ := PT.nth_mem hn
  obtain ⟨m', hm', _⟩ := hD.maps hm
  have H1 := toHid (pdump_any hD.p hm (hD.served hm))
  rw [hD.dump hm hm'] at H1
  have hc1 := hD.r.tab.c1
  have hlt : (k : Int) < y.maps.length := by have := (List.getElem?_eq_some_iff.1 hm').1; omega
  have hdl : (m'.dump u.all).length ≤ 1000 := by
   rw [← hD.dump hm hm']
   unfold PMap.dump heldP
   have h1 := List.length_filterMap_le (fun j => match m.q.slots.getD j none with
    | some b => some (b, Mem.readV s.rs (plI k j) m.d.val)
    | none => none) (List.range m.q.slots.length)
   rw [List.length_range] at h1
   have h2 := (hD.p.tab.maps m (List.mem_of_getElem? hm)).good.m2
   exact Nat.le_trans h1 (by omega)
  unfold slV at hc1
  have HX := toHid (And.intro hD (And.intro hB (And.intro hm' hdl)))
  unfold PDumpPost at H1
  unfold opT
  unfold OpT.cells at *
  rw [hmp] at *
  have hk8 : 0 ≤ (k : Int) := by omega
  generalize hps : m'.dump u.all = ps at *
  have HPS := toHid hps
  clear hps
  generalize y.maps.length = L at *
  generalize (y.g.map fun b => (⟨b, 0, none⟩ : Addr)) = yg at *
  clear h hD ok hB hta hn hm hm' hdl
  go_enter Tryz.func13, Tryz.ntmps13
  go_wp2_with fail
  refine Calls.mono H1.out ?_
  rintro e w2 ⟨⟨v, rfl, hPL⟩, ht2⟩
  have e1 := (ht2.blk HX.out.2.1 (by simp)).cell (i := 1) rfl
  have y1 := ht2.cell hc1 (by simp)
  have HT2 := toHid (And.intro ht2 hPL)
  clear ht2 hPL hc1 H1
  go_wp2_with fail
  go_quiet (fail)
  have hTd : Touch [] w2 (w2.drewN nq) := (Touch.refl [] w2).drewN nq
  have HD3 := toHid ((HX.out.1.still HT2.out.1).still hTd)
  have e1 := hTd.cell e1 (by simp)
  have H2 := toHid (rdump_any HD3.out.r HX.out.2.2.1)
  rw [HPS.out] at H2
  have HPL := toHid (HT2.out.2.touch hTd (by simp))
  generalize w2.drewN nq = w3 at *
  clear hTd y1
  go_wp2_with fail
  refine Calls.mono H2.out ?_
  rintro e w4 ⟨⟨v2, rfl, hPL2⟩, ht4⟩
  have H3 := toHid (rsame_any (HPL.out.touch ht4 (by simp)) hPL2 HX.out.2.2.2)
  have HD4 := toHid (HD3.out.still ht4)
  clear hPL2 ht4 H2 e1
  go_wp2_with fail
  refine Calls.mono H3.out ?_
  rintro e w5 ⟨rfl, ht5⟩
  have HF : Hid (Duo w0 w5 x s y u (c + 1)) := by
   have h9 := HD4.out.still ht5
   exact ⟨h9.p, h9.r, h9.rel, h9.qs, h9.ds, h9.apart, h9.own, h9.own', h9.touch, le_up h9.clock⟩
  clear ht5 H3
  go_wp2
  go_ret
  exact ⟨by simp, x, s, y, u, HF.out, rfl, rfl, rfl, rfl, rfl⟩
end Go.Proofs.YtmhhahmjkopjhaaGreat
end
section
namespace Go.Proofs.YtmhhahmjkopjhaaGreat
open Go.RowKit
theorem one_any {w0 w : World} {x : PT} {s : Mem.MS} {y : RT} {u : Mem.RS} {c : Int} (h : Duo w0 w x s y u c) (hc : c < 1000000000) (o : OpT) (ok : o.Ok w0) :
  Calls Tryz.prog 13 #[.pointer (some ⟨x.t, 0, none⟩), .pointer (some ⟨s.m, 0, none⟩), .pointer (some ⟨y.t, 0, none⟩), .pointer (some ⟨u.m, 0, none⟩), opT o] w (OnePost w0 x s y u c) := by
 obtain ⟨q, hq, hk⟩ := kind6 o.k
 have : q = 0 ∨ q = 1 ∨ q = 2 ∨ q = 3 ∨ q = 4 ∨ q = 5 := by omega
 rcases this with rfl | rfl | rfl | rfl | rfl | rfl
 ·exact one_look h hc o ok hk
 ·exact one_upd h hc o ok hk
 ·exact one_del h hc o ok hk
 ·exact one_get h hc o ok hk
 ·exact one_dump h hc o ok hk
 ·exact one_store h hc o ok hk
end Go.Proofs.YtmhhahmjkopjhaaGreat
end
section
namespace Go.Proofs.YtmhhahmjkopjhaaGreat
open Go.RowKit
theorem zero36n : (Tryz.prog.info? 36).map (fun i => (i.zero, i.size)) = some (some (.agg #[.int .i64 0, .int .i64 0, .int .i64 0, .int .i64 0]), 4) := by kernel_rfl
set_option maxHeartbeats 2000000 in
set_option maxRecDepth 100000 in
theorem def_gen0 {w : World} {p : Value} (i : Int) {a b c d e : Int} (hp : p = .pointer none) (H1 : Hid (∀ o, Calls Tryz.prog 32 #[p, .int .i64 i] (w.alloc o) fun e' w' => e' = .returned (.tuple #[.agg #[.int .i64 a, .int .i64 b, .int .i64 c, .int .i64 d, .nilIface], .int .i64 e]) ∧ Touch [] (w.alloc o) w')) :
  Calls Tryz.prog 12 #[p, .int .i64 i] w fun e' w' => e' = .returned (.tuple #[.agg #[.int .i64 a, .int .i64 b, .int .i64 c, .int .i64 d], .bool (e == 0)]) ∧ Touch [] w w' := by
 have hz := (zero_of_info (P := Tryz.prog) zero89).1
 have hsz := (zero_of_info (P := Tryz.prog) zero89).2
 have hz3 := (zero_of_info (P := Tryz.prog) zero36n).1
 have hsz3 := (zero_of_info (P := Tryz.prog) zero36n).2
 have HB := toHid (Blk.newA w #[.int .i64 0, .int .i64 0, .int .i64 0, .int .i64 0] _ 36 rfl)
 have HT := toHid (fun o => (Touch.refl [] w).alloc o)
 subst hp
 go_enter Tryz.func12, Tryz.ntmps12
 go_wp2_with fail
 refine Calls.mono (H1.out _) ?_
 rintro e' w2 ⟨rfl, ht2⟩
 have hta2 : ∀ o, Touch [] w2 (w2.alloc o) := fun o => (Touch.refl [] w2).alloc o
 have hb2 := fun o => (hta2 o).blk (ht2.blk HB.out (by simp)) (by simp)
 have f0 := fun o => (hb2 o).frozen 0
 have f1 := fun o => (hb2 o).frozen 1
 have f2 := fun o => (hb2 o).frozen 2
 have f3 := fun o => (hb2 o).frozen 3
 have c0 := fun o => (hb2 o).cell (i := 0) rfl
 have c1 := fun o => (hb2 o).cell (i := 1) rfl
 have c2 := fun o => (hb2 o).cell (i := 2) rfl
 have c3 := fun o => (hb2 o).cell (i := 3) rfl
 have HE : Hid (∀ o v0 v1 v2 v3, Blk (((((w2.alloc o).setCell ⟨w.heap.size, 0, none⟩ v0).setCell ⟨w.heap.size, 1, none⟩ v1).setCell ⟨w.heap.size, 2, none⟩ v2).setCell ⟨w.heap.size, 3, none⟩ v3) w.heap.size [v0, v1, v2, v3] 36 ∧ Touch [] w (((((w2.alloc o).setCell ⟨w.heap.size, 0, none⟩ v0).setCell ⟨w.heap.size, 1, none⟩ v1).setCell ⟨w.heap.size, 2, none⟩ v2).setCell ⟨w.heap.size, 3, none⟩ v3)) := fun o v0 v1 v2 v3 => ⟨((((hb2 o).setCell 0 v0).setCell 1 v1).setCell 2 v2).setCell 3 v3, ((((((HT.out _).trans ht2 (by simp)).trans (hta2 o) (by simp)).setCell _ _ (Or.inr (Nat.le_refl _))).setCell _ _ (Or.inr (Nat.le_refl _))).setCell _ _ (Or.inr (Nat.le_refl _))).setCell _ _ (Or.inr (Nat.le_refl _))⟩
 have hNB := Blk.newA w2 #[.int .i64 a, .int .i64 b, .int .i64 c, .int .i64 d, .nilIface] _ 89 rfl
 have n0 := hNB.cell (i := 0) rfl
 have n1 := hNB.cell (i := 1) rfl
 have n2 := hNB.cell (i := 2) rfl
 have n3 := hNB.cell (i := 3) rfl
 clear ht2 hb2 hta2 H1 hNB
 go_wp2
 obtain ⟨HE1, HE2⟩ := HE.out _ _ _ _ _
 have HE2 := toHid HE2
 have e0 := HE1.cell (i := 0) rfl
 have e1 := HE1.cell (i := 1) rfl
 have e2 := HE1.cell (i := 2) rfl
 have e3 := HE1.cell (i := 3) rfl
 refine bodyPost_ret (v := .tuple #[.agg #[.int .i64 a, .int .i64 b, .int .i64 c, .int .i64 d], .bool (e == 0)]) ?_ rfl ⟨rfl, HE2.out⟩
 simp [results, Tryz.results12, go_sem, e0, e1, e2, e3]
set_option maxHeartbeats 2000000 in
set_option maxRecDepth 100000 in
theorem def_gen1 {w : World} {p : Value} (i : Int) {a b c d e : Int} {ty : TypeId} {X T : Nat} (hp : p = .pointer (some ⟨T, 0, none⟩)) (H1 : Hid (∀ o, Calls Tryz.prog 32 #[p, .int .i64 i] (w.alloc o) fun e' w' => e' = .returned (.tuple #[.agg #[.int .i64 a, .int .i64 b, .int .i64 c, .int .i64 d, .iface ty (.pointer (some ⟨X, 0, none⟩))], .int .i64 e]) ∧ Touch [] (w.alloc o) w')) :
  Calls Tryz.prog 12 #[p, .int .i64 i] w fun e' w' => e' = .returned (.tuple #[.agg #[.int .i64 a, .int .i64 b, .int .i64 c, .int .i64 d], .bool (e == 0)]) ∧ Touch [] w w' := by
 have hz := (zero_of_info (P := Tryz.prog) zero89).1
 have hsz := (zero_of_info (P := Tryz.prog) zero89).2
 have hz3 := (zero_of_info (P := Tryz.prog) zero36n).1
 have hsz3 := (zero_of_info (P := Tryz.prog) zero36n).2
 have HB := toHid (Blk.newA w #[.int .i64 0, .int .i64 0, .int .i64 0, .int .i64 0] _ 36 rfl)
 have HT := toHid (fun o => (Touch.refl [] w).alloc o)
 subst hp
 go_enter Tryz.func12, Tryz.ntmps12
 go_wp2_with fail
 refine Calls.mono (H1.out _) ?_
 rintro e' w2 ⟨rfl, ht2⟩
 have hta2 : ∀ o, Touch [] w2 (w2.alloc o) := fun o => (Touch.refl [] w2).alloc o
 have hb2 := fun o => (hta2 o).blk (ht2.blk HB.out (by simp)) (by simp)
 have f0 := fun o => (hb2 o).frozen 0
 have f1 := fun o => (hb2 o).frozen 1
 have f2 := fun o => (hb2 o).frozen 2
 have f3 := fun o => (hb2 o).frozen 3
 have c0 := fun o => (hb2 o).cell (i := 0) rfl
 have c1 := fun o => (hb2 o).cell (i := 1) rfl
 have c2 := fun o => (hb2 o).cell (i := 2) rfl
 have c3 := fun o => (hb2 o).cell (i := 3) rfl
 have HE : Hid (∀ o v0 v1 v2 v3, Blk (((((w2.alloc o).setCell ⟨w.heap.size, 0, none⟩ v0).setCell ⟨w.heap.size, 1, none⟩ v1).setCell ⟨w.heap.size, 2, none⟩ v2).setCell ⟨w.heap.size, 3, none⟩ v3) w.heap.size [v0, v1, v2, v3] 36 ∧ Touch [] w (((((w2.alloc o).setCell ⟨w.heap.size, 0, none⟩ v0).setCell ⟨w.heap.size, 1, none⟩ v1).setCell ⟨w.heap.size, 2, none⟩ v2).setCell ⟨w.heap.size, 3, none⟩ v3)) := fun o v0 v1 v2 v3 => ⟨((((hb2 o).setCell 0 v0).setCell 1 v1).setCell 2 v2).setCell 3 v3, ((((((HT.out _).trans ht2 (by simp)).trans (hta2 o) (by simp)).setCell _ _ (Or.inr (Nat.le_refl _))).setCell _ _ (Or.inr (Nat.le_refl _))).setCell _ _ (Or.inr (Nat.le_refl _))).setCell _ _ (Or.inr (Nat.le_refl _))⟩
 have hNB := Blk.newA w2 #[.int .i64 a, .int .i64 b, .int .i64 c, .int .i64 d, .iface ty (.pointer (some ⟨X, 0, none⟩))] _ 89 rfl
 have n0 := hNB.cell (i := 0) rfl
 have n1 := hNB.cell (i := 1) rfl
 have n2 := hNB.cell (i := 2) rfl
 have n3 := hNB.cell (i := 3) rfl
 clear ht2 hb2 hta2 H1 hNB
 go_wp2
 obtain ⟨HE1, HE2⟩ := HE.out _ _ _ _ _
 have HE2 := toHid HE2
 have e0 := HE1.cell (i := 0) rfl
 have e1 := HE1.cell (i := 1) rfl
 have e2 := HE1.cell (i := 2) rfl
 have e3 := HE1.cell (i := 3) rfl
 refine bodyPost_ret (v := .tuple #[.agg #[.int .i64 a, .int .i64 b, .int .i64 c, .int .i64 d], .bool (e == 0)]) ?_ rfl ⟨rfl, HE2.out⟩
 simp [results, Tryz.results12, go_sem, e0, e1, e2, e3]
set_option maxHeartbeats 2000000 in
set_option maxRecDepth 100000 in
theorem def_gen2 {w : World} {p : Value} (i : Int) {a b c d e : Int} {T : Nat} (hp : p = .pointer (some ⟨T, 0, none⟩)) (H1 : Hid (∀ o, Calls Tryz.prog 32 #[p, .int .i64 i] (w.alloc o) fun e' w' => e' = .returned (.tuple #[.agg #[.int .i64 a, .int .i64 b, .int .i64 c, .int .i64 d, .nilIface], .int .i64 e]) ∧ Touch [] (w.alloc o) w')) :
  Calls Tryz.prog 12 #[p, .int .i64 i] w fun e' w' => e' = .returned (.tuple #[.agg #[.int .i64 a, .int .i64 b, .int .i64 c, .int .i64 d], .bool (e == 0)]) ∧ Touch [] w w' := by
 have hz := (zero_of_info (P := Tryz.prog) zero89).1
 have hsz := (zero_of_info (P := Tryz.prog) zero89).2
 have hz3 := (zero_of_info (P := Tryz.prog) zero36n).1
 have hsz3 := (zero_of_info (P := Tryz.prog) zero36n).2
 have HB := toHid (Blk.newA w #[.int .i64 0, .int .i64 0, .int .i64 0, .int .i64 0] _ 36 rfl)
 have HT := toHid (fun o => (Touch.refl [] w).alloc o)
 subst hp
 go_enter Tryz.func12, Tryz.ntmps12
 go_wp2_with fail
 refine Calls.mono (H1.out _) ?_
 rintro e' w2 ⟨rfl, ht2⟩
 have hta2 : ∀ o, Touch [] w2 (w2.alloc o) := fun o => (Touch.refl [] w2).alloc o
 have hb2 := fun o => (hta2 o).blk (ht2.blk HB.out (by simp)) (by simp)
 have f0 := fun o => (hb2 o).frozen 0
 have f1 := fun o => (hb2 o).frozen 1
 have f2 := fun o => (hb2 o).frozen 2
 have f3 := fun o => (hb2 o).frozen 3
 have c0 := fun o => (hb2 o).cell (i := 0) rfl
 have c1 := fun o => (hb2 o).cell (i := 1) rfl
 have c2 := fun o => (hb2 o).cell (i := 2) rfl
 have c3 := fun o => (hb2 o).cell (i := 3) rfl
 have HE : Hid (∀ o v0 v1 v2 v3, Blk (((((w2.alloc o).setCell ⟨w.heap.size, 0, none⟩ v0).setCell ⟨w.heap.size, 1, none⟩ v1).setCell ⟨w.heap.size, 2, none⟩ v2).setCell ⟨w.heap.size, 3, none⟩ v3) w.heap.size [v0, v1, v2, v3] 36 ∧ Touch [] w (((((w2.alloc o).setCell ⟨w.heap.size, 0, none⟩ v0).setCell ⟨w.heap.size, 1, none⟩ v1).setCell ⟨w.heap.size, 2, none⟩ v2).setCell ⟨w.heap.size, 3, none⟩ v3)) := fun o v0 v1 v2 v3 => ⟨((((hb2 o).setCell 0 v0).setCell 1 v1).setCell 2 v2).setCell 3 v3, ((((((HT.out _).trans ht2 (by simp)).trans (hta2 o) (by simp)).setCell _ _ (Or.inr (Nat.le_refl _))).setCell _ _ (Or.inr (Nat.le_refl _))).setCell _ _ (Or.inr (Nat.le_refl _))).setCell _ _ (Or.inr (Nat.le_refl _))⟩
 have hNB := Blk.newA w2 #[.int .i64 a, .int .i64 b, .int .i64 c, .int .i64 d, .nilIface] _ 89 rfl
 have n0 := hNB.cell (i := 0) rfl
 have n1 := hNB.cell (i := 1) rfl
 have n2 := hNB.cell (i := 2) rfl
 have n3 := hNB.cell (i := 3) rfl
 clear ht2 hb2 hta2 H1 hNB
 go_wp2
 obtain ⟨HE1, HE2⟩ := HE.out _ _ _ _ _
 have HE2 := toHid HE2
 have e0 := HE1.cell (i := 0) rfl
 have e1 := HE1.cell (i := 1) rfl
 have e2 := HE1.cell (i := 2) rfl
 have e3 := HE1.cell (i := 3) rfl
 refine bodyPost_ret (v := .tuple #[.agg #[.int .i64 a, .int .i64 b, .int .i64 c, .int .i64 d], .bool (e == 0)]) ?_ rfl ⟨rfl, HE2.out⟩
 simp [results, Tryz.results12, go_sem, e0, e1, e2, e3]
def defV : Option PMap → Value
 | some m => .tuple #[.agg m.d.cells.toArray, .bool true]
 | none => .tuple #[.agg #[.int .i64 0, .int .i64 0, .int .i64 0, .int .i64 0], .bool false]
theorem def_any {w : World} {x : PT} (h : PTAt w x) (i : Int) :
  Calls Tryz.prog 12 #[.pointer (some ⟨x.t, 0, none⟩), .int .i64 i] w fun e w' => e = .returned (defV (x.nth i)) ∧ Touch [] w w' := by
 have H1 := fun o => numbered_any (h.still ((Touch.refl [] w).alloc o)) i
 cases hm : x.nth i with
 | none =>
  rw [hm] at H1
  exact def_gen2 i rfl (toHid H1)
 | some m =>
  rw [hm] at H1
  exact def_gen1 i rfl (toHid H1)
end Go.Proofs.YtmhhahmjkopjhaaGreat
end
section
namespace Go.Proofs.YtmhhahmjkopjhaaGreat
open Go.RowKit
def Regs (ds : List MDef) (rs : List Mem.Reg) : Prop := ∀ (k : Nat) (d : MDef), ds[k]? = some d → ∀ sl : Nat, (sl : Int) < d.max → ∃ r ∈ rs, r.perm = 3 ∧ r.base = plI k sl ∧ (r.bytes.length : Int) = d.val
theorem plcs_of {ds : List MDef} : ∀ {k i sl : Nat} {d : MDef}, i < k → ds[i]? = some d → (sl : Int) < d.max → (plI i sl, d.val) ∈ plcs ds k := by
 intro k i sl d hi hd hs
 unfold plcs
 refine List.mem_flatMap.2 ⟨i, List.mem_range.2 hi, ?_⟩
 rw [hd]
 exact List.mem_map.2 ⟨sl, List.mem_range.2 (by omega), rfl⟩
theorem Regs.of_adds {ds : List MDef} {a b : List Mem.Reg × Nat} (h : PAdds (plcs ds ds.length) a b) (hv : ∀ d ∈ ds, 1 ≤ d.val) : Regs ds b.1 := fun k d hd sl hs => by
 have hk := (List.getElem?_eq_some_iff.1 hd).1
 obtain ⟨r, hr, id, ho, hn⟩ := h.facts.2.2.2.1 _ (plcs_of hk hd hs)
 have h1 := hv d (List.mem_of_getElem? hd)
 refine ⟨r, hr, hn.hperm, hn.hbase, ?_⟩
 rw [hn.hbytes]
 simp
 omega
theorem id_eq {w : World} {s : Mem.MS} (h : Mem.MemAt w s) {r r2 : Mem.Reg} (hr : r ∈ s.rs) (hr2 : r2 ∈ s.rs) (hid : r2.id = r.id) : r2 = r := by
 obtain ⟨i, hi, rfl⟩ := List.getElem_of_mem hr
 obtain ⟨j, hj, rfl⟩ := List.getElem_of_mem hr2
 have hp := List.pairwise_iff_getElem.1 h.ids
 rcases Nat.lt_trichotomy i j with hij | rfl | hij
 ·exact absurd hid.symm (hp i j hi hj hij)
 ·rfl
 ·exact absurd hid (hp j i hj hi hij)
theorem write_all {w w2 : World} {s s2 : Mem.MS} (h : Mem.MemAt w s) (h2 : Mem.MemAt w2 s2) {r : Mem.Reg} (hr : r ∈ s.rs) (hp : r.perm = 3) {vs : List Int} (hl : vs.length = r.bytes.length) (e : s2.rs = Mem.writeRs s.rs r.base vs) :
  (Mem.readE s2.rs r.base vs.length = 0 ∧ Mem.readV s2.rs r.base vs.length = vs) ∧
  (∀ r2 ∈ s.rs, r2.perm = 3 → r2.base ≠ r.base → Mem.readE s2.rs r2.base r2.bytes.length = 0 ∧ Mem.readV s2.rs r2.base r2.bytes.length = Mem.readV s.rs r2.base r2.bytes.length) := by
 have hw := (MemAt.write_at h hr hp hl).2
 rw [hw] at e
 have hm : Mem.layR r 0 vs ∈ s2.rs := by
  rw [e]
  unfold Mem.updR
  exact List.mem_map.2 ⟨r, hr, by rw [if_pos rfl]⟩
 have hb := layR_all hl
 constructor
 ·have := MemAt.read_at h2 hm hp
  rw [hb] at this
  exact this
 ·intro r2 hr2 hp2 hne
  have hid : r2.id ≠ r.id := fun hx => hne (by rw [id_eq h hr hr2 hx])
  have hm2 : r2 ∈ s2.rs := by
   rw [e]
   unfold Mem.updR
   exact List.mem_map.2 ⟨r2, hr2, by rw [if_neg hid]⟩
  have h3 := MemAt.read_at h2 hm2 hp2
  have h4 := MemAt.read_at h hr2 hp2
  exact ⟨h3.1, by rw [h3.2, h4.2]⟩
theorem Regs.write {w : World} {s : Mem.MS} {ds : List MDef} (h : Mem.MemAt w s) (hg : Regs ds s.rs) {r : Mem.Reg} (hr : r ∈ s.rs) (hp : r.perm = 3) {vs : List Int} (hl : vs.length = r.bytes.length) : Regs ds (Mem.writeRs s.rs r.base vs) := fun k d hd sl hs => by
 obtain ⟨r2, h1, h2, h3, h4⟩ := hg k d hd sl hs
 rw [(MemAt.write_at h hr hp hl).2]
 unfold Mem.updR
 by_cases he : r2.id = r.id
 ·obtain rfl := id_eq h hr h1 he
  refine ⟨Mem.layR r2 0 vs, List.mem_map.2 ⟨r2, h1, by rw [if_pos rfl]⟩, h2, h3, ?_⟩
  rw [layR_all hl, hl, h4]
 ·exact ⟨r2, List.mem_map.2 ⟨r2, h1, by rw [if_neg he]⟩, h2, h3, h4⟩
theorem PT.at_ds {x : PT} {k : Nat} {d : MDef} {q : PX} (hd : x.ds[k]? = some d) (hq : x.qs[k]? = some q) : ∃ m, x.maps[k]? = some m ∧ m.d = d ∧ m.q = q := by
 unfold PT.ds at hd
 unfold PT.qs at hq
 rw [List.getElem?_map] at hd hq
 cases hm : x.maps[k]? with
 | none => rw [hm] at hd; cases hd
 | some m =>
  rw [hm] at hd hq
  exact ⟨m, rfl, by injection hd, by injection hq⟩
structure Solo (w0 w : World) (x : PT) (s : Mem.MS) (ds : List MDef) (qs : List PX) : Prop where
 p : PBoth w x s
 regs : Regs ds s.rs
 ds : x.ds = ds
 qs : x.qs = qs
 own : ∀ b, b ∈ x.blocks ∨ b ∈ s.blocks → w0.heap.size ≤ b
 touch : Touch [] w0 w
theorem Solo.still {w0 w w' : World} {x : PT} {s : Mem.MS} {ds : List MDef} {qs : List PX} (h : Solo w0 w x s ds qs) (ht : Touch [] w w') : Solo w0 w' x s ds qs :=
 ⟨h.p.still ht, h.regs, h.ds, h.qs, h.own, h.touch.trans ht (by simp)⟩
theorem Solo.step {w0 w w' : World} {x x' : PT} {s : Mem.MS} {ds : List MDef} {qs qs' : List PX} (h : Solo w0 w x s ds qs) (st : PStep w w' x x' qs') : Solo w0 w' x' s ds qs' :=
 ⟨h.p.step st, h.regs, by rw [st.ds, h.ds], st.qs, fun b hb => by
  have := h.touch.size
  rcases hb with hb | hb
  ·rcases st.blocks b hb with h1 | h1
   ·exact h.own b (Or.inl h1)
   ·omega
  ·exact h.own b (Or.inr hb), h.touch.trans st.touch (fun b hb => Or.inr (h.own b (Or.inl hb)))⟩
theorem Solo.upd {w0 w w' : World} {x x' : PT} {s : Mem.MS} {ds : List MDef} {qs qs' : List PX} {rs : List Mem.Reg} (h : Solo w0 w x s ds qs) (st : PUSt w w' x x' s qs' rs) (hg : Regs ds rs) : Solo w0 w' x' { s with rs := rs } ds qs' :=
 ⟨st.both, hg, by rw [st.ds, h.ds], st.qs, fun b hb => by
  have := h.touch.size
  rcases hb with hb | hb
  ·rcases st.blocks b hb with h1 | h1
   ·exact h.own b (Or.inl h1)
   ·omega
  ·rw [st.sblk] at hb
   exact h.own b (Or.inr hb), h.touch.trans st.touch (fun b hb => Or.inr (h.own b (List.mem_append.1 hb)))⟩
theorem Solo.new {w0 w w' : World} {x : PT} {s s' : Mem.MS} {ds : List MDef} (h : PNewAt w w' x s s' ds) (hv : ∀ d ∈ ds, 1 ≤ d.val) (h0 : Touch [] w0 w) (hs : ∀ b ∈ s.blocks, w0.heap.size ≤ b) : Solo w0 w' x s' ds (ds.map newQ) :=
 ⟨h.both, Regs.of_adds h.adds hv, h.ds, h.qs, fun b hb => by
  have := h0.size
  rcases hb with hb | hb
  ·have := h.own b hb; omega
  ·rcases h.mown b hb with h1 | h1
   ·exact hs b h1
   ·omega, h0.trans h.touch (fun b hb => Or.inr (hs b hb))⟩
theorem Solo.read {w0 w : World} {x : PT} {s : Mem.MS} {ds : List MDef} {qs : List PX} (h : Solo w0 w x s ds qs) {k : Nat} {d : MDef} (hd : ds[k]? = some d) {sl : Nat} (hs : (sl : Int) < d.max) :
  Mem.readE s.rs (plI k sl) d.val = 0 ∧ ((Mem.readV s.rs (plI k sl) d.val).length : Int) = d.val ∧ ∀ y ∈ Mem.readV s.rs (plI k sl) d.val, 0 ≤ y ∧ y ≤ 255 := by
 obtain ⟨r, hr, hp, hb, hl⟩ := h.regs k d hd sl hs
 have := MemAt.read_at h.p.mem hr hp
 rw [hb, hl] at this
 rw [this.1, this.2]
 exact ⟨rfl, hl, (h.p.mem.ok r hr).byte⟩
theorem Solo.write {w0 w w2 : World} {x : PT} {s s2 : Mem.MS} {ds : List MDef} {qs : List PX} (h : Solo w0 w x s ds qs) (h2 : Mem.MemAt w2 s2) {k : Nat} {d : MDef} (hd : ds[k]? = some d) {sl : Nat} (hs : (sl : Int) < d.max) {vs : List Int} (hl : (vs.length : Int) = d.val) (e : s2.rs = Mem.writeRs s.rs (plI k sl) vs) :
  Mem.readV s2.rs (plI k sl) d.val = vs ∧ ∀ (k' : Nat) (d' : MDef) (sl' : Nat), ds[k']? = some d' → (sl' : Int) < d'.max → plI k' sl' ≠ plI k sl → Mem.readV s2.rs (plI k' sl') d'.val = Mem.readV s.rs (plI k' sl') d'.val := by
 obtain ⟨r, hr, hp, hb, hrl⟩ := h.regs k d hd sl hs
 rw [← hb] at e
 obtain ⟨e1, e2⟩ := write_all h.p.mem h2 hr hp (vs := vs) (by omega) e
 rw [hb, hl] at e1
 refine ⟨e1.2, fun k' d' sl' hd' hs' hne => ?_⟩
 obtain ⟨r2, h1, h2, h3, h4⟩ := h.regs k' d' hd' sl' hs'
 have := (e2 r2 h1 h2 (by rw [h3, hb]; exact hne)).2
 rw [h3, h4] at this
 exact this
theorem Solo.writes {w0 w : World} {x : PT} {s : Mem.MS} {ds : List MDef} {qs : List PX} (h : Solo w0 w x s ds qs) {k : Nat} {d : MDef} (hd : ds[k]? = some d) {sl : Nat} (hs : (sl : Int) < d.max) {vs : List Int} (hl : (vs.length : Int) = d.val) :
  Mem.writeE s.rs (plI k sl) vs = 0 ∧ Regs ds (Mem.writeRs s.rs (plI k sl) vs) := by
 obtain ⟨r, hr, hp, hb, hrl⟩ := h.regs k d hd sl hs
 rw [← hb]
 exact ⟨(MemAt.write_at h.p.mem hr hp (by omega)).1, Regs.write h.p.mem h.regs hr hp (by omega)⟩
theorem load_read {rs : List Mem.Reg} {p n : Int} (h0 : 0 < n) (hw : Mem.wordB n = true) (hr : Mem.readE rs p n = 0) : Mem.loadE rs p n = 0 ∧ Mem.loadV rs p n = Mem.num (fun j => (Mem.readV rs p n).getD j 0) n.toNat := by
 unfold Mem.readE at hr
 rw [if_neg (by omega), if_neg (by omega)] at hr
 unfold Mem.loadE Mem.loadV Mem.readV
 rw [if_pos hw, if_pos ⟨hw, hr⟩, if_neg (by omega)]
 exact ⟨hr, rfl⟩
end Go.Proofs.YtmhhahmjkopjhaaGreat
end
section
namespace Go.Proofs.YtmhhahmjkopjhaaGreat
open Go.RowKit
theorem KeyAt.new1 (w : World) (a : Int) (h : 0 ≤ a ∧ a ≤ 255) : KeyAt (w.alloc (.cells #[.int .u8 a] 5)) (some ⟨w.heap.size, 0, none⟩) 1 [a] := by
 have hB := Blk.newA w #[.int .u8 a] _ 5 rfl
 refine ⟨rfl, by simpa using h, by simp, fun _ => ⟨_, 0, rfl, fun j hj => ?_⟩⟩
 simp at hj
 subst hj
 exact hB.cell rfl
theorem KeyAt.new2 (w : World) (a b : Int) (h : 0 ≤ a ∧ a ≤ 255) (h' : 0 ≤ b ∧ b ≤ 255) : KeyAt (w.alloc (.cells #[.int .u8 a, .int .u8 b] 5)) (some ⟨w.heap.size, 0, none⟩) 2 [a, b] := by
 have hB := Blk.newA w #[.int .u8 a, .int .u8 b] _ 5 rfl
 refine ⟨rfl, by simpa using ⟨h, h'⟩, by simp, fun _ => ⟨_, 0, rfl, fun j hj => ?_⟩⟩
 simp at hj
 have : j = 0 ∨ j = 1 := by omega
 rcases this with rfl | rfl <;> exact hB.cell rfl
theorem DefsAt.one (w : World) (d : MDef) : DefsAt (w.alloc (.cells d.cells.toArray 36)) (some ⟨w.heap.size, 0, none⟩) 1 [d] := by
 have hB := Blk.newA w d.cells.toArray _ 36 rfl
 refine ⟨rfl, by omega, fun _ => ⟨_, 0, rfl, fun i d' hd j v hv => ?_⟩⟩
 match i, hd with
 | 0, hd =>
  simp at hd
  subst hd
  simp only [Nat.zero_mul, Nat.zero_add]
  exact hB.cell hv
theorem FreeAll.nil (ds : List MDef) (h : ds.length ≤ 8) (h2 : ∀ d ∈ ds, 0 ≤ d.max ∧ d.max ≤ 64) : roomOk ds [] := by
 have := maxSum_bd ds h2
 exact ⟨fun i d _ _ s _ => by simp [Mem.busyB], by simp; omega⟩
def fD : MDef := ⟨1, 1, 2, 2⟩
def fQ : PX := ((newQ fD).putA [7] 0).2
theorem upd_eqs {x : PT} {ds : List MDef} {qs : List PX} (h1 : x.ds = ds) (h2 : x.qs = qs) {k : Nat} {d : MDef} {q : PX} (hd : ds[k]? = some d) (hq : qs[k]? = some q) {bs vs : List Int} {fl : Int} (hb : (bs.length : Int) = d.key) (hv : (vs.length : Int) = d.val) :
  updP x k bs vs fl = if (q.putA bs fl).1.2.2 = 0 then (0, qs.set k (q.putA bs fl).2, some (plI k (q.putA bs fl).1.1)) else ((q.putA bs fl).1.2.2, qs.set k (q.putA bs fl).2, none) := by
 subst h1
 subst h2
 obtain ⟨m, hm, hmd, hmq⟩ := PT.at_ds hd hq
 subst hmd
 subst hmq
 have hc : chkP x.ds k bs.length = 0 := by
  unfold chkP
  rw [if_pos ⟨by omega, by have := (List.getElem?_eq_some_iff.1 hd).1; omega⟩, Int.toNat_natCast, hd]
  dsimp only
  rw [if_pos hb]
 unfold updP
 rw [if_pos hc, Int.toNat_natCast, hm]
 dsimp only
 rw [if_pos hv]
theorem look_eqs {x : PT} {ds : List MDef} {qs : List PX} (h1 : x.ds = ds) (h2 : x.qs = qs) {k : Nat} {d : MDef} {q : PX} (hd : ds[k]? = some d) (hq : qs[k]? = some q) {bs : List Int} (hb : (bs.length : Int) = d.key) :
  lookP x k bs = ((match (q.findA bs).1 with
   | some s => plI k (s : Int)
   | none => 0, 0), qs.set k (q.findA bs).2) := by
 subst h1
 subst h2
 obtain ⟨m, hm, hmd, hmq⟩ := PT.at_ds hd hq
 subst hmd
 subst hmq
 have hc : chkP x.ds k bs.length = 0 := by
  unfold chkP
  rw [if_pos ⟨by omega, by have := (List.getElem?_eq_some_iff.1 hd).1; omega⟩, Int.toNat_natCast, hd]
  dsimp only
  rw [if_pos hb]
 unfold lookP
 rw [if_pos hc, Int.toNat_natCast, hq] <;> rfl
set_option maxHeartbeats 2000000 in
set_option maxRecDepth 100000 in
theorem first_any (w : World) : Calls Tryz.prog 7 #[] w fun e w' => e = .returned (.bool true) ∧ Touch [] w w' := by
 go_enter Tryz.func7, Tryz.ntmps7
 go_wp2_with fail
 refine (Mem.newM_any _).mono ?_
 rintro e w2 ⟨rfl, hm, ht⟩
 go_wp2_with fail
 have HM := toHid (And.intro hm ht)
 have ht2 := (Touch.refl [] w2).alloc (.cells fD.cells.toArray 36)
 have H1 := toHid (pnew_any (hm.touch ht2 (by simp)) (by show 0 ≤ 1000000; omega) (sc := 1) (DefsAt.one w2 fD))
 clear hm ht ht2
 refine Calls.mono H1.out ?_
 rintro e w3 hp
 have hp : ∃ x s', e = .returned (.tuple #[.pointer (some ⟨x.t, 0, none⟩), .int .i64 0]) ∧ s'.m = w.heap.size ∧ Solo w w3 x s' [fD] [newQ fD] := by
  rcases hp with hp | hp | ⟨_, _, x, s', he, hN⟩
  ·exact absurd hp.1 (by decide)
  ·exact absurd (FreeAll.nil [fD] (by simp) (by decide)) hp.2.1
  ·exact ⟨x, s', he, hN.m, Solo.new hN (by decide) (HM.out.2.trans ((Touch.refl [] w2).alloc _) (by simp)) (fun b hb => by
    have : b = w.heap.size := by simpa [Mem.MS.blocks, Mem.MS.new] using hb
    omega)⟩
 obtain ⟨x, s, rfl, hsm, hS⟩ := hp
 have HS := toHid (And.intro hS hsm)
 clear hS hsm H1 HM
 go_wp2_with fail
 have ht3 := ((Touch.refl [] w3).alloc (.cells #[.int .u8 7] 5)).trans ((Touch.refl [] _).alloc (.cells #[.int .u8 1, .int .u8 2] 5)) (S' := []) (by simp)
 have hS3 := HS.out.1.still ht3
 have hk7 := (KeyAt.new1 w3 7 (by decide)).touch ((Touch.refl [] _).alloc (.cells #[.int .u8 1, .int .u8 2] 5))
 have hxb : ∀ b off, (some ⟨w3.heap.size, 0, none⟩ : Option Addr) = some ⟨b, off, none⟩ → b ∉ x.blocks := fun b off e hx => by
  injection e with e
  injection e with e
  have := HS.out.1.p.tab.lt b hx
  omega
 have hxb2 : ∀ b off, (some ⟨w3.heap.size + 1, 0, none⟩ : Option Addr) = some ⟨b, off, none⟩ → b ∉ x.blocks := fun b off e hx => by
  injection e with e
  injection e with e
  have := HS.out.1.p.tab.lt b hx
  omega
 have hsz : (w3.alloc (.cells #[.int .u8 7] 5)).heap.size = w3.heap.size + 1 := World.size_alloc _ _
 have hv12 := KeyAt.new2 (w3.alloc (.cells #[.int .u8 7] 5)) 1 2 (by decide) (by decide)
 rw [hsz] at hv12
 have H1 := toHid (pupdate_any hS3.p 0 hk7 1 (by omega) (fun b off e _ => hxb b off e) hv12 2 (fun b off e _ => hxb2 b off e) 0 (by omega))
 rw [show updP x 0 [7] [1, 2] 0 = (0, [fQ], some (plI 0 0)) from (upd_eqs HS.out.1.ds HS.out.1.qs (k := 0) (d := fD) (q := newQ fD) rfl rfl rfl rfl).trans rfl] at H1
 have HS3 := toHid hS3
 clear ht3 hS3 hk7 hxb hxb2 hsz hv12
 refine Calls.mono H1.out ?_
 rintro e w4 ⟨rfl, x1, st⟩
 replace st : PUSt _ w4 x x1 s [fQ] (Mem.writeRs s.rs (plI 0 0) [1, 2]) := st
 obtain ⟨he, hg⟩ := HS3.out.writes (k := 0) (d := fD) rfl (sl := 0) (by decide) (vs := [1, 2]) rfl
 rw [show updE s.rs [1, 2] (0, [fQ], some (plI 0 0)) = 0 from he]
 have HS4 := toHid (HS3.out.upd st hg)
 have HV := toHid (HS3.out.write st.both.mem (k := 0) (d := fD) rfl (sl := 0) (by decide) (vs := [1, 2]) rfl rfl).1
 have HE : Hid (x1.t = x.t) := st.t
 clear st he hg H1
 dsimp only at HV
 generalize Mem.writeRs s.rs (plI 0 0) [1, 2] = rs1 at *
 go_wp2_with fail
 have ht4 := (Touch.refl [] w4).alloc (.cells #[.int .u8 7] 5)
 have hS4 := HS4.out.still ht4
 have H1 := toHid (plookup_any hS4.p.tab 0 (KeyAt.new1 w4 7 (by decide)) 1 (by omega))
 rw [show lookP x1 0 [7] = ((137438953472, 0), [(fQ.findA [7]).2]) from (look_eqs hS4.ds hS4.qs (k := 0) (d := fD) (q := fQ) rfl rfl rfl).trans rfl, HE.out] at H1
 have HS5 := toHid hS4
 clear ht4 hS4 HS4 HS3
 refine Calls.mono H1.out ?_
 rintro e w5 ⟨rfl, x2, st⟩
 have HS6 := toHid (HS5.out.step st)
 clear st H1 HS5
 have H1 := toHid (Mem.load_any HS6.out.p.mem 137438953472 2 (by omega) (by omega))
 have hl := load_read (n := 2) (by omega) (by decide) (HS6.out.read (k := 0) (d := fD) rfl (sl := 0) (by decide)).1
 rw [show Mem.loadE rs1 137438953472 2 = 0 from hl.1, show Mem.loadV rs1 137438953472 2 = 513 from hl.2.trans (by show Mem.num (fun j => (Mem.readV rs1 (plI ((0 : Nat) : Int) ((0 : Nat) : Int)) 2).getD j 0) 2 = 513; rw [show Mem.readV rs1 (plI ((0 : Nat) : Int) ((0 : Nat) : Int)) 2 = [1, 2] from HV.out]; rfl)] at H1
 rw [show ({ s with rs := rs1 } : Mem.MS).m = w.heap.size from HS.out.2] at H1
 clear hl
 go_wp2_with fail
 refine Calls.mono H1.out ?_
 rintro e w6 ⟨rfl, k, rfl⟩
 have HT := toHid (HS6.out.touch.trans ((Touch.refl [] w5).drewN k) (by simp))
 clear H1 HS6
 go_wp2
 go_ret
 exact ⟨rfl, HT.out⟩
end Go.Proofs.YtmhhahmjkopjhaaGreat
end
section
namespace Go.Proofs.YtmhhahmjkopjhaaGreat
open Go.ChangeShapes Go.WideShapes Go.ChangeAt Go.RowKit
theorem laidOut : laidOutB Tryz.prog = true := by kernel_rfl
theorem cellsOp : Tryz.prog.cellsOf 41 = 5 := by kernel_rfl
theorem cellsDef : Tryz.prog.cellsOf 36 = 4 := by kernel_rfl
theorem cellTypesOp : Tryz.prog.cellTypes Tryz.prog.depth 41 = some [3, 3, 39, 39, 23] := by kernel_rfl
theorem cellTypesDef : Tryz.prog.cellTypes Tryz.prog.depth 36 = some [34, 3, 3, 3] := by kernel_rfl
theorem cell_int {P : Program} {w : World} {r : Reach} {base : Nat} {t : TypeId} {v : Value} {k : IntKind} (ht : P.underlying t = some (.int k)) (h : Cell.okWide P w r base t v) : ∃ n, v = .int k n ∧ k.has n := by
 simp only [Cell.okWide, ht] at h
 cases v <;> simp_all [Cell.ok]
theorem cell_slice {P : Program} {w : World} {r : Reach} {base : Nat} {t e : TypeId} {v : Value} (ht : P.underlying t = some (.slice e)) (h : Cell.okWide P w r base t v) : ∃ a len cap, v = .slice a len cap := by
 simp only [Cell.okWide, ht] at h
 cases v <;> simp_all [Cell.ok]
theorem int_open {P : Program} {w : World} {r : Reach} {base : Nat} {t : TypeId} {v : Value} {k : IntKind} (ht : P.underlying t = some (.int k)) (h : Value.okWide P w r base t v) : ∃ n, v = .int k n ∧ k.has n := by
 simp only [Value.okWide, ht] at h
 exact cell_int ht h
theorem slice_open {P : Program} {w : World} {r : Reach} {base : Nat} {t e : TypeId} {v : Value} (ht : P.underlying t = some (.slice e)) (h : Value.okWide P w r base t v) : ∃ a len cap, v = .slice a len cap := by
 simp only [Value.okWide, ht] at h
 exact cell_slice ht h
theorem has_i64 {n : Int} (h : IntKind.i64.has n) : -9223372036854775808 ≤ n ∧ n ≤ 9223372036854775807 := by
 simp [IntKind.has, IntKind.min, IntKind.max, IntKind.signed, IntKind.bits] at h
 omega
theorem has_u64 {n : Int} (h : IntKind.u64.has n) : 0 ≤ n ∧ n ≤ 18446744073709551615 := by
 simp [IntKind.has, IntKind.min, IntKind.max, IntKind.signed, IntKind.bits] at h
 omega
set_option maxRecDepth 100000 in
theorem val_i64 {W : World} {base : Nat} {v : Value} (h : Value.okWide Tryz.prog W .any base 3 v) : ∃ n, v = .int .i64 n ∧ -9223372036854775808 ≤ n ∧ n ≤ 9223372036854775807 := by
 obtain ⟨n, rfl, hn⟩ := int_open Tryz.underlying3 h
 exact ⟨n, rfl, has_i64 hn⟩
set_option maxRecDepth 100000 in
theorem val_u64 {W : World} {base : Nat} {v : Value} (h : Value.okWide Tryz.prog W .any base 23 v) : ∃ n, v = .int .u64 n ∧ 0 ≤ n ∧ n ≤ 18446744073709551615 := by
 obtain ⟨n, rfl, hn⟩ := int_open Tryz.underlying23 h
 exact ⟨n, rfl, has_u64 hn⟩
theorem wf_u64 {n : Int} (h : (Lit.int .u64 n).wf = true) : 0 ≤ n ∧ n ≤ 18446744073709551615 := by
 simp [Lit.wf, IntKind.min, IntKind.max, IntKind.signed, IntKind.bits] at h
 omega
theorem wf_i64 {n : Int} (h : (Lit.int .i64 n).wf = true) : -9223372036854775808 ≤ n ∧ n ≤ 9223372036854775807 := by
 simp [Lit.wf, IntKind.min, IntKind.max, IntKind.signed, IntKind.bits] at h
 omega
theorem wf_u8 {n : Int} (h : (Lit.int .u8 n).wf = true) : 0 ≤ n ∧ n ≤ 255 := by
 simp [Lit.wf, IntKind.min, IntKind.max, IntKind.signed, IntKind.bits] at h
 omega
theorem five {cs : Array Value} (h : cs.size = 5) : ∃ c0 c1 c2 c3 c4, cs = #[c0, c1, c2, c3, c4] := by
 obtain ⟨l⟩ := cs
 match l, h with
 | [c0, c1, c2, c3, c4], _ => exact ⟨c0, c1, c2, c3, c4, rfl⟩
theorem four {cs : Array Value} (h : cs.size = 4) : ∃ c0 c1 c2 c3, cs = #[c0, c1, c2, c3] := by
 obtain ⟨l⟩ := cs
 match l, h with
 | [c0, c1, c2, c3], _ => exact ⟨c0, c1, c2, c3, rfl⟩
theorem op_cells {P : Program} {w : World} {r : Reach} {base : Nat} {t3 tb tu e : TypeId} (u3 : P.underlying t3 = some (.int .i64)) (uu : P.underlying tu = some (.int .u64)) (ub : P.underlying tb = some (.slice e))
  {c0 c1 c2 c3 c4 : Value} (hc : ∀ (i : Nat) v, (#[c0, c1, c2, c3, c4] : Array Value)[i]? = some v → ∃ u, ([t3, t3, tb, tb, tu] : List TypeId)[i % 5]? = some u ∧ Cell.okWide P w r base u v) : ∃ o : OpT, (.agg #[c0, c1, c2, c3, c4]) = opT o := by
 obtain ⟨x0, hu0, h0⟩ := hc 0 c0 rfl
 obtain ⟨x1, hu1, h1⟩ := hc 1 c1 rfl
 obtain ⟨x2, hu2, h2⟩ := hc 2 c2 rfl
 obtain ⟨x3, hu3, h3⟩ := hc 3 c3 rfl
 obtain ⟨x4, hu4, h4⟩ := hc 4 c4 rfl
 simp at hu0 hu1 hu2 hu3 hu4
 subst hu0 hu1 hu2 hu3 hu4
 obtain ⟨k0, rfl, _⟩ := cell_int u3 h0
 obtain ⟨m0, rfl, _⟩ := cell_int u3 h1
 obtain ⟨ka, kl, kc, rfl⟩ := cell_slice ub h2
 obtain ⟨va, vl, vc, rfl⟩ := cell_slice ub h3
 obtain ⟨f0, rfl, _⟩ := cell_int uu h4
 exact ⟨⟨k0, m0, ka, kl, kc, [], va, vl, vc, [], f0⟩, rfl⟩
set_option maxRecDepth 100000 in
theorem op_open {W : World} {base : Nat} {v : Value} (h : Value.okWide Tryz.prog W .any base 41 v) : ∃ o : OpT, v = opT o := by
 simp only [Value.okWide, Tryz.underlying41] at h
 obtain ⟨cs, rfl, hsz, ts, hts, _, hc⟩ := h
 rw [cellTypesOp] at hts
 injection hts with hts
 subst hts
 rw [cellsOp] at hsz
 obtain ⟨c0, c1, c2, c3, c4, rfl⟩ := five hsz
 exact op_cells Tryz.underlying3 Tryz.underlying23 Tryz.underlying39 hc
theorem def_cells {P : Program} {w : World} {r : Reach} {base : Nat} {tk t3 : TypeId} (uk : P.underlying tk = some (.int .i64)) (u3 : P.underlying t3 = some (.int .i64))
  {c0 c1 c2 c3 : Value} (hc : ∀ (i : Nat) v, (#[c0, c1, c2, c3] : Array Value)[i]? = some v → ∃ u, ([tk, t3, t3, t3] : List TypeId)[i % 4]? = some u ∧ Cell.okWide P w r base u v) : ∃ d : MDef, (.agg #[c0, c1, c2, c3]) = Value.agg d.cells.toArray := by
 obtain ⟨x0, hu0, h0⟩ := hc 0 c0 rfl
 obtain ⟨x1, hu1, h1⟩ := hc 1 c1 rfl
 obtain ⟨x2, hu2, h2⟩ := hc 2 c2 rfl
 obtain ⟨x3, hu3, h3⟩ := hc 3 c3 rfl
 simp at hu0 hu1 hu2 hu3
 subst hu0 hu1 hu2 hu3
 obtain ⟨a, rfl, _⟩ := cell_int uk h0
 obtain ⟨b, rfl, _⟩ := cell_int u3 h1
 obtain ⟨c, rfl, _⟩ := cell_int u3 h2
 obtain ⟨d, rfl, _⟩ := cell_int u3 h3
 exact ⟨⟨a, b, c, d⟩, rfl⟩
set_option maxRecDepth 100000 in
theorem def_open {W : World} {base : Nat} {v : Value} (h : Value.okWide Tryz.prog W .any base 36 v) : ∃ d : MDef, v = .agg d.cells.toArray := by
 simp only [Value.okWide, Tryz.underlying36] at h
 obtain ⟨cs, rfl, hsz, ts, hts, _, hc⟩ := h
 rw [cellTypesDef] at hts
 injection hts with hts
 subst hts
 rw [cellsDef] at hsz
 obtain ⟨c0, c1, c2, c3, rfl⟩ := four hsz
 exact def_cells Tryz.underlying34 Tryz.underlying3 hc
structure ScriptT (w : World) (sa : Option Addr) (n : Nat) (f : Nat → OpT) : Prop where
 small : n ≤ 9223372036854775807
 at_ : ∀ j, j < n → ∃ b off, sa = some ⟨b, off, none⟩ ∧ (f j).Ok w ∧ ∀ r v, (f j).cells[r]? = some v → w.cell? ⟨b, off + j * 5 + r, none⟩ = some v
theorem OpT.Ok.touch {w w' : World} {o : OpT} (h : o.Ok w) (ht : Touch [] w w') : o.Ok w' := ⟨h.k0, h.k1, h.m0, h.m1, h.f0, h.f1, h.key.touch ht, h.val.touch ht, h.kcap⟩
section
variable {H : Type} {enc : TypeId × Value → H} {W : World}
theorem key_in {m : Nat} {v : Value} {x : DataW H × List MemPlace} (h : DataW.trod enc Tryz.prog W 0 (fun _ => true) true m 39 [v] = some x) : ∃ sa sl sc bs, v = .slice sa sl sc ∧ KeyAt W sa sl bs ∧ sl ≤ sc := by
 rcases open_ints Tryz.underlying39 Tryz.underlying5 (by kernel_rfl) h with ⟨hcs, _⟩ | ⟨a, l, c, zs, hcs, _, hl, hm, hz, _, hcell, hwz⟩
 ·simp at hcs
  exact ⟨none, 0, 0, [], hcs, ⟨rfl, by simp, by simp, by simp⟩, Nat.le_refl _⟩
 ·simp at hcs
  have hz' : zs.length = c := by simpa using hz
  unfold maxLen at hm
  have hlen : (zs.take l).length = l := by simp; omega
  refine ⟨some a, l, c, zs.take l, hcs, ⟨hlen.symm, fun y hy => wf_u8 (hwz y (List.mem_of_mem_take hy)), by omega, fun hp => ?_⟩, hl⟩
  obtain ⟨b, off, spot⟩ := a
  have hc := hcell 0 (by omega)
  have hspot : spot = none := by simpa [Addr.add] using World.cell?_spot hc
  subst hspot
  refine ⟨b, off, rfl, fun j hj => ?_⟩
  have hjl : j < l := by omega
  have hj' := hcell j (by omega)
  rw [Addr.add_lit] at hj'
  rw [hj', List.getD_eq_getElem?_getD, List.getD_eq_getElem?_getD, List.getElem?_take, if_pos hjl]
set_option maxRecDepth 100000 in
theorem op_at {m : Nat} {cs : List Value} {x : DataW H × List MemPlace} (h : DataW.trod enc Tryz.prog W 0 (fun _ => true) true m 41 cs = some x) : ∃ o : OpT, o.Ok W ∧ cs = o.cells := by
 obtain ⟨xs, k, _, _, hl, hxl, hf⟩ := DataW.trod_struct Tryz.underlying41 h
 rw [cellsOp] at hl
 match cs, hl with
 | [u0, u1, u2, u3, u4], _ =>
  have g0 : DataW.trod enc Tryz.prog W 0 (fun _ => true) true k 3 (List.take (Tryz.prog.cellsOf 3) (List.drop 0 [u0, u1, u2, u3, u4])) = xs[0]? := hf 0 _ rfl
  have g1 : DataW.trod enc Tryz.prog W 0 (fun _ => true) true k 3 (List.take (Tryz.prog.cellsOf 3) (List.drop 1 [u0, u1, u2, u3, u4])) = xs[1]? := hf 1 _ rfl
  have g2 : DataW.trod enc Tryz.prog W 0 (fun _ => true) true k 39 (List.take (Tryz.prog.cellsOf 39) (List.drop 2 [u0, u1, u2, u3, u4])) = xs[2]? := hf 2 _ rfl
  have g3 : DataW.trod enc Tryz.prog W 0 (fun _ => true) true k 39 (List.take (Tryz.prog.cellsOf 39) (List.drop 3 [u0, u1, u2, u3, u4])) = xs[3]? := hf 3 _ rfl
  have g4 : DataW.trod enc Tryz.prog W 0 (fun _ => true) true k 23 (List.take (Tryz.prog.cellsOf 23) (List.drop 4 [u0, u1, u2, u3, u4])) = xs[4]? := hf 4 _ rfl
  have k3 : Tryz.prog.cellsOf 3 = 1 := by kernel_rfl
  have kb : Tryz.prog.cellsOf 39 = 1 := by kernel_rfl
  have ku : Tryz.prog.cellsOf 23 = 1 := by kernel_rfl
  simp only [k3, kb, ku, List.drop_succ_cons, List.drop_zero, List.take_succ_cons, List.take_zero] at g0 g1 g2 g3 g4
  match xs, hxl with
  | [x0, x1, x2, x3, x4], _ =>
   obtain ⟨n0, e0, _, w0⟩ := DataW.trod_int Tryz.underlying3 (show _ = some x0 from g0)
   obtain ⟨n1, e1, _, w1⟩ := DataW.trod_int Tryz.underlying3 (show _ = some x1 from g1)
   obtain ⟨ka, kl, kc, kb, e2, hk, hkc⟩ := key_in (show _ = some x2 from g2)
   obtain ⟨va, vl, vc, vb, e3, hv, hvc⟩ := key_in (show _ = some x3 from g3)
   obtain ⟨n4, e4, _, w4⟩ := DataW.trod_int Tryz.underlying23 (show _ = some x4 from g4)
   simp at e0 e1 e4
   subst e0 e1 e2 e3 e4
   exact ⟨⟨n0, n1, ka, kl, kc, kb, va, vl, vc, vb, n4⟩, ⟨(wf_i64 w0).1, (wf_i64 w0).2, (wf_i64 w1).1, (wf_i64 w1).2, (wf_u64 w4).1, (wf_u64 w4).2, hk, hv, hkc⟩, rfl⟩
def OpT.zero : OpT := ⟨0, 0, none, 0, 0, [], none, 0, 0, [], 0⟩
theorem choose_op {Q : Nat → OpT → Prop} {m : Nat} (h : ∀ j, j < m → ∃ i, Q j i) : ∃ f : Nat → OpT, ∀ j, j < m → Q j (f j) := by
 refine ⟨fun j => if hj : j < m then Classical.choose (h j hj) else OpT.zero, fun j hj => ?_⟩
 simp only [hj, dif_pos]
 exact Classical.choose_spec (h j hj)
set_option maxRecDepth 100000 in
theorem script_in {sa : Option Addr} {n c : Nat} {d : DataW H} {p : List MemPlace} (h : DataW.Trod enc Tryz.prog W 0 (fun _ => true) true 24 (.slice sa n c) d p) : (∃ f, ScriptT W sa n f) ∧ n ≤ c := by
 obtain ⟨fuel, hf⟩ := h
 rcases Deep.open_slice Tryz.underlying24 hf with ⟨hcs, _⟩ | ⟨x, l, c', m, k, D, Pl, hcs, _, hl, hm, hmm, _, hx⟩
 ·simp [Value.cells] at hcs
  obtain ⟨rfl, rfl, rfl⟩ := hcs
  exact ⟨⟨fun _ => OpT.zero, by omega, fun j hj => by omega⟩, by omega⟩
 ·simp [Value.cells] at hcs
  obtain ⟨rfl, rfl, rfl⟩ := hcs
  simp only [if_true] at hmm
  subst hmm
  unfold maxLen at hm
  refine ⟨?_, by omega⟩
  by_cases h0 : n = 0
  ·exact ⟨fun _ => OpT.zero, by omega, fun j hj => by omega⟩
  ·rw [cellsOp] at hx
   have hx' : ∀ j, j < n → ∃ o : OpT, o.Ok W ∧ ∀ r v, o.cells[r]? = some v → W.cell? ((x.add (j * 5)).add r) = some v := by
    intro j hj
    obtain ⟨cs', h1, h2⟩ := hx j (by omega)
    obtain ⟨o, ok, rfl⟩ := op_at h2
    obtain ⟨_, hlen, hcell⟩ := World.cells?_some h1
    refine ⟨o, ok, fun r v hv => ?_⟩
    have hr : r < 5 := by have := (List.getElem?_eq_some_iff.1 hv).1; simpa [OpT.cells] using this
    rw [hcell r hr]
    exact hv
   obtain ⟨f, hf⟩ := choose_op hx'
   obtain ⟨b, off, spot⟩ := x
   have hc := (hf 0 (by omega)).2 0 _ rfl
   have hspot : spot = none := by simpa [Addr.add] using World.cell?_spot hc
   subst hspot
   refine ⟨f, by omega, fun j hj => ⟨b, off, rfl, (hf j hj).1, fun r v hv => ?_⟩⟩
   have := (hf j hj).2 r v hv
   rw [Addr.add_lit, Addr.add_lit] at this
   exact this
set_option maxRecDepth 100000 in
theorem def_at {m : Nat} {cs : List Value} {x : DataW H × List MemPlace} (h : DataW.trod enc Tryz.prog W 0 (fun _ => true) true m 36 cs = some x) : ∃ d : MDef, cs = d.cells := by
 obtain ⟨xs, k, _, _, hl, hxl, hf⟩ := DataW.trod_struct Tryz.underlying36 h
 rw [cellsDef] at hl
 match cs, hl with
 | [u0, u1, u2, u3], _ =>
  have g0 : DataW.trod enc Tryz.prog W 0 (fun _ => true) true k 34 (List.take (Tryz.prog.cellsOf 34) (List.drop 0 [u0, u1, u2, u3])) = xs[0]? := hf 0 _ rfl
  have g1 : DataW.trod enc Tryz.prog W 0 (fun _ => true) true k 3 (List.take (Tryz.prog.cellsOf 3) (List.drop 1 [u0, u1, u2, u3])) = xs[1]? := hf 1 _ rfl
  have g2 : DataW.trod enc Tryz.prog W 0 (fun _ => true) true k 3 (List.take (Tryz.prog.cellsOf 3) (List.drop 2 [u0, u1, u2, u3])) = xs[2]? := hf 2 _ rfl
  have g3 : DataW.trod enc Tryz.prog W 0 (fun _ => true) true k 3 (List.take (Tryz.prog.cellsOf 3) (List.drop 3 [u0, u1, u2, u3])) = xs[3]? := hf 3 _ rfl
  have k3 : Tryz.prog.cellsOf 3 = 1 := by kernel_rfl
  have kk : Tryz.prog.cellsOf 34 = 1 := by kernel_rfl
  simp only [k3, kk, List.drop_succ_cons, List.drop_zero, List.take_succ_cons, List.take_zero] at g0 g1 g2 g3
  match xs, hxl with
  | [x0, x1, x2, x3], _ =>
   obtain ⟨n0, e0, _, w0⟩ := DataW.trod_int Tryz.underlying34 (show _ = some x0 from g0)
   obtain ⟨n1, e1, _, w1⟩ := DataW.trod_int Tryz.underlying3 (show _ = some x1 from g1)
   obtain ⟨n2, e2, _, w2⟩ := DataW.trod_int Tryz.underlying3 (show _ = some x2 from g2)
   obtain ⟨n3, e3, _, w3⟩ := DataW.trod_int Tryz.underlying3 (show _ = some x3 from g3)
   simp at e0 e1 e2 e3
   subst e0 e1 e2 e3
   exact ⟨⟨n0, n1, n2, n3⟩, rfl⟩
theorem choose_defs {Q : Nat → MDef → Prop} : ∀ {m : Nat}, (∀ j, j < m → ∃ i, Q j i) → ∃ ds : List MDef, ds.length = m ∧ ∀ j d, ds[j]? = some d → Q j d
 | 0, _ => ⟨[], rfl, fun j d h => by simp at h⟩
 | m + 1, h => by
  obtain ⟨ds, h1, h2⟩ := choose_defs (m := m) (fun j hj => h j (by omega))
  obtain ⟨d, hd⟩ := h m (by omega)
  refine ⟨ds ++ [d], by simp [h1], fun j d' hj => ?_⟩
  by_cases hjm : j < ds.length
  ·rw [List.getElem?_append_left hjm] at hj
   exact h2 j d' hj
  ·have hlt := (List.getElem?_eq_some_iff.1 hj).1
   simp at hlt
   have : j = ds.length := by omega
   subst this
   simp at hj
   subst hj
   rw [h1]
   exact hd
set_option maxRecDepth 100000 in
theorem defs_in {sa : Option Addr} {n c : Nat} {d : DataW H} {p : List MemPlace} (h : DataW.Trod enc Tryz.prog W 0 (fun _ => true) true 22 (.slice sa n c) d p) : ∃ ds, DefsAt W sa n ds := by
 obtain ⟨fuel, hf⟩ := h
 rcases Deep.open_slice Tryz.underlying22 hf with ⟨hcs, _⟩ | ⟨x, l, c', m, k, D, Pl, hcs, _, hl, hm, hmm, _, hx⟩
 ·simp [Value.cells] at hcs
  obtain ⟨rfl, rfl, rfl⟩ := hcs
  exact ⟨[], rfl, by omega, by omega⟩
 ·simp [Value.cells] at hcs
  obtain ⟨rfl, rfl, rfl⟩ := hcs
  simp only [if_true] at hmm
  subst hmm
  unfold maxLen at hm
  rw [cellsDef] at hx
  have hx' : ∀ j, j < n → ∃ d : MDef, ∀ r v, d.cells[r]? = some v → W.cell? ((x.add (j * 4)).add r) = some v := by
   intro j hj
   obtain ⟨cs', h1, h2⟩ := hx j (by omega)
   obtain ⟨d, rfl⟩ := def_at h2
   obtain ⟨_, hlen, hcell⟩ := World.cells?_some h1
   refine ⟨d, fun r v hv => ?_⟩
   have hr : r < 4 := by have := (List.getElem?_eq_some_iff.1 hv).1; simpa [MDef.cells] using this
   rw [hcell r hr]
   exact hv
  obtain ⟨ds, hl2, hf⟩ := choose_defs hx'
  refine ⟨ds, hl2.symm, by omega, fun hn => ?_⟩
  obtain ⟨b, off, spot⟩ := x
  have hc := hf 0 ds[0] (List.getElem?_eq_getElem (by omega)) 0 _ rfl
  have hspot : spot = none := by simpa [Addr.add] using World.cell?_spot hc
  subst hspot
  refine ⟨b, off, rfl, fun i d hd j v hv => ?_⟩
  have := hf i d hd j v hv
  rw [Addr.add_lit, Addr.add_lit] at this
  exact this
end
end Go.Proofs.YtmhhahmjkopjhaaGreat
end
section
namespace Go.Proofs.YtmhhahmjkopjhaaGreat
open Go.RowKit
theorem dump_len {w : World} {x : PT} {s : Mem.MS} (h : PBoth w x s) {k : Nat} {m : PMap} (hm : x.maps[k]? = some m) (rs : List Mem.Reg) : (m.dump k rs).length ≤ 1000 := by
 unfold PMap.dump heldP
 have h1 := List.length_filterMap_le (fun j => match m.q.slots.getD j none with
  | some b => some (b, Mem.readV rs (plI k j) m.d.val)
  | none => none) (List.range m.q.slots.length)
 rw [List.length_range] at h1
 have h2 := (h.tab.maps m (List.mem_of_getElem? hm)).good.m2
 exact Nat.le_trans h1 (by omega)
theorem ScriptT.touch {w w' : World} {sa : Option Addr} {n : Nat} {f : Nat → OpT} (h : ScriptT w sa n f) (ht : Touch [] w w') : ScriptT w' sa n f :=
 ⟨h.small, fun j hj => by
  obtain ⟨b, off, h1, h2, h3⟩ := h.at_ j hj
  exact ⟨b, off, h1, h2.touch ht, fun r v hv => ht.cell (h3 r v hv) (by simp)⟩⟩
set_option maxHeartbeats 8000000 in
set_option maxRecDepth 100000 in
theorem plays_law {w : World} {sa : Option Addr} {n sc : Nat} {ds : List MDef} (hd : DefsAt w sa n ds) (tk : Int) (t0 : 0 ≤ tk) (t1 : tk ≤ 18446744073709551615) {oa : Option Addr} {m oc : Nat} {f : Nat → OpT} (hs : ScriptT w oa m f) :
  Calls Tryz.prog 3 #[.slice sa n sc, .int .u64 tk, .slice oa m oc] w fun e w' => e = .returned (.bool true) ∧ Touch [] w w' := by
 have HD := toHid (And.intro hd hs)
 have hn := hd.small
 have hm := hs.small
 have HL := toHid hd.len
 clear hd hs
 go_enter Tryz.func3, Tryz.ntmps3
 go_wp2_with fail
 refine (first_any _).mono ?_
 rintro e w2 ⟨rfl, ht2⟩
 have HD2 := toHid (And.intro (HD.out.1.touch ht2) (HD.out.2.touch ht2))
 have H1 := toHid (both_any (sc := sc) HD2.out.1 tk t0 t1)
 have HT2 := toHid ht2
 clear ht2
 go_wp2_with fail
 refine H1.out.mono ?_
 rintro e w3 hb
 rcases hb with ⟨s, u, why, hw, rfl, hP, hR⟩ | ⟨x, s, y, u, rfl, hD, hds, h8, _⟩
 ·have hc := hR.count hP.mem.ids
  have H2 := toHid (Mem.count_any hP.mem)
  have H3 := toHid (Mem.rcount_any hP.ref)
  rw [hc] at H3
  have HT3 := toHid (HT2.out.trans hP.touch (by simp))
  clear hP hR hc H1
  go_wp2_with fail
  refine H2.out.mono ?_
  rintro e w4 ⟨rfl, rfl⟩
  go_wp2_with fail
  refine H3.out.mono ?_
  rintro e w5 ⟨rfl, ht5⟩
  have HF := toHid (HT3.out.trans ht5 (by simp))
  clear ht5 H2 H3
  go_wp2
  go_ret
  exact ⟨rfl, HF.out⟩
 ·have hml : x.maps.length = n := by
   have h1 := congrArg List.length hds
   simp [PT.ds] at h1
   have := HL.out
   omega
  have hc := hD.rel.count hD.p.mem.ids
  have H0 := toHid (count_any hD.p.tab)
  have H2 := toHid (Mem.count_any hD.p.mem)
  have H3 := toHid (Mem.rcount_any hD.r.mem)
  rw [hc] at H3
  rw [hml] at H0
  have hn8 : n ≤ 8 := by have := HL.out; omega
  have HX := toHid (And.intro hD hds)
  clear hD hds hc H1 hml h8
  go_wp2_with fail
  refine H0.out.mono ?_
  rintro e w4 ⟨rfl, rfl⟩
  go_wp2_with fail
  refine H2.out.mono ?_
  rintro e w5 ⟨rfl, rfl⟩
  go_wp2_with fail
  refine H3.out.mono ?_
  rintro e w6 ⟨rfl, ht6⟩
  have HD6 := toHid (HX.out.1.still ht6)
  have HDS : Hid (x.ds = ds) := HX.out.2
  clear ht6 H0 H2 H3 HX
  go_wp2
  have hz3 := (zero_of_info (P := Tryz.prog) zero36n).1
  have hsz3 := (zero_of_info (P := Tryz.prog) zero36n).2
  go_loopw [13] (fun t w' => ∃ i : Int, -1 ≤ i ∧ i ≤ n + 1 ∧ t = .int .i64 i ∧ Hid (Duo w2 w' x s y u 0)) (fun t _ => (n + 2 - intOf t).toNat)
  case atStart => exact ⟨-1, by omega, by omega, rfl, HD6⟩
  case round =>
   clear HD6
   obtain ⟨i, hi0, hi1, rfl, HI⟩ := hrel
   have HI2 := HI
   have H1 := toHid (def_any HI.out.p.tab i)
   by_cases hneg : i < 0
   ·have hno : x.nth i = none := by
     unfold PT.nth
     rw [if_neg (by omega)]
    rw [hno] at H1
    simp only [defV] at H1
    clear hno HI
    go_wp2_with fail
    refine H1.out.mono ?_
    rintro e w7 ⟨rfl, ht7⟩
    have HN := toHid (fun q => HI2.out.still ((ht7.alloc (.cells #[.int .i64 0, .int .i64 0, .int .i64 0, .int .i64 0] 36)).drewN q))
    have hNB := Blk.newA w7 #[.int .i64 0, .int .i64 0, .int .i64 0, .int .i64 0] _ 36 rfl
    clear ht7 H1
    go_wp2_with fail
    go_quiet (fail)
    go_wp2
    go_roundw
    case rel => exact ⟨i + 1, by omega, by omega, by go_num, HN.out _⟩
    case measure => simp [intOf]; omega
   by_cases hlt : i < n
   ·obtain ⟨k, rfl⟩ : ∃ k : Nat, i = k := ⟨i.toNat, by omega⟩
    have hl := HL.out
    have hdk : ds[k]? = some ds[k] := List.getElem?_eq_getElem (by omega)
    have hxd := HDS.out
    obtain ⟨m0, hm0, hmd⟩ : ∃ m0, x.maps[k]? = some m0 ∧ m0.d = ds[k] := by
     have h1 := congrArg (fun l => l[k]?) hxd
     unfold PT.ds at h1
     simp only [List.getElem?_map, hdk] at h1
     cases hq : x.maps[k]? with
     | none => rw [hq] at h1; cases h1
     | some m' => rw [hq] at h1; exact ⟨m', rfl, by injection h1⟩
    rw [nth_of hm0] at H1
    simp only [defV, hmd] at H1
    obtain ⟨b, off, hsa, hcells⟩ := HD2.out.1.at_ (by omega)
    have HC := toHid (fun j v hj => HI2.out.touch.cell (hcells k _ hdk j v hj) (by simp))
    have HSA := toHid hsa
    generalize ds[k] = dk at *
    unfold MDef.cells at *
    clear hdk hxd hm0 hmd hcells HI hl
    subst hsa
    go_wp2_with fail
    refine H1.out.mono ?_
    rintro e w7 ⟨rfl, ht7⟩
    have HN := toHid (fun q => HI2.out.still ((ht7.alloc (.cells #[.int .i64 dk.kind, .int .i64 dk.key, .int .i64 dk.val, .int .i64 dk.max] 36)).drewN q))
    have hta := ht7.alloc (.cells #[.int .i64 dk.kind, .int .i64 dk.key, .int .i64 dk.val, .int .i64 dk.max] 36)
    have c0 := hta.cell (HC.out 0 _ rfl) (by simp)
    rw [Nat.add_zero] at c0
    have c1 := hta.cell (HC.out 1 _ rfl) (by simp)
    have c2 := hta.cell (HC.out 2 _ rfl) (by simp)
    have c3 := hta.cell (HC.out 3 _ rfl) (by simp)
    have hNB := Blk.newA w7 #[.int .i64 dk.kind, .int .i64 dk.key, .int .i64 dk.val, .int .i64 dk.max] _ 36 rfl
    clear ht7 H1 hta
    go_wp2_with fail
    go_quiet (fail)
    go_wp2
    go_roundw
    case rel => exact ⟨k + 1, by omega, by omega, by go_num, HN.out _⟩
    case measure => simp [intOf]; omega
   by_cases he : i = n
   ·subst he
    have hno : x.nth n = none := by
     unfold PT.nth
     rw [if_pos (by omega), List.getElem?_eq_none]
     have h1 := congrArg List.length HDS.out
     have := HL.out
     simp [PT.ds] at h1
     omega
    rw [hno] at H1
    simp only [defV] at H1
    clear hno HI
    go_wp2_with fail
    refine H1.out.mono ?_
    rintro e w7 ⟨rfl, ht7⟩
    have HN := toHid (fun q => HI2.out.still ((ht7.alloc (.cells #[.int .i64 0, .int .i64 0, .int .i64 0, .int .i64 0] 36)).drewN q))
    have hNB := Blk.newA w7 #[.int .i64 0, .int .i64 0, .int .i64 0, .int .i64 0] _ 36 rfl
    clear ht7 H1
    go_wp2_with fail
    go_quiet (fail)
    go_wp2
    go_roundw
    case rel => exact ⟨n + 1, by omega, by omega, by go_num, HN.out _⟩
    case measure => simp [intOf]; omega
   ·obtain rfl : i = n + 1 := by omega
    have HP0 : Hid (∃ x' s' y' u', Duo w2 wr x' s' y' u' ((0 : Nat) : Int) ∧ x'.t = x.t ∧ s'.m = s.m ∧ y'.t = y.t ∧ u'.m = u.m ∧ x'.ds = ds) := ⟨x, s, y, u, HI.out, rfl, rfl, rfl, rfl, HDS.out⟩
    clear HI HI2 H1 HDS
    generalize x.t = T at *
    generalize s.m = M at *
    generalize y.t = Y at *
    generalize u.m = U at *
    go_wp2_with fail
    go_loopw [115] (fun t w' => ∃ k : Nat, k ≤ m ∧ k ≤ 60 ∧ t = .int .i64 k ∧ Hid (∃ x' s' y' u', Duo w2 w' x' s' y' u' k ∧ x'.t = T ∧ s'.m = M ∧ y'.t = Y ∧ u'.m = U ∧ x'.ds = ds)) (fun t _ => m - (intOf t).toNat)
    case atStart => exact ⟨0, by omega, by omega, rfl, HP0⟩
    case round =>
     clear HP0
     obtain ⟨k, hk, hk6, rfl, HI⟩ := hrel
     by_cases hlt : k < m
     ·obtain ⟨x, s, y, u, hD, hxT, hsM, hyY, huU, hds⟩ := HI.out
      obtain ⟨ob, off, hoa, ok, hcells⟩ := HD2.out.2.at_ k hlt
      subst hoa
      generalize f k = o at *
      have c0 := hD.touch.cell (hcells 0 _ rfl) (by simp)
      have c1 := hD.touch.cell (hcells 1 _ rfl) (by simp)
      have c2 := hD.touch.cell (hcells 2 _ rfl) (by simp)
      have c3 := hD.touch.cell (hcells 3 _ rfl) (by simp)
      have c4 := hD.touch.cell (hcells 4 _ rfl) (by simp)
      rw [Nat.add_zero] at c0
      have hkm : (k : Int) < m := by omega
      by_cases h60 : k = 60
      ·have h60' : (60 : Int) ≤ k := by omega
       clear h60
       obtain ⟨rfl, rfl, rfl, rfl⟩ : x.t = T ∧ s.m = M ∧ y.t = Y ∧ u.m = U := ⟨hxT, hsM, hyY, huU⟩
       have HDD := toHid (hD.still ((Touch.refl [] wr).alloc (.cells #[.int .i64 o.k, .int .i64 o.mp, .slice o.ka o.kl o.kc, .slice o.va o.vl o.vc, .int .u64 o.fl] 41)))
       have HDS : Hid (x.ds = ds) := hds
       clear hD hds hxT hsM hyY huU HI
       go_wp2_with fail
       go_loopw [132] (fun t w' => ∃ j : Nat, j ≤ n ∧ t = .int .i64 j ∧ Hid (Duo w2 w' x s y u (k : Int))) (fun t _ => n - (intOf t).toNat)
       case atStart => exact ⟨0, by omega, rfl, HDD⟩
       case round =>
        clear HDD
        obtain ⟨j, hj, rfl, HDD⟩ := hrel
        by_cases hjn : j < n
        ·have hl := HL.out
         have hdk : ds[j]? = some ds[j] := List.getElem?_eq_getElem (by omega)
         have hxd := HDS.out
         obtain ⟨m0, hm0⟩ : ∃ m0, x.maps[j]? = some m0 := by
          have h1 := congrArg List.length hxd
          simp [PT.ds] at h1
          exact ⟨_, List.getElem?_eq_getElem (by omega)⟩
         obtain ⟨m1, hm1, _⟩ := HDD.out.maps hm0
         have H1 := toHid (pdump_any HDD.out.p hm0 (HDD.out.served hm0))
         rw [HDD.out.dump hm0 hm1] at H1
         have hdl := dump_len HDD.out.p hm0 s.rs
         rw [HDD.out.dump hm0 hm1] at hdl
         have HX := toHid (And.intro HDD.out (And.intro hm1 hdl))
         have hj8 : (j : Int) < n := by omega
         unfold PDumpPost at H1
         generalize hps : m1.dump u.all = ps at *
         have HPS := toHid hps
         clear hps hm1 hdl hl hdk hxd hm0 HDD
         go_wp2_with fail
         refine Calls.mono H1.out ?_
         rintro e w8 ⟨⟨v, rfl, hPL⟩, ht8⟩
         have HD8 := toHid (HX.out.1.still ht8)
         have H2 := toHid (rdump_any HD8.out.r HX.out.2.1)
         rw [HPS.out] at H2
         have HPL := toHid hPL
         clear hPL ht8 H1
         go_wp2_with fail
         refine Calls.mono H2.out ?_
         rintro e w9 ⟨⟨v2, rfl, hPL2⟩, ht9⟩
         have H3 := toHid (rsame_any (HPL.out.touch ht9 (by simp)) hPL2 HX.out.2.2)
         have HD9 := toHid (HD8.out.still ht9)
         clear hPL2 ht9 H2
         go_wp2_with fail
         refine Calls.mono H3.out ?_
         rintro e w10 ⟨rfl, ht10⟩
         have HN := toHid (HD9.out.still ht10)
         clear ht10 H3 HD8 HD9 HX
         go_wp2
         go_roundw
         case rel => exact ⟨j + 1, by omega, by go_num, HN⟩
         case measure => simp [intOf]; omega
        ·obtain rfl : j = n := by omega
         have HF := toHid (HT2.out.trans HDD.out.touch (by simp))
         clear HDD
         go_wp2
         go_ret
         exact ⟨rfl, HF.out⟩
      ·have h60' : ¬ (60 : Int) ≤ k := by omega
       have hta := (Touch.refl [] wr).alloc (.cells o.cells.toArray 41)
       have H1 := toHid (one_any (hD.still hta) (by omega) o ok)
       unfold opT at H1
       unfold OpT.cells at *
       rw [hxT, hsM, hyY, huU] at H1
       have HX : Hid (x.t = T ∧ s.m = M ∧ y.t = Y ∧ u.m = U ∧ x.ds = ds) := ⟨hxT, hsM, hyY, huU, hds⟩
       clear hD hta hcells HI ok hxT hsM hyY huU hds
       have hNB := Blk.newA wr #[.int .i64 o.k, .int .i64 o.mp, .slice o.ka o.kl o.kc, .slice o.va o.vl o.vc, .int .u64 o.fl] _ 41 rfl
       go_wp2_with fail
       refine Calls.mono H1.out ?_
       rintro e w7 ⟨rfl, x', s', y', u', hD7, e1, e2, e3, e4, e5⟩
       have HN : Hid (∃ x' s' y' u', Duo w2 w7 x' s' y' u' ((k + 1 : Nat) : Int) ∧ x'.t = T ∧ s'.m = M ∧ y'.t = Y ∧ u'.m = U ∧ x'.ds = ds) := ⟨x', s', y', u', hD7, e1.trans HX.out.1, (congrArg Prod.fst e2).trans HX.out.2.1, e3.trans HX.out.2.2.1, e4.trans HX.out.2.2.2.1, e5.trans HX.out.2.2.2.2⟩
       clear hD7 e1 e2 e3 e4 e5 HX H1 c0 c1 c2 c3 c4 hNB
       go_wp2
       go_roundw
       case rel => exact ⟨k + 1, by omega, by omega, by go_num, HN⟩
       case measure => simp [intOf]; omega
     ·obtain ⟨x, s, y, u, hD, hxT, hsM, hyY, huU, hds⟩ := HI.out
      obtain rfl : k = m := by omega
      obtain ⟨rfl, rfl, rfl, rfl⟩ : x.t = T ∧ s.m = M ∧ y.t = Y ∧ u.m = U := ⟨hxT, hsM, hyY, huU⟩
      have HDD := toHid hD
      have HDS : Hid (x.ds = ds) := hds
      clear hD hds hxT hsM hyY huU HI
      go_wp2_with fail
      go_loopw [132] (fun t w' => ∃ j : Nat, j ≤ n ∧ t = .int .i64 j ∧ Hid (Duo w2 w' x s y u (k : Int))) (fun t _ => n - (intOf t).toNat)
      case atStart => exact ⟨0, by omega, rfl, HDD⟩
      case round =>
       clear HDD
       obtain ⟨j, hj, rfl, HDD⟩ := hrel
       by_cases hjn : j < n
       ·have hl := HL.out
        have hdk : ds[j]? = some ds[j] := List.getElem?_eq_getElem (by omega)
        have hxd := HDS.out
        obtain ⟨m0, hm0⟩ : ∃ m0, x.maps[j]? = some m0 := by
         have h1 := congrArg List.length hxd
         simp [PT.ds] at h1
         exact ⟨_, List.getElem?_eq_getElem (by omega)⟩
        obtain ⟨m1, hm1, _⟩ := HDD.out.maps hm0
        have H1 := toHid (pdump_any HDD.out.p hm0 (HDD.out.served hm0))
        rw [HDD.out.dump hm0 hm1] at H1
        have hdl := dump_len HDD.out.p hm0 s.rs
        rw [HDD.out.dump hm0 hm1] at hdl
        have HX := toHid (And.intro HDD.out (And.intro hm1 hdl))
        have hj8 : (j : Int) < n := by omega
        unfold PDumpPost at H1
        generalize hps : m1.dump u.all = ps at *
        have HPS := toHid hps
        clear hps hm1 hdl hl hdk hxd hm0 HDD
        go_wp2_with fail
        refine Calls.mono H1.out ?_
        rintro e w8 ⟨⟨v, rfl, hPL⟩, ht8⟩
        have HD8 := toHid (HX.out.1.still ht8)
        have H2 := toHid (rdump_any HD8.out.r HX.out.2.1)
        rw [HPS.out] at H2
        have HPL := toHid hPL
        clear hPL ht8 H1
        go_wp2_with fail
        refine Calls.mono H2.out ?_
        rintro e w9 ⟨⟨v2, rfl, hPL2⟩, ht9⟩
        have H3 := toHid (rsame_any (HPL.out.touch ht9 (by simp)) hPL2 HX.out.2.2)
        have HD9 := toHid (HD8.out.still ht9)
        clear hPL2 ht9 H2
        go_wp2_with fail
        refine Calls.mono H3.out ?_
        rintro e w10 ⟨rfl, ht10⟩
        have HN := toHid (HD9.out.still ht10)
        clear ht10 H3 HD8 HD9 HX
        go_wp2
        go_roundw
        case rel => exact ⟨j + 1, by omega, by go_num, HN⟩
        case measure => simp [intOf]; omega
       ·obtain rfl : j = n := by omega
        have HF := toHid (HT2.out.trans HDD.out.touch (by simp))
        clear HDD
        go_wp2
        go_ret
        exact ⟨rfl, HF.out⟩
end Go.Proofs.YtmhhahmjkopjhaaGreat
end
