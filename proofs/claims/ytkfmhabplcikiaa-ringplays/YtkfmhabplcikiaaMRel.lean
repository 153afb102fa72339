/-
  The memory and the reference memory: what ties them. No walk here.
-/
import Derived.Test.YtkfmhabplcikiaaMRAdd2
import Derived.Test.YtkfmhabplcikiaaMRef6
import Derived.Test.YtkfmhabplcikiaaMPoke
namespace Go.Proofs.Ytkfmhabplcikiaa.Mem
open Go.RowKit

/-- A region's marks, as the reference keeps them. -/
def setOf (r : Reg) : List Bool := match r.sb with
  | none => List.replicate r.bytes.length true
  | some _ => r.set

/-- A region of the memory and the reference's record of it. -/
structure Twin (r : Reg) (x : RReg) : Prop where
  live : x.live = true
  base : x.base = r.base
  perm : x.perm = r.perm
  bytes : x.bytes = r.bytes
  set : x.set = setOf r

structure Rel (rs : List Reg) (next : Nat) (all : List RReg) : Prop where
  len : next = all.length
  there : ∀ r ∈ rs, ∃ i : Nat, ∃ x, all[i]? = some x ∧ r.id = i ∧ Twin r x
  back : ∀ (i : Nat) x, all[i]? = some x → x.live = true → ∃ r ∈ rs, r.id = i ∧ Twin r x

theorem Rel.empty : Rel [] 0 [] := ⟨rfl, fun _ hr => absurd hr (by simp), fun i x hx => by simp at hx⟩

theorem Rel.busy {rs : List Reg} {next : Nat} {all : List RReg} (h : Rel rs next all) (base size : Int) : rbusy all base size = busyB rs base size := by
  rw [Bool.eq_iff_iff]
  unfold rbusy busyB
  rw [List.any_eq_true, List.any_eq_true]
  constructor
  · rintro ⟨x, hx, hb⟩
    unfold rbusyR at hb
    rw [Bool.and_eq_true] at hb
    obtain ⟨i, hi, rfl⟩ := List.getElem_of_mem hx
    obtain ⟨r, hr, _, ht⟩ := h.back i _ (List.getElem?_eq_getElem hi) hb.1
    refine ⟨r, hr, ?_⟩
    rw [← ht.base, ← ht.bytes]
    exact hb.2
  · rintro ⟨r, hr, hb⟩
    obtain ⟨i, x, hx, _, ht⟩ := h.there r hr
    refine ⟨x, List.mem_of_getElem? hx, ?_⟩
    unfold rbusyR
    rw [ht.live, ht.base, ht.bytes, Bool.true_and]
    exact hb

theorem Rel.addE {rs : List Reg} {next : Nat} {all : List RReg} (h : Rel rs next all) (hm : rs.length < 4096) (base size perm : Int) : raddE all base size perm = addE rs base size perm := by
  unfold raddE Ytkfmhabplcikiaa.Mem.addE
  rw [h.busy, if_neg (show ¬ 4096 ≤ rs.length by omega)]

/-- Behind a good Add. -/
theorem Rel.add {rs : List Reg} {next : Nat} {all : List RReg} (h : Rel rs next all) {i : Nat} {r : Reg} {x : RReg} (hid : r.id = next) (ht : Twin r x) : Rel (rs.take i ++ r :: rs.drop i) (next + 1) (all ++ [x]) := by
  have hl := h.len
  have hmem : ∀ y, y ∈ rs.take i ++ r :: rs.drop i ↔ y = r ∨ y ∈ rs := by
    intro y
    rw [List.mem_append, List.mem_cons]
    constructor
    · rintro (hx | rfl | hx)
      · exact Or.inr (List.mem_of_mem_take hx)
      · exact Or.inl rfl
      · exact Or.inr (List.mem_of_mem_drop hx)
    · rintro (rfl | hx)
      · exact Or.inr (Or.inl rfl)
      · rw [← List.take_append_drop i rs, List.mem_append] at hx
        rcases hx with hx | hx
        · exact Or.inl hx
        · exact Or.inr (Or.inr hx)
  refine ⟨by simp [hl], fun y hy => ?_, fun j y hy hlv => ?_⟩
  · rcases (hmem y).1 hy with rfl | hy
    · exact ⟨all.length, x, by simp, by rw [hid, hl], ht⟩
    · obtain ⟨j, z, hz, hj, hzt⟩ := h.there y hy
      exact ⟨j, z, by rw [List.getElem?_append_left (List.getElem?_eq_some_iff.1 hz).1]; exact hz, hj, hzt⟩
  · by_cases hj : j < all.length
    · rw [List.getElem?_append_left hj] at hy
      obtain ⟨z, hz, hzj, hzt⟩ := h.back j y hy hlv
      exact ⟨z, (hmem z).2 (Or.inr hz), hzj, hzt⟩
    · rw [List.getElem?_append_right (by omega)] at hy
      have hj0 : j - all.length = 0 := by
        have := (List.getElem?_eq_some_iff.1 hy).1
        simp at this
        omega
      rw [hj0] at hy
      simp at hy
      subst hy
      exact ⟨r, (hmem r).2 (Or.inl rfl), by rw [hid, hl]; omega, ht⟩

theorem Rel.kill {rs : List Reg} {next : Nat} {all : List RReg} (h : Rel rs next all) (id : Int) : Rel (killRs rs id) next (rkillAll all id) := by
  unfold rkillAll
  by_cases hb : hasB' all id = true
  · rw [if_pos hb]
    unfold hasB' at hb
    rw [Bool.and_eq_true, decide_eq_true_eq] at hb
    obtain ⟨⟨h0, h1⟩, _⟩ := hb
    refine ⟨by rw [List.length_set]; exact h.len, fun r hr => ?_, fun i x hx hlv => ?_⟩
    · unfold killRs at hr
      rw [List.mem_filter] at hr
      obtain ⟨i, x, hx, hi, ht⟩ := h.there r hr.1
      refine ⟨i, x, ?_, hi, ht⟩
      have hne : ¬ id.toNat = i := fun e => by
        have := hr.2
        rw [hi, ← e] at this
        simp at this
        omega
      rw [List.getElem?_set, if_neg hne]
      exact hx
    · rw [List.getElem?_set] at hx
      split at hx
      · split at hx
        · injection hx with hx
          subst hx
          cases hlv
        · cases hx
      · rename_i hne
        obtain ⟨r, hr, hi, ht⟩ := h.back i x hx hlv
        refine ⟨r, ?_, hi, ht⟩
        unfold killRs
        rw [List.mem_filter]
        refine ⟨hr, ?_⟩
        simp
        omega
  · rw [if_neg hb]
    refine ⟨h.len, fun r hr => ?_, fun i x hx hlv => ?_⟩
    · unfold killRs at hr
      rw [List.mem_filter] at hr
      exact h.there r hr.1
    · obtain ⟨r, hr, hi, ht⟩ := h.back i x hx hlv
      refine ⟨r, ?_, hi, ht⟩
      unfold killRs
      rw [List.mem_filter]
      refine ⟨hr, ?_⟩
      have hil := (List.getElem?_eq_some_iff.1 hx).1
      simp only [bne_iff_ne, ne_eq]
      intro e
      refine hb ?_
      unfold hasB'
      rw [Bool.and_eq_true, decide_eq_true_eq]
      refine ⟨⟨by omega, by omega⟩, ?_⟩
      rw [show id.toNat = i by omega, List.getD_eq_getElem?_getD, hx]
      exact hlv

theorem Rel.has {rs : List Reg} {next : Nat} {all : List RReg} (h : Rel rs next all) (id : Int) : hasB' all id = (regOf rs id).isSome := by
  rw [Bool.eq_iff_iff]
  unfold hasB' regOf
  rw [Bool.and_eq_true, decide_eq_true_eq, List.find?_isSome]
  constructor
  · rintro ⟨⟨h0, h1⟩, hlv⟩
    have hlt : id.toNat < all.length := by omega
    obtain ⟨r, hr, hi, _⟩ := h.back id.toNat _ (rgetD_of hlt) hlv
    exact ⟨r, hr, by simp; omega⟩
  · rintro ⟨r, hr, hi⟩
    obtain ⟨i, x, hx, hri, ht⟩ := h.there r hr
    simp at hi
    have hlt := (List.getElem?_eq_some_iff.1 hx).1
    refine ⟨⟨by omega, by omega⟩, ?_⟩
    rw [show id.toNat = i by omega, List.getD_eq_getElem?_getD, hx]
    exact ht.live

theorem Rel.killE {rs : List Reg} {next : Nat} {all : List RReg} (h : Rel rs next all) (id : Int) : rkillE all id = Ytkfmhabplcikiaa.Mem.killE rs id := by
  unfold rkillE Ytkfmhabplcikiaa.Mem.killE
  rw [h.has]

theorem hasB_one {rs : List Reg} (hs : rs.Pairwise (fun a b => a.base + (a.bytes.length : Int) ≤ b.base)) {r r' : Reg} (hr : r ∈ rs) (hr' : r' ∈ rs) {addr : Int} (h : hasB r addr = true) (h' : hasB r' addr = true) : r = r' := by
  unfold hasB at h h'
  rw [decide_eq_true_eq] at h h'
  rw [List.pairwise_iff_getElem] at hs
  obtain ⟨i, hi, rfl⟩ := List.getElem_of_mem hr
  obtain ⟨j, hj, rfl⟩ := List.getElem_of_mem hr'
  by_cases hij : i < j
  · have := hs i j hi hj hij; omega
  · by_cases hji : j < i
    · have := hs j i hj hi hji; omega
    · have e : i = j := by omega
      subst e
      rfl

theorem Rel.findSome {rs : List Reg} {next : Nat} {all : List RReg} (h : Rel rs next all) (hs : rs.Pairwise (fun a b => a.base + (a.bytes.length : Int) ≤ b.base)) {addr : Int} {r : Reg} (hf : findR rs addr = some r) :
    ∃ i : Nat, ∃ x, all.findIdx? (rhasB · addr) = some i ∧ all[i]? = some x ∧ r.id = i ∧ Twin r x := by
  have hr : r ∈ rs := List.mem_of_find?_eq_some hf
  have hb : hasB r addr = true := by have := List.find?_some hf; exact this
  obtain ⟨i, x, hx, hi, ht⟩ := h.there r hr
  have hxb : rhasB x addr = true := by
    unfold rhasB
    rw [ht.live, ht.base, ht.bytes, Bool.true_and]
    exact hb
  cases hq : all.findIdx? (rhasB · addr) with
  | none =>
    rw [List.findIdx?_eq_none_iff] at hq
    have := hq x (List.mem_of_getElem? hx)
    rw [hxb] at this
    cases this
  | some j =>
    rw [List.findIdx?_eq_some_iff_getElem] at hq
    obtain ⟨hj, hp, _⟩ := hq
    have hl : (all[j]).live = true := by unfold rhasB at hp; rw [Bool.and_eq_true] at hp; exact hp.1
    obtain ⟨r', hr', hi', ht'⟩ := h.back j _ (List.getElem?_eq_getElem hj) hl
    have hb' : hasB r' addr = true := by
      unfold rhasB at hp
      rw [hl, ht'.base, ht'.bytes, Bool.true_and] at hp
      exact hp
    obtain rfl := hasB_one hs hr hr' hb hb'
    exact ⟨j, _, rfl, List.getElem?_eq_getElem hj, hi', ht'⟩

theorem Rel.findNone {rs : List Reg} {next : Nat} {all : List RReg} (h : Rel rs next all) {addr : Int} (hf : findR rs addr = none) : all.findIdx? (rhasB · addr) = none := by
  rw [List.findIdx?_eq_none_iff]
  intro x hx
  unfold findR at hf
  rw [List.find?_eq_none] at hf
  cases hp : rhasB x addr with
  | false => rfl
  | true =>
    have hl : x.live = true := by unfold rhasB at hp; rw [Bool.and_eq_true] at hp; exact hp.1
    obtain ⟨i, hi, rfl⟩ := List.getElem_of_mem hx
    obtain ⟨r, hr, _, ht⟩ := h.back i _ (List.getElem?_eq_getElem hi) hl
    refine absurd ?_ (hf r hr)
    unfold rhasB at hp
    rw [hl, ht.base, ht.bytes, Bool.true_and] at hp
    exact hp

theorem setOf_all (r : Reg) (a n : Nat) : (((setOf r).drop a).take n).all (fun x => x) = allSetB r a n := by
  unfold setOf allSetB
  cases r.sb with
  | none => simp
  | some _ => rfl

theorem setOf_lay {r : Reg} {a : Nat} {bs : List Int} (_h : a + bs.length ≤ r.bytes.length) : setOf (layR r a bs) = laidTo (setOf r) a (List.replicate bs.length true) bs.length := by
  unfold setOf laidTo layR
  cases r.sb with
  | none =>
    simp only [List.take_replicate, List.drop_replicate, List.replicate_append_replicate, List.length_append, List.length_take, List.length_drop, Nat.min_self]
  | some _ => simp

theorem Twin.lay {r : Reg} {x : RReg} (h : Twin r x) {a : Nat} {bs : List Int} (ha : a + bs.length ≤ r.bytes.length) : Twin (layR r a bs) (rlayR x a bs) where
  live := h.live
  base := h.base
  perm := h.perm
  bytes := by
    show laidTo x.bytes a bs bs.length = r.bytes.take a ++ bs ++ r.bytes.drop (a + bs.length)
    unfold laidTo
    rw [h.bytes, List.take_length]
  set := by
    rw [setOf_lay ha]
    show laidTo x.set a (List.replicate bs.length true) bs.length = _
    rw [h.set]

theorem bits_and2 (p : Int) (h0 : 0 ≤ p) (h1 : p ≤ 7) : decide (bits .and .i64 p 2 ≠ 0) = canW p := by
  obtain rfl | rfl | rfl | rfl | rfl | rfl | rfl | rfl : p = 0 ∨ p = 1 ∨ p = 2 ∨ p = 3 ∨ p = 4 ∨ p = 5 ∨ p = 6 ∨ p = 7 := by omega
  all_goals decide
theorem bits_and1 (p : Int) (h0 : 0 ≤ p) (h1 : p ≤ 7) : decide (bits .and .i64 p 1 ≠ 0) = canR p := by
  obtain rfl | rfl | rfl | rfl | rfl | rfl | rfl | rfl : p = 0 ∨ p = 1 ∨ p = 2 ∨ p = 3 ∨ p = 4 ∨ p = 5 ∨ p = 6 ∨ p = 7 := by omega
  all_goals decide

/-- Access, on both sides. -/
theorem Rel.acc {rs : List Reg} {next : Nat} {all : List RReg} (h : Rel rs next all) (hs : rs.Pairwise (fun a b => a.base + (a.bytes.length : Int) ≤ b.base)) (hok : ∀ r ∈ rs, 0 ≤ r.perm ∧ r.perm ≤ 7) (addr n q : Int) (p : Int → Bool)
    (hp : ∀ v, 0 ≤ v → v ≤ 7 → decide (bits .and .i64 v q ≠ 0) = p v) :
    (findR rs addr = none ∧ accI all addr n p = none) ∨ ∃ r : Reg, ∃ i : Nat, ∃ x, r ∈ rs ∧ findR rs addr = some r ∧ all[i]? = some x ∧ all.getD i RReg.zero = x ∧ r.id = i ∧ Twin r x ∧ accI all addr n p = if mayB r addr n q = true then some i else none := by
  cases hf : findR rs addr with
  | none =>
    refine Or.inl ⟨rfl, ?_⟩
    unfold accI
    rw [h.findNone hf]
  | some r =>
    obtain ⟨i, x, hi, hx, hri, ht⟩ := h.findSome hs hf
    have hr : r ∈ rs := List.mem_of_find?_eq_some hf
    have hxd : all.getD i RReg.zero = x := by rw [List.getD_eq_getElem?_getD, hx]; rfl
    refine Or.inr ⟨r, i, x, hr, rfl, hx, hxd, hri, ht, ?_⟩
    unfold accI mayB
    rw [hi]
    simp only [hxd, decide_eq_true_eq, ht.bytes, ht.base, ht.perm, ← hp r.perm (hok r hr).1 (hok r hr).2]
    by_cases hc : addr - r.base ≤ (r.bytes.length : Int) - n ∧ bits .and .i64 r.perm q ≠ 0
    · rw [if_pos hc, if_pos ⟨by omega, hc.2⟩]
    · rw [if_neg hc, if_neg (fun hh => hc ⟨by omega, hh.2⟩)]

theorem Rel.look {rs : List Reg} {next : Nat} {all : List RReg} (h : Rel rs next all) (hs : rs.Pairwise (fun a b => a.base + (a.bytes.length : Int) ≤ b.base)) (hok : ∀ r ∈ rs, 0 ≤ r.perm ∧ r.perm ≤ 7) (addr n : Int) :
    rlookE all addr n = lookE rs addr n ∧ rtell all addr n = tellR rs addr n := by
  unfold rlookE lookE rtell tellR
  rcases h.acc hs hok addr n 1 canR (fun v => bits_and1 v) with ⟨h1, h2⟩ | ⟨r, i, x, _, h1, _, hxd, _, ht, h2⟩
  · rw [h1, h2]
    exact ⟨rfl, rfl⟩
  · rw [h1, h2]
    cases hm : mayB r addr n 1 with
    | false => simp [hm]
    | true => simp only [hm, if_true, hxd, ht.set, ht.base, ht.bytes, setOf_all, true_and, and_self]

theorem Rel.layE {rs : List Reg} {next : Nat} {all : List RReg} (h : Rel rs next all) (hs : rs.Pairwise (fun a b => a.base + (a.bytes.length : Int) ≤ b.base)) (hok : ∀ r ∈ rs, 0 ≤ r.perm ∧ r.perm ≤ 7) (addr : Int) (bs : List Int) :
    rwriteE all addr bs = writeE rs addr bs := by
  unfold rwriteE writeE Ytkfmhabplcikiaa.Mem.layE
  by_cases h0 : bs.length = 0
  · rw [if_pos h0, if_pos h0]
  · rw [if_neg h0, if_neg h0]
    rcases h.acc hs hok addr bs.length 2 canW (fun v => bits_and2 v) with ⟨h1, h2⟩ | ⟨r, i, x, _, h1, _, _, _, _, h2⟩
    · rw [h1, h2]
    · rw [h1, h2]
      cases hm : mayB r addr bs.length 2 <;> simp [hm]

/-- One region turned on both sides. -/
theorem Rel.upd {rs : List Reg} {next : Nat} {all : List RReg} (h : Rel rs next all) {i : Nat} {x x' : RReg} (hx : all[i]? = some x) {f : Reg → Reg} (hfid : ∀ r, (f r).id = r.id) (ht : ∀ r ∈ rs, r.id = i → Twin (f r) x') (hl : x.live = true) :
    Rel (updR rs (i : Int) f) next (all.set i x') := by
  have hi := (List.getElem?_eq_some_iff.1 hx).1
  refine ⟨by rw [List.length_set]; exact h.len, fun r hr => ?_, fun j y hy hlv => ?_⟩
  · unfold updR at hr
    obtain ⟨r0, hr0, rfl⟩ := List.mem_map.1 hr
    by_cases e : r0.id = i
    · rw [if_pos e]
      exact ⟨i, x', by rw [List.getElem?_set_self hi], by rw [hfid, e], ht r0 hr0 e⟩
    · rw [if_neg e]
      obtain ⟨j, y, hy, hj, hty⟩ := h.there r0 hr0
      refine ⟨j, y, ?_, hj, hty⟩
      rw [List.getElem?_set_ne (fun hh => e (by rw [hj, hh]))]
      exact hy
  · by_cases e : i = j
    · subst e
      rw [List.getElem?_set_self hi] at hy
      injection hy with hy
      subst hy
      obtain ⟨r, hr, hri, _⟩ := h.back i x hx hl
      refine ⟨f r, ?_, by rw [hfid, hri], ht r hr hri⟩
      unfold updR
      exact List.mem_map.2 ⟨r, hr, by rw [if_pos hri]⟩
    · rw [List.getElem?_set_ne e] at hy
      obtain ⟨r, hr, hri, hty⟩ := h.back j y hy hlv
      refine ⟨r, ?_, hri, hty⟩
      unfold updR
      refine List.mem_map.2 ⟨r, hr, ?_⟩
      rw [if_neg]
      rw [hri]
      omega
end Go.Proofs.Ytkfmhabplcikiaa.Mem
