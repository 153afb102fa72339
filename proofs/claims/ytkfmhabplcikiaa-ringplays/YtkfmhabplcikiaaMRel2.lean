/-
  The memory and the reference memory: the calls that write keep them tied. No walk here.
-/
import Derived.Test.YtkfmhabplcikiaaMRel
namespace Go.Proofs.Ytkfmhabplcikiaa.Mem
open Go.RowKit

theorem Rel.at {rs : List Reg} {next : Nat} {all : List RReg} (h : Rel rs next all) {i : Nat} {x : RReg} (hx : all[i]? = some x) : ∀ r ∈ rs, r.id = i → Twin r x := by
  intro r hr hi
  obtain ⟨j, y, hy, hj, ht⟩ := h.there r hr
  obtain rfl : j = i := by omega
  rw [hx] at hy
  injection hy with hy
  rw [hy]
  exact ht

theorem Rel.lay {rs : List Reg} {next : Nat} {all : List RReg} (h : Rel rs next all) {i : Nat} {x : RReg} (hx : all[i]? = some x) (hl : x.live = true) {a : Nat} {bs : List Int} (ha : a + bs.length ≤ x.bytes.length) :
    Rel (updR rs (i : Int) (layR · a bs)) next (all.set i (rlayR x a bs)) := by
  refine h.upd hx (fun _ => rfl) (fun r hr hi => ?_) hl
  have ht := h.at hx r hr hi
  exact ht.lay (by rw [← ht.bytes]; exact ha)

theorem Rel.write {rs : List Reg} {next : Nat} {all : List RReg} (h : Rel rs next all) (hs : rs.Pairwise (fun a b => a.base + (a.bytes.length : Int) ≤ b.base)) (hok : ∀ r ∈ rs, 0 ≤ r.perm ∧ r.perm ≤ 7) (addr : Int) (bs : List Int) :
    Rel (writeRs rs addr bs) next (rwriteAll all addr bs) := by
  unfold writeRs rwriteAll layRs
  by_cases h0 : bs.length = 0
  · rw [if_pos h0, if_pos h0]
    exact h
  · rw [if_neg h0, if_neg h0]
    rcases h.acc hs hok addr bs.length 2 canW (fun v => bits_and2 v) with ⟨h1, h2⟩ | ⟨r, i, x, _, h1, hx, hxd, hri, ht, h2⟩
    · rw [h1, h2]
      exact h
    · rw [h1, h2]
      cases hm : mayB r addr bs.length 2 with
      | false => simpa [hm] using h
      | true =>
        simp only [hm, if_true, hxd, hri, ht.base]
        refine h.lay hx ht.live ?_
        unfold mayB at hm
        rw [decide_eq_true_eq] at hm
        have hb : hasB r addr = true := by have := List.find?_some h1; exact this
        unfold hasB at hb
        rw [decide_eq_true_eq] at hb
        rw [ht.bytes]
        omega

theorem Rel.pokeE {rs : List Reg} {next : Nat} {all : List RReg} (h : Rel rs next all) (id at_ : Int) (bs : List Int) : rpokeE all id at_ bs = Ytkfmhabplcikiaa.Mem.pokeE rs id at_ bs := by
  unfold rpokeE Ytkfmhabplcikiaa.Mem.pokeE
  rw [h.has]
  cases hf : regOf rs id with
  | none => simp
  | some r =>
    have hr : r ∈ rs := List.mem_of_find?_eq_some hf
    have hi : r.id = id := by have := List.find?_some hf; simpa using this
    obtain ⟨i, x, hx, hri, ht⟩ := h.there r hr
    have hxd : all.getD id.toNat RReg.zero = x := by rw [show id.toNat = i by omega, List.getD_eq_getElem?_getD, hx]; rfl
    simp only [Option.isSome_some, if_true, hxd, ht.bytes]

theorem Rel.poke {rs : List Reg} {next : Nat} {all : List RReg} (h : Rel rs next all) (id at_ : Int) (bs : List Int) : Rel (pokeRs rs id at_ bs) next (rpokeAll all id at_ bs) := by
  unfold rpokeAll pokeRs
  rw [h.has]
  cases hf : regOf rs id with
  | none => simpa using h
  | some r =>
    have hr : r ∈ rs := List.mem_of_find?_eq_some hf
    have hi : r.id = id := by have := List.find?_some hf; simpa using this
    obtain ⟨i, x, hx, hri, ht⟩ := h.there r hr
    have hii : id.toNat = i := by omega
    have hxd : all.getD id.toNat RReg.zero = x := by rw [hii, List.getD_eq_getElem?_getD, hx]; rfl
    simp only [Option.isSome_some, true_and, hxd, ht.bytes]
    cases hp : pokeB r.bytes.length at_ bs.length with
    | false => simpa [hp] using h
    | true =>
      simp only [if_true, hri, hii]
      refine h.lay hx ht.live ?_
      unfold pokeB at hp
      rw [decide_eq_true_eq] at hp
      rw [ht.bytes]
      omega

theorem Rel.load {rs : List Reg} {next : Nat} {all : List RReg} (h : Rel rs next all) (hs : rs.Pairwise (fun a b => a.base + (a.bytes.length : Int) ≤ b.base)) (hok : ∀ r ∈ rs, 0 ≤ r.perm ∧ r.perm ≤ 7) (addr n : Int) :
    rloadE all addr n = loadE rs addr n ∧ rloadV all addr n = loadV rs addr n := by
  unfold rloadE loadE rloadV loadV
  rw [(h.look hs hok addr n).1, (h.look hs hok addr n).2]
  exact ⟨rfl, rfl⟩

theorem Rel.storeE {rs : List Reg} {next : Nat} {all : List RReg} (h : Rel rs next all) (hs : rs.Pairwise (fun a b => a.base + (a.bytes.length : Int) ≤ b.base)) (hok : ∀ r ∈ rs, 0 ≤ r.perm ∧ r.perm ≤ 7) (addr n : Int) :
    rstoreE all addr n = Ytkfmhabplcikiaa.Mem.storeE rs addr n := by
  unfold rstoreE Ytkfmhabplcikiaa.Mem.storeE Ytkfmhabplcikiaa.Mem.layE
  cases hw : wordB n with
  | false => rfl
  | true =>
    simp only [if_true]
    rcases h.acc hs hok addr n 2 canW (fun v => bits_and2 v) with ⟨h1, h2⟩ | ⟨r, i, x, _, h1, _, _, _, _, h2⟩
    · rw [h1, h2]
    · rw [h1, h2]
      cases hm : mayB r addr n 2 <;> simp [hm]

theorem Rel.store {rs : List Reg} {next : Nat} {all : List RReg} (h : Rel rs next all) (hs : rs.Pairwise (fun a b => a.base + (a.bytes.length : Int) ≤ b.base)) (hok : ∀ r ∈ rs, 0 ≤ r.perm ∧ r.perm ≤ 7) (addr n v : Int) :
    Rel (storeRs rs addr n v) next (rstoreAll all addr n v) := by
  unfold storeRs rstoreAll
  cases hw : wordB n with
  | false => exact h
  | true =>
    simp only [if_true]
    have := h.write hs hok addr ((List.range n.toNat).map (byteOf v))
    unfold writeRs at this
    have hn : ¬ ((List.range n.toNat).map (byteOf v)).length = 0 := by
      rw [List.length_map, List.length_range]
      unfold wordB at hw
      simp at hw
      omega
    rw [if_neg hn] at this
    exact this

/-- A region that Add has just made, on both sides. -/
theorem Twin.new {r : Reg} {x : RReg} {id base size perm : Int} (h : NewReg r id base size perm) (ho : RegOk r) (hl : x.live = true) (hb : x.base = base) (hp : x.perm = perm) (hby : x.bytes = List.replicate size.toNat 0)
    (hst : x.set = List.replicate size.toNat (decide (perm < 4))) : Twin r x where
  live := hl
  base := by rw [hb, h.hbase]
  perm := by rw [hp, h.hperm]
  bytes := by rw [hby, h.hbytes]
  set := by
    have hpl := ho.plain
    have hsn := ho.setNil
    rw [h.hperm] at hpl
    rw [hst]
    unfold setOf
    cases hsb : r.sb with
    | none =>
      have : perm < 4 := hpl.1 hsb
      simp only [h.hbytes, List.length_replicate, this, decide_true]
    | some s =>
      have : ¬ perm < 4 := fun hh => by have := hpl.2 hh; rw [hsb] at this; cases this
      simp [h.hset, this]

theorem range_live (all : List RReg) : ((List.range all.length).filter (fun i => (all.getD i RReg.zero).live)).length = liveN all := by
  unfold liveN
  have h : all = (List.range all.length).map (fun i => all.getD i RReg.zero) := by
    apply List.ext_getElem
    · simp
    · intro i h1 h2
      simp [List.getElem_map, List.getD_eq_getElem?_getD, List.getElem?_eq_getElem h1]
  conv => rhs; rw [h, List.filter_map, List.length_map]
  rfl

/-- As many live regions on both sides. -/
theorem Rel.count {rs : List Reg} {next : Nat} {all : List RReg} (h : Rel rs next all) (hids : rs.Pairwise (fun a b => a.id ≠ b.id)) : liveN all = rs.length := by
  rw [← range_live, show rs.length = (rs.map (fun r : Reg => r.id.toNat)).length from (List.length_map _).symm]
  refine List.Perm.length_eq ?_
  have n1 : ((List.range all.length).filter (fun i => (all.getD i RReg.zero).live)).Nodup := List.Nodup.sublist List.filter_sublist List.nodup_range
  have n2 : (rs.map (fun r : Reg => r.id.toNat)).Nodup := by
    unfold List.Nodup
    rw [List.pairwise_map]
    refine hids.imp_of_mem ?_
    intro a b ha hb hab e
    obtain ⟨i, _, _, hi, _⟩ := h.there a ha
    obtain ⟨j, _, _, hj, _⟩ := h.there b hb
    omega
  rw [List.perm_ext_iff_of_nodup n1 n2]
  intro i
  rw [List.mem_filter, List.mem_range, List.mem_map]
  constructor
  · rintro ⟨hi, hl⟩
    obtain ⟨r, hr, hri, _⟩ := h.back i _ (rgetD_of hi) hl
    exact ⟨r, hr, by omega⟩
  · rintro ⟨r, hr, rfl⟩
    obtain ⟨j, x, hx, hj, ht⟩ := h.there r hr
    have hlt := (List.getElem?_eq_some_iff.1 hx).1
    refine ⟨by omega, ?_⟩
    rw [show r.id.toNat = j by omega, List.getD_eq_getElem?_getD, hx]
    exact ht.live
end Go.Proofs.Ytkfmhabplcikiaa.Mem
