/-
  Add: what it answers, and the memory behind it.
-/
import Derived.Test.YtkfmhabplcikiaaMFind
import Derived.Test.YtkfmhabplcikiaaMIns
namespace Go.Proofs.Ytkfmhabplcikiaa.Mem
open Go.RowKit

/-- Add's error. -/
def addE (rs : List Reg) (base size perm : Int) : Int := if mayBeB base size perm = false then 2 else if busyB rs base size = true then 12 else if 4096 ≤ rs.length then 13 else 0

/-- The blocks of a memory behind a call: its own, or new ones. -/
def Own (w : World) (s s' : MS) : Prop := s'.m = s.m ∧ ∀ x ∈ s'.blocks, x ∈ s.blocks ∨ w.heap.size ≤ x

theorem Own.refl (w : World) (s : MS) : Own w s s := ⟨rfl, fun _ hx => Or.inl hx⟩

/-- A new region's record, as Add makes it. -/
structure NewReg (r : Reg) (id base size perm : Int) : Prop where
  hid : r.id = id
  hbase : r.base = base
  hperm : r.perm = perm
  hbytes : r.bytes = List.replicate size.toNat 0
  hset : r.set = if perm < 4 then [] else List.replicate size.toNat false

def AddPost (w : World) (s : MS) (base size perm : Int) (e : Ending) (w' : World) : Prop :=
  e = .returned (.tuple #[.int .i64 (if addE s.rs base size perm = 0 then s.next else 0), .int .i64 (addE s.rs base size perm)]) ∧ Touch s.blocks w w' ∧ ∃ s', MemAt w' s' ∧ Own w s s' ∧
    (addE s.rs base size perm ≠ 0 → s' = s) ∧
    (addE s.rs base size perm = 0 → s'.next = s.next + 1 ∧ ∃ i r, i ≤ s.rs.length ∧ s'.rs = s.rs.take i ++ r :: s.rs.drop i ∧ NewReg r s.next base size perm)

theorem AddPost.err {w w' : World} {s : MS} {base size perm : Int} {e : Ending} (h : MemAt w s) (ht : Touch [] w w') (he : addE s.rs base size perm ≠ 0)
    (hv : e = .returned (.tuple #[.int .i64 0, .int .i64 (addE s.rs base size perm)])) : AddPost w s base size perm e w' := by
  refine ⟨by rw [if_neg he]; exact hv, ht.nil, s, h.touch ht (by simp), Own.refl w s, fun _ => rfl, fun h0 => absurd h0 he⟩

/-- The state behind a good Add. -/
theorem MemAt.added {w w' : World} {s : MS} (h : MemAt w s) {r : Reg} {i : Nat} {g' : Option Nat} {cap' : Nat} (hi : i ≤ s.rs.length) (hlen : s.rs.length < 4096)
    (hm : Blk w' s.m [slV g' (s.rs.length + 1) cap', .int .i64 ((s.next + 1 : Nat) : Int)] 66)
    (hrow : RowAt w' 70 1 g' (s.rs.length + 1) cap' ((s.rs.map Reg.ptr).take i ++ r.ptr :: (s.rs.map Reg.ptr).drop i))
    (hold : ∀ x ∈ s.rs, RegAt w' x) (hr : RegAt w' r) (hro : RegOk r) (hid : r.id = s.next)
    (hnew : ∀ x ∈ r.blocks, w.heap.size ≤ x) (hg : g' = s.g ∨ ∃ b, g' = some b ∧ w.heap.size ≤ b ∧ b ∉ r.blocks)
    (hlo : ∀ j, j < i → (s.rs.getD j Reg.zero).base ≤ r.base) (hhi : ∀ j, i ≤ j → j < s.rs.length → r.base < (s.rs.getD j Reg.zero).base) (hbusy : busyB s.rs r.base r.bytes.length = false) :
    MemAt w' ⟨s.m, g', cap', s.rs.take i ++ r :: s.rs.drop i, s.next + 1⟩ := by
  have hlt := h.lt
  have hl : (s.rs.take i ++ r :: s.rs.drop i).length = s.rs.length + 1 := by simp; omega
  have hmem : ∀ x, x ∈ s.rs.take i ++ r :: s.rs.drop i ↔ x = r ∨ x ∈ s.rs := by
    intro x
    rw [List.mem_append, List.mem_cons]
    constructor
    · rintro (hx | rfl | hx)
      · exact Or.inr (List.mem_of_mem_take hx)
      · exact Or.inl rfl
      · exact Or.inr (List.mem_of_mem_drop hx)
    · rintro (rfl | hx)
      · exact Or.inr (Or.inl rfl)
      · rw [← List.take_append_drop i s.rs, List.mem_append] at hx
        rcases hx with hx | hx
        · exact Or.inl hx
        · exact Or.inr (Or.inr hx)
  have hnb : ∀ x ∈ s.rs, ¬ (x.base < r.base + (r.bytes.length : Int) ∧ r.base < x.base + (x.bytes.length : Int)) := by
    intro x hx
    unfold busyB at hbusy
    rw [List.any_eq_false] at hbusy
    simpa using hbusy x hx
  have htake : ∀ x ∈ s.rs.take i, x.base ≤ r.base := by
    intro x hx
    obtain ⟨j, hj, rfl⟩ := List.getElem_of_mem hx
    rw [List.length_take] at hj
    have := hlo j (by omega)
    rw [List.getD_eq_getElem?_getD, List.getElem?_eq_getElem (by omega)] at this
    simpa using this
  have hdrop : ∀ x ∈ s.rs.drop i, r.base < x.base := by
    intro x hx
    obtain ⟨j, hj, rfl⟩ := List.getElem_of_mem hx
    rw [List.length_drop] at hj
    have := hhi (i + j) (by omega) (by omega)
    rw [List.getD_eq_getElem?_getD, List.getElem?_eq_getElem (by omega)] at this
    simpa using this
  refine ⟨?_, ?_, ?_, ?_, ?_, ?_, ?_, ?_, ?_⟩
  · rw [hl]; exact hm
  · rw [hl]
    simpa [List.map_append, List.map_take, List.map_drop] using hrow
  · intro x hx
    rcases (hmem x).1 hx with rfl | hx
    · exact hr
    · exact hold x hx
  · intro x hx
    rcases (hmem x).1 hx with rfl | hx
    · exact hro
    · exact h.ok x hx
  · have hap := h.apart
    have hperm : (s.rs.take i ++ r :: s.rs.drop i).flatMap Reg.blocks |>.Perm (r.blocks ++ s.rs.flatMap Reg.blocks) := by
      have : (s.rs.take i ++ r :: s.rs.drop i).Perm (r :: s.rs) := by
        refine (List.perm_middle).trans ?_
        rw [List.take_append_drop]
      refine (this.flatMap_right _).trans ?_
      rw [List.flatMap_cons]
    have hnd : (s.m :: (g'.toList ++ (r.blocks ++ s.rs.flatMap Reg.blocks))).Nodup := by
      simp only [MS.blocks, List.cons_append, List.nodup_cons, List.nodup_append, List.mem_append] at hap ⊢
      obtain ⟨h1, h2, h3, h4⟩ := hap
      have hmlt := hlt s.m s.mem_m
      have hold2 : ∀ x ∈ s.rs.flatMap Reg.blocks, x < w.heap.size := by
        intro x hx
        obtain ⟨y, hy, hx⟩ := List.mem_flatMap.1 hx
        exact hlt x (s.mem_r hy hx)
      refine ⟨?_, ?_, ⟨hro.own, h3, ?_⟩, ?_⟩
      · rintro (hx | hx | hx)
        · rcases hg with rfl | ⟨b, rfl, hb, _⟩
          · exact h1 (Or.inl hx)
          · simp at hx; omega
        · have := hnew _ hx; omega
        · exact h1 (Or.inr hx)
      · cases g' <;> simp
      · intro a ha b hb hab
        have h5 := hnew a ha
        have h6 := hold2 b hb
        omega
      · intro a ha b hb hab
        subst hab
        rcases hg with rfl | ⟨b, rfl, hbb, hbr⟩
        · rcases hb with hb | hb
          · have h5 := hnew a hb
            have h6 := hlt a (s.mem_g (by simpa using ha))
            omega
          · exact h4 a ha a hb rfl
        · simp at ha
          subst ha
          rcases hb with hb | hb
          · exact hbr hb
          · have := hold2 _ hb; omega
    show (s.m :: g'.toList ++ (s.rs.take i ++ r :: s.rs.drop i).flatMap Reg.blocks).Nodup
    rw [List.cons_append]
    exact ((List.Perm.append_left _ hperm).cons _).nodup_iff.2 hnd
  · have hsrt := h.sorted
    rw [← List.take_append_drop i s.rs, List.pairwise_append] at hsrt
    rw [List.pairwise_append, List.pairwise_cons]
    refine ⟨hsrt.1, ⟨fun x hx => ?_, hsrt.2.1⟩, fun x hx y hy => ?_⟩
    · have h1 := hdrop x hx
      have h2 := hnb x (List.mem_of_mem_drop hx)
      have h3 := (h.ok x (List.mem_of_mem_drop hx)).size1
      omega
    · rcases List.mem_cons.1 hy with rfl | hy
      · have h1 := htake x hx
        have h2 := hnb x (List.mem_of_mem_take hx)
        have h3 := hro.size1
        omega
      · exact hsrt.2.2 x hx y hy
  · have hids := h.ids
    rw [← List.take_append_drop i s.rs, List.pairwise_append] at hids
    rw [List.pairwise_append, List.pairwise_cons]
    refine ⟨hids.1, ⟨fun x hx => ?_, hids.2.1⟩, fun x hx y hy => ?_⟩
    · have := (h.idlt x (List.mem_of_mem_drop hx)).2
      rw [hid]; omega
    · rcases List.mem_cons.1 hy with rfl | hy
      · have := (h.idlt x (List.mem_of_mem_take hx)).2
        rw [hid]; omega
      · exact hids.2.2 x hx y hy
  · intro x hx
    rcases (hmem x).1 hx with rfl | hx
    · rw [hid]; exact ⟨by omega, by show (s.next : Int) < ((s.next + 1 : Nat) : Int); omega⟩
    · have := h.idlt x hx
      exact ⟨this.1, by show x.id < ((s.next + 1 : Nat) : Int); omega⟩
  · show (s.rs.take i ++ r :: s.rs.drop i).length ≤ 4096
    omega

set_option maxHeartbeats 2000000 in
set_option maxRecDepth 100000 in
theorem add_any {w : World} {s : MS} (h : MemAt w s) (base size perm : Int) (hb0 : 0 ≤ base) (hb1 : base ≤ 18446744073709551615) (hnext : s.next < 4611686018427387904) :
    Calls Try.prog 8 #[.pointer (some ⟨s.m, 0, none⟩), .int .u64 base, .int .i64 size, .int .i64 perm] w (AddPost w s base size perm) := by
  have hmany := h.many
  cases hmb : mayBeB base size perm with
  | false =>
    have he : addE s.rs base size perm = 2 := by unfold addE; rw [if_pos hmb]
    have HF : Hid (AddPost w s base size perm (.returned (.tuple #[.int .i64 0, .int .i64 2])) w) := AddPost.err h (Touch.refl _ w) (by rw [he]; decide) (by rw [he])
    have HM := toHid hmb
    clear h he hmb
    go_enter Try.func8, Try.ntmps8
    go_wp2_with (go_at_call 25; refine (mayBe_any base size perm _ hb0 hb1).mono ?_; rintro e w ⟨rfl, rfl⟩; rw [HM.out])
    go_ret2
    exact HF.out
  | true =>
    have hb := of_decide_eq_true hmb
    obtain ⟨z, rfl⟩ : ∃ z : Nat, size = z := ⟨size.toNat, by omega⟩
    have HM := toHid hmb
    have hc0 := h.c0
    have hc1 := h.c1
    cases hbusy : busyB s.rs base z with
    | true =>
      have he : addE s.rs base z perm = 12 := by unfold addE; rw [if_neg (by rw [hmb]; decide), if_pos hbusy]
      have HF : ∀ k, Hid (AddPost w s base z perm (.returned (.tuple #[.int .i64 0, .int .i64 12])) (w.drewN k)) := fun k => AddPost.err h ((Touch.refl _ w).drewN k) (by rw [he]; decide) (by rw [he])
      have HB := toHid hbusy
      have HMem := toHid h
      clear h he hmb hbusy
      go_enter Try.func8, Try.ntmps8
      go_wp2_with (go_at_call 25; refine (mayBe_any base z perm _ hb0 hb1).mono ?_; rintro e w ⟨rfl, rfl⟩; rw [HM.out])
      refine (behind_any HMem.out base).mono ?_
      rintro e w' ⟨⟨i, hi, rfl, hlo, hhi⟩, k, rfl⟩
      have HT := toHid (taken_any (HMem.out.touch ((Touch.refl [] w).drewN k) (by simp)) i z base hb0 (by omega) (by omega) (by omega) hi hlo hhi)
      clear hlo hhi
      go_wp2_with (go_at_call 27; refine HT.out.mono ?_; rintro e w' ⟨rfl, k2, rfl⟩; rw [HB.out])
      go_ret2
      exact (HF _).out
    | false =>
      by_cases hlen : 4096 ≤ s.rs.length
      · have he : addE s.rs base z perm = 13 := by unfold addE; rw [if_neg (by rw [hmb]; decide), if_neg (by rw [hbusy]; decide), if_pos hlen]
        have HF : ∀ k, Hid (AddPost w s base z perm (.returned (.tuple #[.int .i64 0, .int .i64 13])) (w.drewN k)) := fun k => AddPost.err h ((Touch.refl _ w).drewN k) (by rw [he]; decide) (by rw [he])
        have HB := toHid hbusy
        have HMem := toHid h
        have hl : (4096 : Int) ≤ s.rs.length := by omega
        simp only [slV] at hc0
        clear h he hmb hbusy
        go_enter Try.func8, Try.ntmps8
        go_wp2_with (go_at_call 25; refine (mayBe_any base z perm _ hb0 hb1).mono ?_; rintro e w ⟨rfl, rfl⟩; rw [HM.out])
        refine (behind_any HMem.out base).mono ?_
        rintro e w' ⟨⟨i, hi, rfl, hlo, hhi⟩, k, rfl⟩
        have HT := toHid (taken_any (HMem.out.touch ((Touch.refl [] w).drewN k) (by simp)) i z base hb0 (by omega) (by omega) (by omega) hi hlo hhi)
        clear hlo hhi
        go_wp2_with (go_at_call 27; refine HT.out.mono ?_; rintro e w' ⟨rfl, k2, rfl⟩; rw [HB.out])
        go_ret2
        exact (HF _).out
      · have he : addE s.rs base z perm = 0 := by unfold addE; rw [if_neg (by rw [hmb]; decide), if_neg (by rw [hbusy]; decide), if_neg hlen]
        have HB := toHid hbusy
        have HMem := toHid h
        have HE := toHid he
        simp only [slV] at hc0
        clear h he hmb hbusy
        go_enter Try.func8, Try.ntmps8
        go_wp2_with (go_at_call 25; refine (mayBe_any base z perm _ hb0 hb1).mono ?_; rintro e w ⟨rfl, rfl⟩; rw [HM.out])
        refine (behind_any HMem.out base).mono ?_
        rintro e w' ⟨⟨i, hi, rfl, hlo, hhi⟩, k, rfl⟩
        have HT := toHid (taken_any (HMem.out.touch ((Touch.refl [] w).drewN k) (by simp)) i z base hb0 (by omega) (by omega) (by omega) hi hlo hhi)
        have HLO := toHid hlo
        have HHI := toHid hhi
        clear hlo hhi
        go_wp2_with (go_at_call 27; refine HT.out.mono ?_; rintro e w' ⟨rfl, k2, rfl⟩; rw [HB.out])
        have H1 := toHid (newRegion_any s.next base perm z (w.drewN (k + k2)) (by omega) (by omega) (by omega) (by omega) hb0 (by omega))
        refine H1.out.mono ?_
        rintro e w1 ⟨r, rfl, hrA, hrO, hrid, hrb, hrp, hrby, hrs, ht1, hrn⟩
        clear H1 HT hc0 hc1
        have hM1 : MemAt w1 s := HMem.out.touch (((Touch.refl [] w).drewN (k + k2)).trans ht1 (by simp)) (by simp)
        have hc0 := hM1.c0
        simp only [slV] at hc0
        -- the variadic argument's own block
        have hk := Blk.newA w1 #[r.ptr] [r.ptr] 70 rfl
        have ht2 : Touch [] w1 (w1.alloc (.cells #[r.ptr] 70)) := (Touch.refl _ w1).alloc _
        have hM2 := hM1.touch ht2 (by simp)
        have H2 := toHid (insert_any s.g s.rs.length s.cap i w1.heap.size (s.rs.map Reg.ptr) r.ptr (w1.alloc (.cells #[r.ptr] 70)) hM2.row hmany hi rfl (fun u hu => by obtain ⟨x, _, rfl⟩ := List.mem_map.1 hu; rfl) 70 hk (fun b hb => by have := hM1.lt b (s.mem_g hb); omega))
        unfold Reg.ptr at H2 ⊢
        go_wp2_with fail
        refine H2.out.mono ?_
        rintro e w3 ⟨g', cap', rfl, hrow, ht3, hg', hg2⟩
        have hlt1 := hM1.lt
        have hmg : s.m ∉ s.g.toList := by
          have := hM1.apart
          simp only [MS.blocks, List.cons_append, List.nodup_cons, List.mem_append] at this
          exact fun hh => this.1 (Or.inl hh)
        have hm3 := ht3.blk hM2.self hmg
        have e0 : w3.cell? ⟨s.m, 0, none⟩ = some _ := hm3.cell rfl
        have e1 : w3.cell? ⟨s.m, 1, none⟩ = some _ := hm3.cell rfl
        have f0 := hm3.frozen 0
        have f1 := hm3.frozen 1
        have hrg : ∀ x ∈ r.blocks, x ∉ s.g.toList := fun x hx hh => by
          have h5 := hrn x hx
          have h6 := HMem.out.lt x (s.mem_g (by simpa using hh))
          simp at h5
          omega
        have hrA3 : RegAt w3 r := (hrA.touch ht2 (by simp)).touch ht3 hrg
        have r0 := hrA3.c0
        have hne : ¬ r.p = s.m := fun hh => by
          have h5 := hrn r.p r.mem_p
          have h6 := HMem.out.lt s.m s.mem_m
          simp at h5
          omega
        have hne2 : ¬ s.m = r.p := fun hh => hne hh.symm
        clear H2 hc0
        simp only [slV]
        go_wp2
        go_ret2
        show AddPost w s base z perm (.returned (.tuple #[.int .i64 s.next, .int .i64 0])) ((w3.setCell ⟨s.m, 0, none⟩ (slV g' (s.rs.length + 1) cap')).setCell ⟨s.m, 1, none⟩ (.int .i64 ((s.next : Int) + 1)))
        have hm4 := (hm3.setCell 0 (slV g' (s.rs.length + 1) cap')).setCell 1 (.int .i64 ((s.next : Int) + 1))
        have ht34 : Touch [s.m] w3 ((w3.setCell ⟨s.m, 0, none⟩ (slV g' (s.rs.length + 1) cap')).setCell ⟨s.m, 1, none⟩ (.int .i64 ((s.next : Int) + 1))) :=
          ((Touch.refl _ w3).setCell _ _ (Or.inl (by simp))).setCell _ _ (Or.inl (by simp))
        generalize (w3.setCell ⟨s.m, 0, none⟩ (slV g' (s.rs.length + 1) cap')).setCell ⟨s.m, 1, none⟩ (.int .i64 ((s.next : Int) + 1)) = W4 at hm4 ht34
        clear e0 e1 f0 f1 r0
        have hsz1 : w.heap.size ≤ w1.heap.size := by simpa using ht1.size
        have hmw : s.m < w.heap.size := HMem.out.lt s.m s.mem_m
        have hap := HMem.out.apart
        simp only [MS.blocks, List.cons_append, List.nodup_cons, List.mem_append, List.nodup_append] at hap
        have hrm : ∀ x ∈ r.blocks, x ∉ [s.m] := fun x hx hh => by
          have h5 := hrn x hx
          simp at hh h5
          omega
        have hg4 : ∀ b, g' = some b → b ∉ [s.m] := fun b hb hh => by
          simp at hh
          subst hh
          rcases hg' with rfl | rfl
          · exact hmg (by simp [hb])
          · injection hb with hb
            simp at hb
            omega
        have hrA4 : RegAt W4 r := hrA3.touch ht34 hrm
        have hold : ∀ x ∈ s.rs, RegAt W4 x := fun x hx => by
          refine ((hM2.regs x hx).touch ht3 (fun y hy hh => ?_)).touch ht34 (fun y hy hh => ?_)
          · exact hap.2.2.2 y hh y (List.mem_flatMap.2 ⟨x, hx, hy⟩) rfl
          · simp at hh
            subst hh
            exact hap.1 (Or.inr (List.mem_flatMap.2 ⟨x, hx, hy⟩))
        have hg5 : g' = s.g ∨ ∃ b, g' = some b ∧ w.heap.size ≤ b ∧ b ∉ r.blocks := by
          rcases hg' with hh | hh
          · exact Or.inl hh
          · refine Or.inr ⟨_, hh, by simp; omega, fun hx => ?_⟩
            have := hrA.lt _ hx
            simp at this
            omega
        have hadd : MemAt W4 ⟨s.m, g', cap', s.rs.take i ++ r :: s.rs.drop i, s.next + 1⟩ := MemAt.added HMem.out hi (by omega) hm4 (hrow.touch ht34 hg4) hold hrA4 hrO hrid
          (fun x hx => by simpa using hrn x hx) hg5 (by rw [hrb]; exact HLO.out) (by rw [hrb]; exact HHI.out) (by rw [hrb, hrby]; simpa using HB.out)
        have ht4 : Touch s.blocks w W4 := by
          refine Touch.trans (b := w3) ?_ ht34 (fun x hx => Or.inl ?_)
          · refine Touch.trans (b := w1.alloc (.cells #[r.ptr] 70)) ?_ ht3 (fun x hx => Or.inl (s.mem_g (by simpa using hx)))
            exact ((((Touch.refl [] w).drewN (k + k2)).trans ht1 (by simp)).trans ht2 (by simp)).nil
          · simp at hx
            rw [hx]
            exact s.mem_m
        refine ⟨by rw [HE.out]; rfl, ht4, _, hadd, ⟨rfl, fun x hx => ?_⟩, fun hh => absurd HE.out hh, fun _ => ⟨rfl, i, r, hi, rfl, ⟨hrid, hrb, hrp, by rw [hrby]; simp, by rw [hrs]; simp⟩⟩⟩
        simp only [MS.blocks, List.cons_append, List.mem_cons, List.mem_append, List.mem_flatMap] at hx ⊢
        rcases hx with hx | hx | ⟨y, (hy | rfl | hy), hx⟩
        · exact Or.inl (Or.inl hx)
        · rcases hg5 with rfl | ⟨b, rfl, hb, _⟩
          · exact Or.inl (Or.inr (Or.inl hx))
          · simp at hx
            subst hx
            exact Or.inr hb
        · exact Or.inl (Or.inr (Or.inr ⟨y, List.mem_of_mem_take hy, hx⟩))
        · exact Or.inr (by simpa using hrn x hx)
        · exact Or.inl (Or.inr (Or.inr ⟨y, List.mem_of_mem_drop hy, hx⟩))
end Go.Proofs.Ytkfmhabplcikiaa.Mem
