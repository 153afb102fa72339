/-
  The reference memory: bytes laid (Lay), a region killed.
-/
import Derived.Test.YtkfmhabplcikiaaMRef
import Derived.Test.YtkfmhabplcikiaaMLook
namespace Go.Proofs.Ytkfmhabplcikiaa.Mem
open Go.RowKit

/-- xs with the first k of ys laid over it from a on. -/
def laidTo {α : Type} (xs : List α) (a : Nat) (ys : List α) (k : Nat) : List α := xs.take a ++ ys.take k ++ xs.drop (a + k)

theorem laidTo_len {α : Type} (xs : List α) (a : Nat) (ys : List α) (k : Nat) (hk : k ≤ ys.length) (h : a + k ≤ xs.length) : (laidTo xs a ys k).length = xs.length := by
  simp only [laidTo, List.length_append, List.length_take, List.length_drop]
  omega
theorem laidTo_zero {α : Type} (xs : List α) (a : Nat) (ys : List α) : laidTo xs a ys 0 = xs := by simp [laidTo]
theorem laidTo_succ {α : Type} (xs : List α) (a : Nat) (ys : List α) (k : Nat) (y : α) (hy : ys[k]? = some y) (h : a + k < xs.length) : (laidTo xs a ys k).set (a + k) y = laidTo xs a ys (k + 1) := by
  obtain ⟨hk, rfl⟩ := List.getElem?_eq_some_iff.1 hy
  unfold laidTo
  have e2 : (xs.take a ++ ys.take k).length = a + k := by simp; omega
  rw [List.set_append_right _ _ (by omega), e2, Nat.sub_self, List.drop_eq_getElem_cons h, List.set_cons_zero, ← Nat.add_assoc]
  rw [List.take_succ_eq_append_getElem hk, List.append_assoc, List.append_assoc, List.append_assoc]
  rfl

def rlayR (r : RReg) (a : Nat) (bs : List Int) : RReg := { r with bytes := laidTo r.bytes a bs bs.length, set := laidTo r.set a (List.replicate bs.length true) bs.length }

theorem flat_set (l : List RReg) (i : Nat) (r r' : RReg) (hr : l[i]? = some r) (hc : r'.cells = r.cells) : (l.set i r').flatMap RReg.cells = l.flatMap RReg.cells := by
  induction l generalizing i with
  | nil => rfl
  | cons x xs ih =>
    cases i with
    | zero =>
      simp at hr
      subst hr
      rw [List.set_cons_zero, List.flatMap_cons, List.flatMap_cons, hc]
    | succ i =>
      rw [List.set_cons_succ, List.flatMap_cons, List.flatMap_cons, ih i (by simpa using hr)]
theorem flat_blocks (l : List RReg) (i : Nat) (r r' : RReg) (hr : l[i]? = some r) (hc : r'.blocks = r.blocks) : (l.set i r').flatMap RReg.blocks = l.flatMap RReg.blocks := by
  induction l generalizing i with
  | nil => rfl
  | cons x xs ih =>
    cases i with
    | zero =>
      simp at hr
      subst hr
      rw [List.set_cons_zero, List.flatMap_cons, List.flatMap_cons, hc]
    | succ i =>
      rw [List.set_cons_succ, List.flatMap_cons, List.flatMap_cons, ih i (by simpa using hr)]
theorem flat_kill (l : List RReg) (i : Nat) (r : RReg) (hr : l[i]? = some r) : (l.flatMap RReg.cells).set (i * 5) (.bool false) = (l.set i { r with live := false }).flatMap RReg.cells := by
  induction l generalizing i with
  | nil => rfl
  | cons x xs ih =>
    have hl : x.cells.length = 5 := rfl
    cases i with
    | zero =>
      simp at hr
      subst hr
      rw [List.set_cons_zero, List.flatMap_cons, List.flatMap_cons, Nat.zero_mul, List.set_append_left _ _ (by omega)]
      rfl
    | succ i =>
      rw [List.set_cons_succ, List.flatMap_cons, List.flatMap_cons, List.set_append_right _ _ (by omega), hl, show (i + 1) * 5 - 5 = i * 5 by omega, ih i (by simpa using hr)]

theorem nodup_rflat {l : List RReg} (h : (l.flatMap RReg.blocks).Nodup) {i j : Nat} {x y : RReg} (hx : l[i]? = some x) (hy : l[j]? = some y) (hne : i ≠ j) : ∀ b ∈ x.blocks, b ∉ y.blocks := by
  intro b hb hb'
  obtain ⟨hi, rfl⟩ := List.getElem?_eq_some_iff.1 hx
  obtain ⟨hj, rfl⟩ := List.getElem?_eq_some_iff.1 hy
  have hp := (List.pairwise_flatMap.1 h).2
  rcases Nat.lt_or_gt_of_ne hne with hlt | hlt
  · exact (List.pairwise_iff_getElem.1 hp) i j hi hj hlt b hb b hb' rfl
  · exact (List.pairwise_iff_getElem.1 hp) j i hj hi hlt b hb' b hb rfl

theorem RefAt.upd {w w' : World} {s : RS} (h : RefAt w s) {i : Nat} {r : RReg} (hr : s.all[i]? = some r) {r' : RReg} (hc : r'.cells = r.cells) (hbl : r'.blocks = r.blocks) (hr' : RRegAt w' r') (ho : RRegOk r') (ht : Touch r.blocks w w') :
    RefAt w' { s with all := s.all.set i r' } ∧ ({ s with all := s.all.set i r' } : RS).blocks = s.blocks := by
  have hap := h.apart
  simp only [RS.blocks, List.cons_append, List.nodup_cons, List.mem_append, List.nodup_append] at hap
  have hin : ∀ b ∈ r.blocks, b ∈ s.all.flatMap RReg.blocks := fun b hb => List.mem_flatMap.2 ⟨r, List.mem_of_getElem? hr, hb⟩
  have hlen : (s.all.set i r').length = s.all.length := by simp
  have hb2 := flat_blocks s.all i r r' hr hbl
  have hmem : ∀ x ∈ s.all.set i r', x = r' ∨ ∃ j, j ≠ i ∧ s.all[j]? = some x := fun x hx => by
    obtain ⟨j, hj, rfl⟩ := List.getElem_of_mem hx
    rw [List.getElem_set]
    split
    · exact Or.inl rfl
    · rename_i hne
      rw [hlen] at hj
      exact Or.inr ⟨j, fun e => hne e.symm, List.getElem?_eq_getElem hj⟩
  refine ⟨⟨?_, ?_, ?_, ?_, ?_, ?_⟩, ?_⟩
  · show Blk w' s.m [slV s.g (s.all.set i r').length s.cap] 29
    rw [hlen]
    exact ht.blk h.self (fun hx => hap.1 (Or.inr (hin _ hx)))
  · show RowAt w' 77 5 s.g (s.all.set i r').length s.cap ((s.all.set i r').flatMap RReg.cells)
    rw [hlen, flat_set s.all i r r' hr hc]
    exact h.row.touch ht (fun b hb hx => hap.2.2.2 b (by simp [hb]) b (hin _ hx) rfl)
  · intro x hx
    rcases hmem x hx with rfl | ⟨j, hj, hx⟩
    · exact hr'
    · exact (h.regs x (List.mem_of_getElem? hx)).touch ht (nodup_rflat hap.2.2.1 hx hr hj)
  · intro x hx
    rcases hmem x hx with rfl | ⟨j, hj, hx⟩
    · exact ho
    · exact h.ok x (List.mem_of_getElem? hx)
  · show (s.m :: s.g.toList ++ (s.all.set i r').flatMap RReg.blocks).Nodup
    rw [hb2]
    exact h.apart
  · show (s.all.set i r').length ≤ 1000
    rw [hlen]
    exact h.many
  · show s.m :: s.g.toList ++ (s.all.set i r').flatMap RReg.blocks = _
    rw [hb2]
    rfl

theorem rlayR_cells {r : RReg} {a : Nat} {bs : List Int} (h : a + bs.length ≤ r.bytes.length) (hs : r.set.length = r.bytes.length) : (rlayR r a bs).cells = r.cells := by
  unfold RReg.cells
  rw [show (rlayR r a bs).bytes.length = r.bytes.length from laidTo_len _ _ _ _ (Nat.le_refl _) h, show (rlayR r a bs).set.length = r.set.length from laidTo_len _ _ _ _ (by simp) (by omega)]
  rfl
theorem rlayR_ok {r : RReg} {a : Nat} {bs : List Int} (h : RRegOk r) (hl : a + bs.length ≤ r.bytes.length) (hb : ∀ x ∈ bs, 0 ≤ x ∧ x ≤ 255) : RRegOk (rlayR r a bs) := by
  have h1 : (rlayR r a bs).bytes.length = r.bytes.length := laidTo_len _ _ _ _ (Nat.le_refl _) hl
  have h2 : (rlayR r a bs).set.length = r.set.length := laidTo_len _ _ _ _ (by simp) (by rw [h.setLen]; exact hl)
  refine ⟨h.base0, by rw [h1]; exact h.size1, by rw [h1]; exact h.size2, by rw [h1]; exact h.fits, h.perm0, h.perm1, by rw [h1, h2]; exact h.setLen, fun x hx => ?_⟩
  simp only [rlayR, laidTo, List.take_length, List.mem_append] at hx
  rcases hx with (hx | hx) | hx
  · exact h.byte x (List.mem_of_mem_take hx)
  · exact hb x hx
  · exact h.byte x (List.mem_of_mem_drop hx)

set_option maxHeartbeats 2000000 in
set_option maxRecDepth 100000 in
theorem rlay2_any {w : World} {s : RS} (h : RefAt w s) (i a n c : Nat) (r : RReg) (sa : Option Addr) (bs : List Int) (hr : s.all[i]? = some r) (hl : bs.length = n) (han : a + n ≤ r.bytes.length) (hbb : ∀ x ∈ bs, 0 ≤ x ∧ x ≤ 255)
    (hb : 1 ≤ n → ∃ k off, sa = some ⟨k, off, none⟩ ∧ k ∉ s.blocks ∧ BytesAt w k off bs) :
    Calls Try.prog 52 #[.pointer (some ⟨s.m, 0, none⟩), .int .i64 i, .int .i64 a, .slice sa n c] w fun e w' => e = .returned (.tuple #[]) ∧
      (RefAt w' { s with all := s.all.set i (rlayR r a bs) } ∧ ({ s with all := s.all.set i (rlayR r a bs) } : RS).blocks = s.blocks) ∧ Touch s.blocks w w' := by
  have hi : i < s.all.length := (List.getElem?_eq_some_iff.1 hr).1
  have hok := h.ok r (List.mem_of_getElem? hr)
  have hsz := hok.size2
  have hsl := hok.setLen
  have hmany := h.many
  obtain ⟨b, hg⟩ : ∃ b, s.g = some b := by
    cases hg : s.g with
    | none => have := (h.nil hg).1; rw [this] at hi; simp at hi
    | some b => exact ⟨b, rfl⟩
  have hc0 := h.c0
  rw [hg] at hc0
  simp only [slV_some] at hc0
  have c3 := h.at hg hr (j := 3) (by omega) rfl
  have c4 := h.at hg hr (j := 4) (by omega) rfl
  obtain ⟨rest1, hB1⟩ := (h.regs r (List.mem_of_getElem? hr)).bytes
  obtain ⟨rest2, hB2⟩ := (h.regs r (List.mem_of_getElem? hr)).set
  have hap := h.apart
  simp only [RS.blocks, List.cons_append, List.nodup_cons, List.mem_append, List.nodup_append] at hap
  have hinb : r.bb ∈ s.all.flatMap RReg.blocks := List.mem_flatMap.2 ⟨r, List.mem_of_getElem? hr, by simp [RReg.blocks]⟩
  have hins : r.sb ∈ s.all.flatMap RReg.blocks := List.mem_flatMap.2 ⟨r, List.mem_of_getElem? hr, by simp [RReg.blocks]⟩
  have hbs : ¬ r.bb = r.sb := by
    have := (List.pairwise_flatMap.1 hap.2.2.1).1 r (List.mem_of_getElem? hr)
    simpa [RReg.blocks] using this
  have n1 : s.m ∉ r.blocks := fun hx => by
    simp [RReg.blocks] at hx
    rcases hx with e | e
    · exact hap.1 (Or.inr (by rw [e]; exact hinb))
    · exact hap.1 (Or.inr (by rw [e]; exact hins))
  have n2 : b ∉ r.blocks := fun hx => by
    simp [RReg.blocks] at hx
    rcases hx with e | e
    · exact hap.2.2.2 b (by simp [hg]) r.bb hinb e
    · exact hap.2.2.2 b (by simp [hg]) r.sb hins e
  have HK : 1 ≤ n → ∃ k off, sa = some ⟨k, off, none⟩ ∧ k ∉ r.blocks ∧ BytesAt w k off bs := fun hn => by
    obtain ⟨k, off, e, hk, hby⟩ := hb hn
    refine ⟨k, off, e, fun hx => hk ?_, hby⟩
    exact s.mem_r (List.mem_of_getElem? hr) hx
  have HF : ∀ w', Blk w' r.bb ((laidTo r.bytes a bs n).map (Value.int .u8) ++ rest1) 5 → Blk w' r.sb ((laidTo r.set a (List.replicate n true) n).map Value.bool ++ rest2) 4 → Touch r.blocks w w' →
      Hid ((RefAt w' { s with all := s.all.set i (rlayR r a bs) } ∧ ({ s with all := s.all.set i (rlayR r a bs) } : RS).blocks = s.blocks) ∧ Touch s.blocks w w') := fun w' q1 q2 q3 => by
    refine ⟨h.upd hr (rlayR_cells (by omega) hsl) rfl ⟨⟨rest1, ?_⟩, ⟨rest2, ?_⟩⟩ (rlayR_ok hok (by omega) hbb) q3, q3.mono (fun x hx => Or.inl (s.mem_r (List.mem_of_getElem? hr) hx))⟩
    · rw [← hl] at q1; exact q1
    · rw [← hl] at q2; exact q2
  have HKK := toHid HK
  have HFF := toHid HF
  have HC := toHid (And.intro hc0 (And.intro c3 c4))
  have HB1 : Hid (Blk w r.bb ((laidTo r.bytes a bs 0).map (Value.int .u8) ++ rest1) 5) := by rw [laidTo_zero]; exact hB1
  have HB2 : Hid (Blk w r.sb ((laidTo r.set a (List.replicate n true) 0).map Value.bool ++ rest2) 4) := by rw [laidTo_zero]; exact hB2
  have HN := toHid (And.intro n1 n2)
  clear h hok hg hc0 c3 c4 hB1 hB2 hap hinb hins n1 n2 HK HF hb hmany hr hbb
  go_enter Try.func52, Try.ntmps52
  go_wp2
  go_loopw [12] (fun t w' => ∃ k : Nat, k ≤ n ∧ t = .int .i64 k ∧ Hid (Blk w' r.bb ((laidTo r.bytes a bs k).map (Value.int .u8) ++ rest1) 5 ∧ Blk w' r.sb ((laidTo r.set a (List.replicate n true) k).map Value.bool ++ rest2) 4 ∧ Touch r.blocks w w')) (fun t _ => n - (intOf t).toNat)
  case atStart => exact ⟨0, by omega, rfl, HB1.out, HB2.out, Touch.refl _ _⟩
  case round =>
    rename_i wr
    obtain ⟨k, hk, rfl, HI⟩ := hrel
    by_cases hlt : k < n
    · obtain ⟨kb, off, rfl, hkn, hby⟩ := HKK.out (by omega)
      obtain ⟨x, hx⟩ : ∃ x, bs[k]? = some x := ⟨_, List.getElem?_eq_getElem (by omega)⟩
      have hck : wr.cell? ⟨kb, off + k, none⟩ = some (.int .u8 x) := HI.out.2.2.cell (hby k _ (by rw [List.getElem?_map, hx]; rfl)) hkn
      have HX := toHid hx
      clear hx
      have hc0 := HI.out.2.2.cell HC.out.1 HN.out.1
      have c3 := HI.out.2.2.cell HC.out.2.1 HN.out.2
      have c4 := HI.out.2.2.cell HC.out.2.2 HN.out.2
      have hl1 : (laidTo r.bytes a bs k).length = r.bytes.length := laidTo_len _ _ _ _ (by omega) (by omega)
      have hl2 : (laidTo r.set a (List.replicate n true) k).length = r.set.length := laidTo_len _ _ _ _ (by simp; omega) (by omega)
      have d1 := HI.out.1.cellN (i := a + k) (by simp [hl1]; omega)
      have f1 := HI.out.1.frozen (a + k)
      have d2 := HI.out.2.1.cellN (i := a + k) (by simp [hl2]; omega)
      have f2 := HI.out.2.1.frozen (a + k)
      have hbs2 : ¬ r.sb = r.bb := fun e => hbs e.symm
      have hbd : (a : Int) + k < r.bytes.length := by omega
      have hbd2 : (a : Int) + k < r.set.length := by omega
      have m1 : ¬ r.bb = s.m := fun e => HN.out.1 (by rw [← e]; simp [RReg.blocks])
      have m2 : ¬ r.bb = b := fun e => HN.out.2 (by rw [← e]; simp [RReg.blocks])
      have m3 : ¬ s.m = r.bb := fun e => m1 e.symm
      have m4 : ¬ b = r.bb := fun e => m2 e.symm
      go_wp2
      refine ⟨⟨k + 1, by omega, by go_num, ?_, ?_, ?_⟩, by simp [intOf]; omega⟩
      · refine Blk.setCell_other ?_ _ _ hbs
        have := HI.out.1.setCell (a + k) (.int .u8 x)
        rw [List.set_append_left _ _ (by simp [hl1]; omega), ← List.map_set, laidTo_succ r.bytes a bs k x HX.out (by omega)] at this
        exact this
      · have := (HI.out.2.1.setCell_other ⟨r.bb, a + k, none⟩ (.int .u8 x) hbs2).setCell (a + k) (.bool true)
        rw [List.set_append_left _ _ (by simp [hl2]; omega), ← List.map_set, laidTo_succ r.set a (List.replicate n true) k true (by rw [List.getElem?_replicate, if_pos hlt]) (by omega)] at this
        exact this
      · exact (HI.out.2.2.setCell _ _ (Or.inl (by simp [RReg.blocks]))).setCell _ _ (Or.inl (by simp [RReg.blocks]))
    · obtain rfl : k = n := by omega
      have H9 := HFF.out wr HI.out.1 HI.out.2.1 HI.out.2.2
      go_wp2
      go_end0
      exact ⟨rfl, H9.out⟩
end Go.Proofs.Ytkfmhabplcikiaa.Mem
