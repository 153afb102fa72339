/-
  A memory of one region: its bytes and marks as functions of the place; what Store, Load and Read answer there.
-/
import Derived.Test.YtbidppeelophhaaFirst
import Derived.Test.YtbidppeelophhaaApi3
namespace Go.Proofs.Ytbidppeelophhaa
open Go.RowKit

theorem getD_map_range {α : Type} (f : Nat → α) (L j : Nat) (d : α) (h : j < L) : ((List.range L).map f).getD j d = f j := by
  rw [List.getD_eq_getElem?_getD, List.getElem?_map, List.getElem?_range h]
  rfl

theorem splice_range {α : Type} (f g : Nat → α) (L a n : Nat) (h : a + n ≤ L) :
    ((List.range L).map f).take a ++ (List.range n).map g ++ ((List.range L).map f).drop (a + n) = (List.range L).map (fun j => if a ≤ j ∧ j < a + n then g (j - a) else f j) := by
  apply List.ext_getElem
  · simp
    omega
  · intro j h1 h2
    simp only [List.length_map, List.length_range] at h2
    rw [List.getElem_map, List.getElem_range]
    by_cases ha : j < a
    · rw [List.getElem_append_left (by simp; omega), List.getElem_append_left (by simp; omega), List.getElem_take, List.getElem_map, List.getElem_range, if_neg (by omega)]
    · by_cases hb : j < a + n
      · rw [List.getElem_append_left (by simp; omega), List.getElem_append_right (by simp; omega), if_pos ⟨by omega, hb⟩]
        simp only [List.getElem_map, List.getElem_range, List.length_take, List.length_map, List.length_range]
        rw [show min a L = a by omega]
      · rw [List.getElem_append_right (by simp; omega), if_neg (by omega)]
        simp only [List.getElem_drop, List.getElem_map, List.getElem_range, List.length_append, List.length_take, List.length_map, List.length_range]
        congr 1
        omega

/-- One region, at base B, of L bytes f and marks g. -/
def OneF (rs : List Reg) (B : Int) (L : Nat) (p : Int) (f : Nat → Int) (g : Nat → Bool) : Prop :=
  ∃ r, rs = [r] ∧ r.base = B ∧ r.bytes = (List.range L).map f ∧ r.perm = p ∧ r.id = 0 ∧ (p < 4 → r.sb = none) ∧ (¬ p < 4 → ∃ s, r.sb = some s) ∧ (¬ p < 4 → r.set = (List.range L).map g)

theorem OneF.find {rs : List Reg} {B : Int} {L : Nat} {p : Int} {f : Nat → Int} {g : Nat → Bool} (h : OneF rs B L p f g) (a : Nat) (ha : a < L) :
    ∃ r, findR rs (B + a) = some r ∧ rs = [r] ∧ r.base = B ∧ r.bytes = (List.range L).map f ∧ r.perm = p ∧ r.id = 0 ∧ (p < 4 → r.sb = none) ∧ (¬ p < 4 → ∃ s, r.sb = some s) ∧ (¬ p < 4 → r.set = (List.range L).map g) := by
  obtain ⟨r, h1, h2, h3, h4⟩ := h
  refine ⟨r, ?_, h1, h2, h3, h4⟩
  rw [h1, findR_one, if_pos]
  unfold hasB
  rw [h2, h3]
  refine decide_eq_true ⟨by omega, ?_⟩
  simp
  omega

theorem OneF.store {rs : List Reg} {B : Int} {L : Nat} {p : Int} {f : Nat → Int} {g : Nat → Bool} (h : OneF rs B L p f g) (hp : bits .and .i64 p 2 ≠ 0) (a n : Nat) (v : Int) (hn : wordB n = true) (ha : a + n ≤ L) :
    storeE rs (B + a) n = 0 ∧ OneF (storeRs rs (B + a) n v) B L p (fun j => if a ≤ j ∧ j < a + n then byteOf v (j - a) else f j) (fun j => if a ≤ j ∧ j < a + n then true else g j) := by
  have hn1 : 1 ≤ n := by have := word_of hn; omega
  obtain ⟨r, hf, h1, h2, h3, h4, h5, h6, h7, h8⟩ := h.find a (by omega)
  have hlen : r.bytes.length = L := by rw [h3]; simp
  have hm : mayB r (B + a) n 2 = true := by
    unfold mayB
    rw [h2, hlen, h4]
    exact decide_eq_true ⟨by omega, hp⟩
  constructor
  · unfold storeE layE
    rw [hf]
    simp [hm, hn]
  · have e : storeRs rs (B + a) n v = [layR r a ((List.range n).map (byteOf v))] := by
      unfold storeRs
      rw [if_pos hn]
      unfold layRs
      rw [hf]
      simp only [Int.toNat_natCast, List.length_map, List.length_range]
      rw [if_pos hm, h1, h2, show (B + (a : Int) - B).toNat = a by omega]
      unfold updR
      simp
    rw [e]
    refine ⟨_, rfl, h2, ?_, h4, h5, h6, h7, fun hq => ?_⟩
    · show r.bytes.take a ++ (List.range n).map (byteOf v) ++ r.bytes.drop (a + ((List.range n).map (byteOf v)).length) = _
      rw [h3, List.length_map, List.length_range]
      exact splice_range f (byteOf v) L a n ha
    · obtain ⟨s, hs⟩ := h7 hq
      have : (layR r a ((List.range n).map (byteOf v))).set = r.set.take a ++ List.replicate n true ++ r.set.drop (a + n) := by
        simp only [layR, hs, List.length_map, List.length_range]
      rw [this, h8 hq]
      have e2 : List.replicate n true = (List.range n).map (fun _ => true) := by
        apply List.ext_getElem
        · simp
        · intro j _ _; simp
      rw [e2]
      exact splice_range g (fun _ => true) L a n ha

theorem OneF.look {rs : List Reg} {B : Int} {L : Nat} {p : Int} {f : Nat → Int} {g : Nat → Bool} (h : OneF rs B L p f g) (hp : bits .and .i64 p 1 ≠ 0) (a n : Nat) (_hn : 1 ≤ n) (ha : a < L) :
    (a + n ≤ L → (p < 4 ∨ ∀ j, j < n → g (a + j) = true) → lookE rs (B + a) n = 0 ∧ tellR rs (B + a) n = (List.range n).map (fun j => f (a + j))) ∧
    (a + n ≤ L → ¬ p < 4 → (∃ j, j < n ∧ g (a + j) = false) → lookE rs (B + a) n = 11) ∧ (¬ a + n ≤ L → lookE rs (B + a) n = 10) := by
  obtain ⟨r, hf, h1, h2, h3, h4, h5, h6, h7, h8⟩ := h.find a ha
  have hlen : r.bytes.length = L := by rw [h3]; simp
  have ea : (B + (a : Int) - r.base).toNat = a := by rw [h2]; omega
  refine ⟨fun hl hs => ?_, fun hl hq hs => ?_, fun hl => ?_⟩
  · have hm : mayB r (B + a) n 1 = true := by
      unfold mayB
      rw [h2, hlen, h4]
      exact decide_eq_true ⟨by omega, hp⟩
    have hset : allSetB r a n = true := by
      by_cases hq : p < 4
      · unfold allSetB
        rw [h6 hq]
      · refine allSetB_yes (fun j hj => ?_)
        rw [h8 hq, getD_map_range _ _ _ _ (by omega)]
        rcases hs with hs | hs
        · exact absurd hs hq
        · exact hs j hj
    constructor
    · unfold lookE
      rw [hf]
      simp only [ea, Int.toNat_natCast]
      rw [if_pos hm, if_pos hset]
    · unfold tellR
      rw [hf]
      simp only [ea, Int.toNat_natCast]
      rw [if_pos ⟨hm, hset⟩, h3]
      apply List.ext_getElem
      · simp; omega
      · intro j q1 q2
        simp
  · have hm : mayB r (B + a) n 1 = true := by
      unfold mayB
      rw [h2, hlen, h4]
      exact decide_eq_true ⟨by omega, hp⟩
    obtain ⟨s, hs2⟩ := h7 hq
    obtain ⟨j, hj, hg⟩ := hs
    have hset : allSetB r a n = false := allSetB_no hs2 hj (by rw [h8 hq]; simp; omega) (by rw [h8 hq, getD_map_range _ _ _ _ (by omega)]; exact hg)
    unfold lookE
    rw [hf]
    simp only [ea, Int.toNat_natCast]
    rw [if_pos hm, if_neg (by rw [hset]; decide)]
  · unfold lookE
    rw [hf]
    simp only
    rw [if_neg]
    unfold mayB
    rw [h2, hlen]
    simp
    omega

theorem OneF.load {rs : List Reg} {B : Int} {L : Nat} {p : Int} {f : Nat → Int} {g : Nat → Bool} (h : OneF rs B L p f g) (hp : bits .and .i64 p 1 ≠ 0) (hq : p < 4) (a n : Nat) (hn : wordB n = true) (ha : a + n ≤ L) :
    loadE rs (B + a) n = 0 ∧ loadV rs (B + a) n = num (fun j => f (a + j)) n := by
  have hn1 : 1 ≤ n := by have := word_of hn; omega
  obtain ⟨h1, h2⟩ := (h.look hp a n hn1 (by omega)).1 ha (Or.inl hq)
  constructor
  · unfold loadE
    rw [if_pos hn, h1]
  · unfold loadV
    rw [if_pos ⟨hn, h1⟩, Int.toNat_natCast]
    refine num_congr n (fun j hj => ?_)
    rw [h2, getD_map_range _ _ _ _ hj]

theorem NewReg.one {r : Reg} {B size p : Int} (h : NewReg r 0 B size p) (ho : RegOk r) : OneF [r] B size.toNat p (fun _ => 0) (fun _ => false) := by
  refine ⟨r, rfl, h.hbase, ?_, h.hperm, h.hid, fun hq => ?_, fun hq => ?_, fun hq => ?_⟩
  · rw [h.hbytes]
    apply List.ext_getElem
    · simp
    · intro j _ _; simp
  · exact ho.plain.2 (by rw [h.hperm]; exact hq)
  · cases hs : r.sb with
    | none => exact absurd (by rw [← h.hperm]; exact ho.plain.1 hs) hq
    | some s => exact ⟨s, rfl⟩
  · rw [h.hset, if_neg hq]
    apply List.ext_getElem
    · simp
    · intro j _ _; simp
end Go.Proofs.Ytbidppeelophhaa
