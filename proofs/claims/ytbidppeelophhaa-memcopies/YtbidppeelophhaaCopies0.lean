/-
  The copies of both memories: a pair of their own.
-/
import Derived.Test.YtbidppeelophhaaCopy
import Derived.Test.YtbidppeelophhaaRCopy
import Derived.Test.YtbidppeelophhaaMemPlays
namespace Go.Proofs.Ytbidppeelophhaa
open Go.RowKit

theorem pair_map {α : Type} {R : α → α → Prop} {z : α} {l m : List α} (hl : m.length = l.length) (h : l.Pairwise R) (hc : ∀ i j, i < l.length → j < l.length → R (l.getD i z) (l.getD j z) → R (m.getD i z) (m.getD j z)) : m.Pairwise R := by
  rw [List.pairwise_iff_getElem] at h ⊢
  intro i j hi hj hij
  have h1 := h i j (by omega) (by omega) hij
  have h2 := hc i j (by omega) (by omega) (by
    rw [List.getD_eq_getElem?_getD, List.getD_eq_getElem?_getD, List.getElem?_eq_getElem (by omega), List.getElem?_eq_getElem (by omega)]
    exact h1)
  rw [List.getD_eq_getElem?_getD, List.getD_eq_getElem?_getD, List.getElem?_eq_getElem hi, List.getElem?_eq_getElem hj] at h2
  exact h2

theorem like_of {s : MS} {w w' : World} {C G : Nat} {rs : List Reg} (h : CopyAt w w' s C G s.rs.length rs) {r2 : Reg} (hr : r2 ∈ rs) : ∃ r ∈ s.rs, Like r r2 := by
  obtain ⟨i, hi, rfl⟩ := List.getElem_of_mem hr
  rw [h.len] at hi
  have h1 := h.like i hi
  rw [List.getD_eq_getElem?_getD (l := rs), List.getElem?_eq_getElem (by rw [h.len]; exact hi)] at h1
  exact ⟨_, getD_mem hi, h1⟩
theorem like_to {s : MS} {w w' : World} {C G : Nat} {rs : List Reg} (h : CopyAt w w' s C G s.rs.length rs) {r : Reg} (hr : r ∈ s.rs) : ∃ r2 ∈ rs, Like r r2 := by
  obtain ⟨i, hi, rfl⟩ := List.getElem_of_mem hr
  have h1 := h.like i hi
  have hi2 : i < rs.length := by rw [h.len]; exact hi
  refine ⟨rs[i], List.getElem_mem hi2, ?_⟩
  rw [List.getD_eq_getElem?_getD, List.getD_eq_getElem?_getD, List.getElem?_eq_getElem hi, List.getElem?_eq_getElem hi2] at h1
  exact h1

/-- The copy is a memory. -/
theorem CopyAt.mem {w w' : World} {s : MS} {C G : Nat} {rs : List Reg} (h : CopyAt w w' s C G s.rs.length rs) (hm : MemAt w s) (hCG : C ≠ G) : MemAt w' ⟨C, some G, s.rs.length, rs, s.next⟩ where
  self := by
    show Blk w' C [slV (some G) rs.length s.rs.length, .int .i64 s.next] 67
    rw [h.len]
    exact h.self
  row := by
    have hl : rs.length = s.rs.length := h.len
    have hb := h.row
    rw [Nat.sub_self] at hb
    refine ⟨by simp, by show rs.length ≤ s.rs.length; omega, ?_, [], by simpa using hb, by simp [hl]⟩
    have := hm.many
    show s.rs.length ≤ maxLen
    unfold maxLen
    omega
  regs := fun r hr => (h.regs r hr).1
  ok := fun r hr => (h.regs r hr).2.1
  apart := by
    simp only [MS.blocks, Option.toList, List.cons_append, List.nil_append, List.nodup_cons, List.mem_cons, List.mem_flatMap]
    refine ⟨?_, ?_, h.apart⟩
    · rintro (h1 | ⟨r, hr, hx⟩)
      · exact hCG h1
      · exact ((h.regs r hr).2.2 C hx).2.1 rfl
    · rintro ⟨r, hr, hx⟩
      exact ((h.regs r hr).2.2 G hx).2.2 rfl
  sorted := pair_map (z := Reg.zero) h.len hm.sorted (fun i j hi hj hR => by
    have h1 := h.like i hi
    have h2 := h.like j hj
    show (rs.getD i Reg.zero).base + ((rs.getD i Reg.zero).bytes.length : Int) ≤ (rs.getD j Reg.zero).base
    rw [h1.base, h1.bytes, h2.base]
    exact hR)
  ids := pair_map (z := Reg.zero) h.len hm.ids (fun i j hi hj hR => by
    have h1 := h.like i hi
    have h2 := h.like j hj
    show (rs.getD i Reg.zero).id ≠ (rs.getD j Reg.zero).id
    rw [h1.id, h2.id]
    exact hR)
  idlt := fun r hr => by
    obtain ⟨r1, h1, h2⟩ := like_of h hr
    have := hm.idlt r1 h1
    rw [h2.id]
    exact this
  many := by
    show rs.length ≤ 4096
    rw [h.len]
    exact hm.many

theorem Like.setOf {r r2 : Reg} (h : Like r r2) (_ok : RegOk r) (_ok2 : RegOk r2) : setOf r2 = setOf r := by
  unfold Ytbidppeelophhaa.setOf
  cases h1 : r.sb with
  | none => rw [h.sb.2 h1]; simp only [h.bytes]
  | some s =>
    cases h2 : r2.sb with
    | none => rw [h.sb.1 h2] at h1; cases h1
    | some s2 => exact h.set

/-- The copies are tied as the first ones are. -/
theorem Rel.copy {w w' w1 w2 : World} {s : MS} {t t2 : RS} {C G O : Nat} {rs : List Reg} (hr : Rel s.rs s.next t.all) (hm : MemAt w s) (h : CopyAt w w' s C G s.rs.length rs) (h2 : RCopyAt w1 w2 t t2 O t.all.length) : Rel rs s.next t2.all := by
  have twin : ∀ {r r2 : Reg} {x x2 : RReg}, r ∈ s.rs → r2 ∈ rs → Like r r2 → RLike x x2 → Twin r x → Twin r2 x2 := by
    intro r r2 x x2 hr1 hr2 hl hx ht
    exact ⟨hx.live.trans ht.live, by rw [hx.base, hl.base, ht.base], by rw [hx.perm, hl.perm, ht.perm], by rw [hx.bytes, hl.bytes, ht.bytes], by rw [hx.set, ht.set, hl.setOf (hm.ok r hr1) (h.regs r2 hr2).2.1]⟩
  refine ⟨hr.len.trans h2.len.symm, fun r2 hr2 => ?_, fun i x2 hx2 hlv => ?_⟩
  · obtain ⟨r, hr1, hl⟩ := like_of h hr2
    obtain ⟨i, x, hx, hid, ht⟩ := hr.there r hr1
    have hi := (List.getElem?_eq_some_iff.1 hx).1
    have hi2 : i < t2.all.length := by rw [h2.len]; exact hi
    have hlk := h2.like i hi
    rw [List.getD_eq_getElem?_getD (l := t.all), hx] at hlk
    exact ⟨i, _, rgetD_of hi2, by rw [hl.id]; exact hid, twin hr1 hr2 hl hlk ht⟩
  · have hi2 := (List.getElem?_eq_some_iff.1 hx2).1
    have hi : i < t.all.length := by rw [← h2.len]; exact hi2
    have hlk := h2.like i hi
    rw [List.getD_eq_getElem?_getD (l := t2.all), hx2] at hlk
    have hx := rgetD_of hi
    obtain ⟨r, hr1, hid, ht⟩ := hr.back i _ hx (by rw [← hlk.live]; exact hlv)
    obtain ⟨r2, hr2, hl⟩ := like_to h hr1
    exact ⟨r2, hr2, by rw [hl.id]; exact hid, twin hr1 hr2 hl hlk ht⟩

theorem ArgIn.up {w0 w1 : World} {sa : Option Addr} {sl : Nat} {bs : List Int} (h : ArgIn w0 sa sl bs) (ht : Touch [] w0 w1) : ArgIn w1 sa sl bs := by
  obtain ⟨h1, h2, h3, h4⟩ := h
  refine ⟨h1, h2, h3, fun hp => ?_⟩
  obtain ⟨k, off, ha, hk, hb⟩ := h4 hp
  exact ⟨k, off, ha, Nat.lt_of_lt_of_le hk ht.size, hb.touch ht (by simp)⟩
theorem OpC.Ok.up {w0 w1 : World} {o : OpC} (h : o.Ok w0) (ht : Touch [] w0 w1) : o.Ok w1 := ⟨h.a0, h.a1, h.n1, h.v0, h.v1, h.arg.up ht⟩
theorem Script.up {w0 w1 : World} {sa : Option Addr} {n : Nat} {f : Nat → OpC} (h : Script w0 sa n f) (ht : Touch [] w0 w1) : Script w1 sa n f := by
  rcases h with h | ⟨b, off, h1, h2⟩
  · exact Or.inl h
  · refine Or.inr ⟨b, off, h1, fun j hj => ?_⟩
    obtain ⟨ok, c0, c1, c2, c3, c4, c5⟩ := h2 j hj
    exact ⟨ok.up ht, ht.cell c0 (by simp), ht.cell c1 (by simp), ht.cell c2 (by simp), ht.cell c3 (by simp), ht.cell c4 (by simp), ht.cell c5 (by simp)⟩

/-- The copies, a pair of their own: what lay there ahead of them stays. -/
theorem pair_copy {w0 w w1 w2 : World} {s : MS} {t t2 : RS} {C G O : Nat} {rs : List Reg} (hP : Pair w0 w s t) (h : CopyAt w w1 s C G s.rs.length rs) (hCG : C ≠ G) (hC : w.heap.size ≤ C) (hG : w.heap.size ≤ G) (h2 : RCopyAt w1 w2 t t2 O t.all.length) :
    Pair w w2 ⟨C, some G, s.rs.length, rs, s.next⟩ t2 := by
  have hb : ∀ x ∈ (⟨C, some G, s.rs.length, rs, s.next⟩ : MS).blocks, w.heap.size ≤ x := fun x hx => by
    simp only [MS.blocks, Option.toList, List.cons_append, List.nil_append, List.mem_cons, List.mem_flatMap] at hx
    rcases hx with rfl | rfl | ⟨r, hr, hx⟩
    · exact hC
    · exact hG
    · exact ((h.regs r hr).2.2 x hx).1
  have hM := h.mem hP.mem hCG
  refine ⟨hM.touch h2.touch (by simp), h2.ref, fun x hx hy => ?_, hb, fun x hx => Nat.le_trans h.touch.size (h2.own x hx), h.touch.trans h2.touch (by simp)⟩
  have := hM.lt x hx
  have := h2.own x hy
  omega
end Go.Proofs.Ytbidppeelophhaa
