/-
  The document's own index: a slot is given another key, or none.
-/
import Derived.Test.YtlkbaconlngmjaaRef3
namespace Go.Proofs.Ytlkbaconlngmjaa
open Go.RowKit
attribute [local go_sem ↓] Go.wp_at_zero Go.wp_at_succ

/-- A slot is given another key, or none. -/
theorem RAt.placed {w : World} {x : RX} (h : RAt w x) {b j : Nat} (hb : x.g = some b) (hj : j < x.slots.length) (s : Option KS) (hs : ∀ k, s = some k → k.At w ∧ k.b ∉ x.top) :
    RAt (w.setCell ⟨b, j, none⟩ (slotV s)) { x with slots := x.slots.set j s } := by
  have ht : Touch [b] w (w.setCell ⟨b, j, none⟩ (slotV s)) := (Touch.refl _ w).setCell _ _ (Or.inl (by simp))
  have hap := h.apart
  simp only [RX.top, List.nodup_cons, hb, Option.toList_some, List.nodup_append, List.mem_append, List.mem_singleton] at hap
  have hmem : ∀ k, some k ∈ x.slots.set j s → k.At w ∧ k.b ∉ x.top := fun k hk => by
    rcases List.mem_or_eq_of_mem_set hk with hk | hk
    · exact ⟨h.keys k hk, h.apartK k hk⟩
    · exact hs k hk.symm
  refine ⟨?_, ?_, h.wrow.touch ht (fun c hc hx => ?_), fun k hk => (hmem k hk).1.touch ht (fun hx => ?_), h.apart, fun k hk => (hmem k hk).2⟩
  · have := ht.blk h.self (by simp; intro e; exact hap.1 (Or.inl e))
    simpa using this
  · obtain ⟨h1, h2, h3, h4⟩ := h.row
    rw [hb] at h4
    obtain ⟨rest', hB', hc⟩ := h4
    have hset := hB'.setCell j (slotV s)
    rw [List.set_append_left _ _ (by simpa using hj), ← List.map_set] at hset
    show RowAt _ 32 1 x.g (x.slots.set j s).length x.scap ((x.slots.set j s).map slotV)
    rw [hb]
    exact ⟨by simp, by simpa using h2, h3, rest', hset, by simpa using hc⟩
  · simp at hx
    subst hx
    exact hap.2.2.2 c rfl c (by simp [hc]) rfl
  · simp at hx
    exact (hmem k hk).2 (by rw [hx]; exact RX.mem_g hb)

end Go.Proofs.Ytlkbaconlngmjaa
