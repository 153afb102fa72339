/-
  The document's own index, while it is copied: a time, a slot put behind the others.
-/
import Derived.Test.YtlkbaconlngmjaaRef4
namespace Go.Proofs.Ytlkbaconlngmjaa
open Go.RowKit

/-- A time put behind the others. -/
theorem RAt.pushW {w : World} {t : RX} (h : RAt w t) (hl : t.whens.length ≤ 1000) (v : Int) :
    ∃ g' cap' w', (Builtin.append_ #[59, 59] 59 #[slV t.h t.whens.length t.wcap, .slice (some ⟨w.heap.size, 0, none⟩) 1 1]).run Try.prog (w.alloc (.cells #[.int .i64 v] 3)) = .ok (slV g' (t.whens.length + 1) cap') w' ∧
      w'.cell? ⟨t.r, 4, none⟩ = some (slV t.h t.whens.length t.wcap) ∧ w'.frozen? ⟨t.r, 4, none⟩ = false ∧
      RAt (w'.setCell ⟨t.r, 4, none⟩ (slV g' (t.whens.length + 1) cap')) { t with h := g', wcap := cap', whens := t.whens ++ [v] } ∧
      Touch t.top w w' ∧ Touch t.top w (w'.setCell ⟨t.r, 4, none⟩ (slV g' (t.whens.length + 1) cap')) ∧
      (∀ b ∈ ({ t with h := g', wcap := cap', whens := t.whens ++ [v] } : RX).blocks, b ∈ t.blocks ∨ w.heap.size ≤ b) := by
  obtain ⟨i, hi0, hz, hs, hb⟩ := info_of info3
  have hN := Blk.newA w #[.int .i64 v] _ 3 rfl
  have hta : Touch [] w (w.alloc (.cells #[.int .i64 v] 3)) := (Touch.refl _ w).alloc _
  have hL := h.touch hta (by simp)
  have hlt := h.lt
  obtain ⟨g', cap', w', hr, h2, h3, h4, _⟩ := run_append_row (P := Try.prog) (w.alloc (.cells #[.int .i64 v] 3)) 59 59 3 i (.int .i64 0) 1 Try.underlying59 hi0 hz hs rfl (by omega) t.h t.whens.length t.wcap _ hL.wrow ⟨w.heap.size, 0, none⟩ 1 1 [.int .i64 v] rfl
    (fun j u hj => by
      rw [Addr.add_lit]
      have : j = 0 := by have := (List.getElem?_eq_some_iff.1 hj).1; simp at this; exact this
      subst this
      exact hN.cell hj) (fun u hu => by
      simp only [List.mem_singleton] at hu
      subst hu
      rfl) (by rw [hb]; omega) (by omega)
  have hap := h.apart
  simp only [RX.top, List.nodup_cons, List.mem_append, Option.mem_toList, List.nodup_append] at hap
  have hrh : t.r ∉ t.h.toList := fun hx => hap.1 (Or.inr (by simpa using hx))
  have hself := h3.blk hL.self hrh
  have hts : Touch [t.r] w' (w'.setCell ⟨t.r, 4, none⟩ (slV g' (t.whens.length + 1) cap')) := (Touch.refl _ w').setCell _ _ (Or.inl (by simp))
  have hg' : ∀ b, g' = some b → t.h = some b ∨ b = w.heap.size + 1 := fun b hb => by
    rcases h4 with h4 | h4
    · rw [← h4]; exact Or.inl hb
    · rw [hb] at h4; injection h4 with h4; exact Or.inr (by rw [h4]; simp)
  have hgr : g' ≠ some t.r := fun e => by
    rcases hg' _ e with hx | hx
    · exact hrh (by simpa using hx)
    · have := hlt t.r (RX.mem_top t.mem_r); omega
  have hgk : ∀ k, some k ∈ t.slots → g' ≠ some k.b := fun k hk e => by
    rcases hg' _ e with hx | hx
    · exact h.apartK k hk (RX.mem_h hx)
    · have := hlt k.b (RX.mem_key hk); omega
  have hgg : ∀ b, t.g = some b → g' ≠ some b := fun b hgb e => by
    rcases hg' _ e with hx | hx
    · exact hap.2.2.2 b (by simpa using hgb) b (by simpa using hx) rfl
    · have := hlt b (RX.mem_top (RX.mem_g hgb)); omega
  refine ⟨g', cap', w', hr, hself.cell rfl, hself.frozen 4, ⟨?_, ?_, ?_, ?_, ?_, ?_⟩, ?_, ?_, ?_⟩
  · have := hself.setCell 4 (slV g' (t.whens.length + 1) cap')
    simpa using this
  · refine (hL.row.touch h3 (fun b hgb hx => ?_)).touch hts (fun b hgb hx => ?_)
    · exact hap.2.2.2 b (by simpa using hgb) b (by simpa using hx) rfl
    · simp at hx
      subst hx
      exact hap.1 (Or.inl hgb)
  · have := h2.touch hts (fun b hgb hx => by simp at hx; subst hx; exact hgr hgb)
    simpa using this
  · intro k hk
    refine ((hL.keys k hk).touch h3 (fun hx => ?_)).touch hts (fun hx => ?_)
    · exact h.apartK k hk (RX.mem_h (by simpa using hx))
    · simp at hx
      exact h.apartK k hk (by rw [hx]; exact t.mem_r)
  · show (t.r :: (t.g.toList ++ g'.toList)).Nodup
    simp only [List.nodup_cons, List.mem_append, Option.mem_toList, List.nodup_append]
    refine ⟨fun hx => ?_, by cases t.g <;> simp, by cases g' <;> simp, fun a ha b hb e => ?_⟩
    · rcases hx with hx | hx
      · exact hap.1 (Or.inl hx)
      · exact hgr hx
    · subst e
      exact hgg a ha hb
  · intro k hk hx
    have hx : k.b ∈ (t.r :: (t.g.toList ++ g'.toList)) := hx
    simp only [List.mem_cons, List.mem_append, Option.mem_toList] at hx
    rcases hx with hx | hx | hx
    · exact h.apartK k hk (by rw [hx]; exact t.mem_r)
    · exact h.apartK k hk (RX.mem_g hx)
    · exact hgk k hk hx
  · exact Touch.trans (Touch.nil hta) h3 (fun x hx => Or.inl (RX.mem_h (by simpa using hx)))
  · refine Touch.trans (b := w') ?_ hts (fun x hx => Or.inl (by simp at hx; rw [hx]; exact t.mem_r))
    exact Touch.trans (Touch.nil hta) h3 (fun x hx => Or.inl (RX.mem_h (by simpa using hx)))
  · intro b hb
    rcases List.mem_append.1 hb with hb | hb
    · have hb : b ∈ (t.r :: (t.g.toList ++ g'.toList)) := hb
      simp only [List.mem_cons, List.mem_append, Option.mem_toList] at hb
      rcases hb with hb | hb | hb
      · exact Or.inl (by rw [hb]; exact RX.mem_top t.mem_r)
      · exact Or.inl (RX.mem_top (RX.mem_g hb))
      · rcases hg' _ hb with hx | hx
        · exact Or.inl (RX.mem_top (RX.mem_h hx))
        · exact Or.inr (by omega)
    · exact Or.inl (List.mem_append_right _ hb)

/-- A slot put behind the others. -/
theorem RAt.pushS {w : World} {t : RX} (h : RAt w t) (hl : t.slots.length ≤ 1000) (s : Option KS) (hs : ∀ k, s = some k → k.At w ∧ k.b ∉ t.top) :
    ∃ g' cap' w', (Builtin.append_ #[38, 38] 38 #[slV t.g t.slots.length t.scap, .slice (some ⟨w.heap.size, 0, none⟩) 1 1]).run Try.prog (w.alloc (.cells #[slotV s] 32)) = .ok (slV g' (t.slots.length + 1) cap') w' ∧
      w'.cell? ⟨t.r, 3, none⟩ = some (slV t.g t.slots.length t.scap) ∧ w'.frozen? ⟨t.r, 3, none⟩ = false ∧
      RAt (w'.setCell ⟨t.r, 3, none⟩ (slV g' (t.slots.length + 1) cap')) { t with g := g', scap := cap', slots := t.slots ++ [s] } ∧
      Touch t.top w w' ∧ Touch t.top w (w'.setCell ⟨t.r, 3, none⟩ (slV g' (t.slots.length + 1) cap')) ∧
      (∀ b ∈ ({ t with g := g', scap := cap', slots := t.slots ++ [s] } : RX).blocks, b ∈ t.blocks ∨ w.heap.size ≤ b ∨ ∃ k, s = some k ∧ b = k.b) := by
  obtain ⟨i, hi0, hz, hs0, hb⟩ := info_of info32
  have hN := Blk.newA w #[slotV s] _ 32 rfl
  have hta : Touch [] w (w.alloc (.cells #[slotV s] 32)) := (Touch.refl _ w).alloc _
  have hL := h.touch hta (by simp)
  have hlt := h.lt
  obtain ⟨g', cap', w', hr, h2, h3, h4, _⟩ := run_append_row (P := Try.prog) (w.alloc (.cells #[slotV s] 32)) 38 38 32 i (.slice none 0 0) 1 Try.underlying38 hi0 hz hs0 rfl (by omega) t.g t.slots.length t.scap _ hL.row ⟨w.heap.size, 0, none⟩ 1 1 [slotV s] rfl
    (fun j u hj => by
      rw [Addr.add_lit]
      have : j = 0 := by have := (List.getElem?_eq_some_iff.1 hj).1; simp at this; exact this
      subst this
      exact hN.cell hj) (fun u hu => by
      simp only [List.mem_singleton] at hu
      subst hu
      cases s <;> rfl) (by rw [hb]; omega) (by omega)
  have hap := h.apart
  simp only [RX.top, List.nodup_cons, List.mem_append, Option.mem_toList, List.nodup_append] at hap
  have hrg : t.r ∉ t.g.toList := fun hx => hap.1 (Or.inl (by simpa using hx))
  have hself := h3.blk hL.self hrg
  have hts : Touch [t.r] w' (w'.setCell ⟨t.r, 3, none⟩ (slV g' (t.slots.length + 1) cap')) := (Touch.refl _ w').setCell _ _ (Or.inl (by simp))
  have hg' : ∀ b, g' = some b → t.g = some b ∨ b = w.heap.size + 1 := fun b hb => by
    rcases h4 with h4 | h4
    · rw [← h4]; exact Or.inl hb
    · rw [hb] at h4; injection h4 with h4; exact Or.inr (by rw [h4]; simp)
  have hgr : g' ≠ some t.r := fun e => by
    rcases hg' _ e with hx | hx
    · exact hrg (by simpa using hx)
    · have := hlt t.r (RX.mem_top t.mem_r); omega
  have hall : ∀ k, some k ∈ t.slots ++ [s] → k.At w ∧ k.b ∉ t.top := fun k hk => by
    rcases List.mem_append.1 hk with hk | hk
    · exact ⟨h.keys k hk, h.apartK k hk⟩
    · exact hs k (List.mem_singleton.1 hk).symm
  have hgk : ∀ k, some k ∈ t.slots ++ [s] → g' ≠ some k.b := fun k hk e => by
    rcases hg' _ e with hx | hx
    · exact (hall k hk).2 (RX.mem_g hx)
    · have := (hall k hk).1.lt; omega
  have hgg : ∀ b, t.h = some b → g' ≠ some b := fun b hgb e => by
    rcases hg' _ e with hx | hx
    · exact hap.2.2.2 b (by simpa using hx) b (by simpa using hgb) rfl
    · have := hlt b (RX.mem_top (RX.mem_h hgb)); omega
  refine ⟨g', cap', w', hr, hself.cell rfl, hself.frozen 3, ⟨?_, ?_, ?_, ?_, ?_, ?_⟩, ?_, ?_, ?_⟩
  · have := hself.setCell 3 (slV g' (t.slots.length + 1) cap')
    simpa using this
  · have := h2.touch hts (fun b hgb hx => by simp at hx; subst hx; exact hgr hgb)
    simpa using this
  · refine (hL.wrow.touch h3 (fun b hgb hx => ?_)).touch hts (fun b hgb hx => ?_)
    · exact hap.2.2.2 b (by simpa using hx) b (by simpa using hgb) rfl
    · simp at hx
      subst hx
      exact hap.1 (Or.inr hgb)
  · intro k hk
    refine (((hall k hk).1.touch hta (by simp)).touch h3 (fun hx => ?_)).touch hts (fun hx => ?_)
    · exact (hall k hk).2 (RX.mem_g (by simpa using hx))
    · simp at hx
      exact (hall k hk).2 (by rw [hx]; exact t.mem_r)
  · show (t.r :: (g'.toList ++ t.h.toList)).Nodup
    simp only [List.nodup_cons, List.mem_append, Option.mem_toList, List.nodup_append]
    refine ⟨fun hx => ?_, by cases g' <;> simp, by cases t.h <;> simp, fun a ha b hb e => ?_⟩
    · rcases hx with hx | hx
      · exact hgr hx
      · exact hap.1 (Or.inr hx)
    · subst e
      exact hgg a hb ha
  · intro k hk hx
    have hx : k.b ∈ (t.r :: (g'.toList ++ t.h.toList)) := hx
    simp only [List.mem_cons, List.mem_append, Option.mem_toList] at hx
    rcases hx with hx | hx | hx
    · exact (hall k hk).2 (by rw [hx]; exact t.mem_r)
    · exact hgk k hk hx
    · exact (hall k hk).2 (RX.mem_h hx)
  · exact Touch.trans (Touch.nil hta) h3 (fun x hx => Or.inl (RX.mem_g (by simpa using hx)))
  · refine Touch.trans (b := w') ?_ hts (fun x hx => Or.inl (by simp at hx; rw [hx]; exact t.mem_r))
    exact Touch.trans (Touch.nil hta) h3 (fun x hx => Or.inl (RX.mem_g (by simpa using hx)))
  · intro b hb
    rcases List.mem_append.1 hb with hb | hb
    · have hb : b ∈ (t.r :: (g'.toList ++ t.h.toList)) := hb
      simp only [List.mem_cons, List.mem_append, Option.mem_toList] at hb
      rcases hb with hb | hb | hb
      · exact Or.inl (by rw [hb]; exact RX.mem_top t.mem_r)
      · rcases hg' _ hb with hx | hx
        · exact Or.inl (RX.mem_top (RX.mem_g hx))
        · exact Or.inr (Or.inl (by omega))
      · exact Or.inl (RX.mem_top (RX.mem_h hb))
    · obtain ⟨a, ha, hab⟩ := List.mem_filterMap.1 hb
      rcases List.mem_append.1 ha with ha | ha
      · exact Or.inl (List.mem_append_right _ (List.mem_filterMap.2 ⟨a, ha, hab⟩))
      · simp only [List.mem_singleton] at ha
        subst ha
        cases a with
        | none => cases hab
        | some k =>
          injection hab with hab
          exact Or.inr (Or.inr ⟨k, rfl, hab.symm⟩)
end Go.Proofs.Ytlkbaconlngmjaa
