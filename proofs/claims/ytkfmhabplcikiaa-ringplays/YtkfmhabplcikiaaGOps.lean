/-
  Package ring: New, end, Out.
-/
import Derived.Test.YtkfmhabplcikiaaGSt
import Derived.Deep.RegionHeld3
import Derived.Deep.DrawnRows
namespace Go.Proofs.Ytkfmhabplcikiaa.Ring
open Go.RowKit
attribute [local go_sem ↓] Go.wp_at_zero Go.wp_at_succ

/-- A ring over its memory. -/
structure GBoth (w : World) (x : RG) (s : Mem.MS) : Prop where
  ring : RingAt w x
  mem : Mem.MemAt w s
  at_ : x.m = s.m
  apart : ∀ b ∈ x.blocks, b ∉ s.blocks
  held : ∀ n i : Nat, x.recs[n]? = some (some i) → ∃ r ∈ s.rs, r.id = i ∧ r.base = placeI n ∧ r.bytes.length ≤ 64
theorem GBoth.still {w w' : World} {x : RG} {s : Mem.MS} (h : GBoth w x s) (ht : Touch [] w w') : GBoth w' x s :=
  ⟨h.ring.still ht, h.mem.touch ht (by simp), h.at_, h.apart, h.held⟩
/-- A call's step. -/
structure GStep (w w' : World) (x x' : RG) (s s' : Mem.MS) : Prop where
  both : GBoth w' x' s'
  r : x'.r = x.r
  m : s'.m = s.m
  touch : Touch (x.blocks ++ s.blocks) w w'
  xb : ∀ b ∈ x'.blocks, b ∈ x.blocks ∨ w.heap.size ≤ b
  sb : ∀ b ∈ s'.blocks, b ∈ s.blocks ∨ w.heap.size ≤ b
theorem GStep.same {w w' : World} {x : RG} {s : Mem.MS} (h : GBoth w x s) (ht : Touch [] w w') : GStep w w' x x s s :=
  ⟨h.still ht, rfl, rfl, ht.nil, fun _ hb => Or.inl hb, fun _ hb => Or.inl hb⟩
theorem GStep.trans {w w1 w2 : World} {x x1 x2 : RG} {s s1 s2 : Mem.MS} (h : GStep w w1 x x1 s s1) (k : GStep w1 w2 x1 x2 s1 s2) : GStep w w2 x x2 s s2 := by
  have hz := h.touch.size
  refine ⟨k.both, k.r.trans h.r, k.m.trans h.m, h.touch.trans k.touch (fun b hb => ?_), fun b hb => ?_, fun b hb => ?_⟩
  · rcases List.mem_append.1 hb with hb | hb
    · rcases h.xb b hb with h1 | h1
      · exact Or.inl (List.mem_append_left _ h1)
      · exact Or.inr h1
    · rcases h.sb b hb with h1 | h1
      · exact Or.inl (List.mem_append_right _ h1)
      · exact Or.inr h1
  · rcases k.xb b hb with h1 | h1
    · exact h.xb b h1
    · exact Or.inr (by omega)
  · rcases k.sb b hb with h1 | h1
    · exact h.sb b h1
    · exact Or.inr (by omega)
def RG.new (r m : Nat) : RG := ⟨r, m, [none, none, none, none, none, none, none, none], none, 0, []⟩
set_option maxRecDepth 100000 in
theorem gnew_any {w : World} {s : Mem.MS} (h : Mem.MemAt w s) : Calls Try.prog 10 #[.pointer (some ⟨s.m, 0, none⟩)] w fun e w' => e = .returned (.tuple #[.pointer (some ⟨w.heap.size, 0, none⟩), .int .i64 0]) ∧ GBoth w' (RG.new w.heap.size s.m) s ∧ Touch [] w w' := by
  have HM := toHid h
  generalize hm : s.m = M at *
  have HMM := toHid hm
  clear h hm
  go_enter Try.func10, Try.ntmps10
  go_wp2
  go_ret2
  have hM := HM.out
  refine ⟨rfl, ⟨⟨Blk.newA w _ _ _ rfl, rfl, Rows.nil _, by simp [RG.new, rowsBl]⟩, hM.touch ((Touch.refl [] w).alloc _) (by simp), HMM.out.symm, fun b hb => ?_, fun n i hn => ?_⟩, (Touch.refl [] w).alloc _⟩
  · have : b = w.heap.size := by simpa [RG.blocks, RG.new, rowsBl] using hb
    intro hx
    have := hM.lt b hx
    omega
  · match n, hn with
    | 0, hn => simp [RG.new] at hn
    | 1, hn => simp [RG.new] at hn
    | 2, hn => simp [RG.new] at hn
    | 3, hn => simp [RG.new] at hn
    | 4, hn => simp [RG.new] at hn
    | 5, hn => simp [RG.new] at hn
    | 6, hn => simp [RG.new] at hn
    | 7, hn => simp [RG.new] at hn
    | n + 8, hn => simp [RG.new] at hn
set_option maxRecDepth 100000 in
theorem gnew_nil (w : World) : Calls Try.prog 10 #[.pointer none] w fun e w' => e = .returned (.tuple #[.pointer none, .int .i64 1]) ∧ Touch [] w w' := by
  go_enter Try.func10, Try.ntmps10
  go_wp2
  go_ret2
  exact ⟨rfl, Touch.refl _ _⟩
/-- What Out gives. -/
def OutPost (w : World) (l : List KR) (e : Ending) (w' : World) : Prop := ∃ g cap l', e = .returned (slV g l'.length cap) ∧ Rows w' g cap l' ∧ l'.map KR.bs = l.map KR.bs ∧ Touch [] w w' ∧ ∀ b ∈ rowsBl g l', w.heap.size ≤ b
set_option maxHeartbeats 1000000 in
set_option maxRecDepth 100000 in
theorem gout_any {w : World} {x : RG} (h : RingAt w x) (hl : x.l.length ≤ 1000) : Calls Try.prog 24 #[.pointer (some ⟨x.r, 0, none⟩)] w (OutPost w x.l) := by
  obtain ⟨r, m, recs, g, cap, l⟩ := x
  have h8 := h.eight
  dsimp only at *
  obtain ⟨a0, a1, a2, a3, a4, a5, a6, a7, rfl⟩ := eightL h8
  have c17 := h.self.cell (i := 17) rfl
  have HH := toHid h.rows
  have HL := toHid hl
  clear h h8
  unfold slV at c17
  generalize hgg : (Option.map (fun b => (⟨b, 0, none⟩ : Addr)) g) = ga at *
  have HG := toHid hgg
  clear hgg
  go_enter Try.func24, Try.ntmps24
  go_wp2_with fail
  clear c17
  generalize hn : l.length = n at *
  have HN := toHid hn
  clear hn
  go_loopw [3, 13] (fun o t w' => ∃ k : Nat, k ≤ n ∧ t = .int .i64 k ∧ Hid (∃ g' cap' l', o = slV g' l'.length cap' ∧ Rows w' g' cap' l' ∧ l'.map KR.bs = (l.take k).map KR.bs ∧ Touch [] w w' ∧ ∀ b ∈ rowsBl g' l', w.heap.size ≤ b)) (fun _ t _ => n - (intOf t).toNat)
  case atStart => exact ⟨0, by omega, rfl, none, 0, [], rfl, Rows.nil _, rfl, Touch.refl _ _, fun b hb => absurd hb (by simp [rowsBl])⟩
  case round =>
    obtain ⟨k, hk, rfl, HI⟩ := hrel
    obtain ⟨g', cap', l', rfl, hR, hbs, ht, ho⟩ := HI.out
    have hll : l'.length = k := by have := congrArg List.length hbs; simp at this; have := HN.out; omega
    by_cases hlt : k < n
    · have hkk : l[k]? = some (l[k]'(by have := HN.out; omega)) := List.getElem?_eq_getElem _
      generalize l[k]'(by have := HN.out; omega) = kr at *
      obtain ⟨b, hgb, hcell⟩ := HH.out.cell hkk
      have c0 := ht.cell hcell (by simp)
      have hA := ((HH.out.keys kr (List.mem_of_getElem? hkk)).1).touch ht (by simp)
      have hga : ga = some ⟨b, 0, none⟩ := by rw [← HG.out, hgb]; rfl
      subst hga
      have H1 := toHid (gclone_any hA)
      have HKK := toHid hkk
      have HX := toHid (And.intro hR (And.intro hbs (And.intro ht (And.intro ho hll))))
      unfold KR.v at c0 H1
      unfold slV
      have hk1 : (k : Int) < n := by omega
      clear hkk hcell hA hR hbs ht ho HI hgb hll
      go_wp2_with fail
      refine Calls.mono H1.out ?_
      rintro e w2 ⟨k', rfl, hA2, hb2, ht2, hf2⟩
      obtain ⟨hR, hbs, ht, ho, hll⟩ := HX.out
      have hz := ht.size
      obtain ⟨g2, cap2, w3, hr3, hR3, ht3, hg3⟩ := (hR.still ht2).push k' hA2 (fun e => by have := hR.lt _ (mem_g e); omega) (by have := HL.out; have := HN.out; omega)
      have HR3 := toHid hr3
      have hbs3 : (l' ++ [k']).map KR.bs = (l.take (k + 1)).map KR.bs := by
        rw [List.map_append, hbs, List.take_add_one, HKK.out, List.map_append]
        simp [hb2]
      have ht3' : Touch [] w w3 := (ht.trans ht2 (by simp)).trans ht3 (fun y hy => Or.inr (ho y (mem_g (by simpa using hy))))
      have ho3 : ∀ b ∈ rowsBl g2 (l' ++ [k']), w.heap.size ≤ b := fun b hb => by
        rcases rowsBl_cases hb with hb | ⟨y, hy, rfl⟩
        · rcases hg3 with rfl | ⟨b', hb', hge⟩
          · exact ho b (mem_g hb)
          · rw [hb] at hb'
            injection hb' with hb'
            have := ht2.size
            omega
        · rcases List.mem_append.1 hy with hy | hy
          · exact ho _ (mem_k hy)
          · simp only [List.mem_singleton] at hy
            subst hy
            omega
      have HNX : Hid (∃ g' cap' l'', slV g2 (l'.length + 1) cap2 = slV g' l''.length cap' ∧ Rows w3 g' cap' l'' ∧ l''.map KR.bs = (l.take (k + 1)).map KR.bs ∧ Touch [] w w3 ∧ ∀ b ∈ rowsBl g' l'', w.heap.size ≤ b) := ⟨g2, cap2, _, by simp, hR3, hbs3, ht3', ho3⟩
      clear hR hbs ht ho hr3 hR3 ht3 hg3 hA2 hb2 ht2 hf2 hbs3 ht3' ho3 hz hll HX c0 H1
      generalize slV g2 (l'.length + 1) cap2 = v2 at *
      unfold slV KR.v at HR3
      go_wp2_with (first | (at_builtin; refine Lib.wpList_append_run _ rfl _ _ _ _ rfl _ _ rfl rfl _ _ HR3.out ?_))
      go_roundw
      case rel => exact ⟨k + 1, by omega, by go_num, HNX⟩
      case measure => simp [intOf]; omega
    · obtain rfl : k = n := by omega
      have HF : Hid (OutPost w l (.returned (slV g' l'.length cap')) wr) := ⟨g', cap', l', rfl, hR, by rw [hbs, List.take_of_length_le (by have := HN.out; omega)], ht, ho⟩
      generalize slV g' l'.length cap' = v2 at *
      clear hR hbs ht ho HI
      go_wp2
      go_ret
      exact HF.out
end Go.Proofs.Ytkfmhabplcikiaa.Ring
