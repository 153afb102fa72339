/-
  Rows of bytes that were submitted.
-/
import Derived.Test.YtkfmhabplcikiaaBase
import Derived.Test.YtkfmhabplcikiaaRow5
import Derived.Test.YtkfmhabplcikiaaMApi3
import Derived.Lib.SliceRun
namespace Go.Proofs.Ytkfmhabplcikiaa.Ring
open Go.RowKit

theorem info5 : (Try.prog.info? 5).map (fun i => (i.zero, i.size, i.bytes)) = some (some (.int .u8 0), 1, 1) := by kernel_rfl
theorem infoB : (Try.prog.info? 60).map (fun i => (i.zero, i.size, i.bytes)) = some (some (.slice none 0 0), 1, 24) := by kernel_rfl
/-- Bytes where they lie. -/
structure KR where
  b : Nat
  cap : Nat
  bs : List Int
def KR.v (k : KR) : Value := .slice (some ⟨k.b, 0, none⟩) k.bs.length k.cap
def KR.At (w : World) (k : KR) : Prop := (∃ rest, Blk w k.b (k.bs.map (Value.int .u8) ++ rest) 5) ∧ (∀ x ∈ k.bs, 0 ≤ x ∧ x ≤ 255) ∧ k.bs.length ≤ 64 ∧ 1 ≤ k.bs.length ∧ k.bs.length ≤ k.cap
theorem KR.At.touch {S : List Nat} {w w' : World} {k : KR} (h : k.At w) (ht : Touch S w w') (hb : k.b ∉ S) : k.At w' := by
  obtain ⟨⟨r, h1⟩, h2⟩ := h
  exact ⟨⟨r, ht.blk h1 hb⟩, h2⟩
theorem KR.At.cell {w : World} {k : KR} (h : k.At w) (j : Nat) (hj : j < k.bs.length) : w.cell? ⟨k.b, j, none⟩ = some (.int .u8 (k.bs.getD j 0)) := by
  obtain ⟨⟨r, h1⟩, _⟩ := h
  refine h1.cell ?_
  rw [List.getElem?_append_left (by simpa using hj), List.getElem?_map, List.getElem?_eq_getElem hj, List.getD_eq_getElem?_getD, List.getElem?_eq_getElem hj]
  rfl
theorem KR.At.key {w : World} {k : KR} (h : k.At w) : KeyAt w (some ⟨k.b, 0, none⟩) k.bs.length k.bs :=
  ⟨rfl, h.2.1, by have := h.2.2.1; omega, fun _ => ⟨k.b, 0, rfl, fun j hj => by rw [Nat.zero_add]; exact h.cell j hj⟩⟩
theorem KR.At.lt {w : World} {k : KR} (h : k.At w) : k.b < w.heap.size := by
  obtain ⟨⟨r, h1⟩, _⟩ := h
  exact h1.lt
/-- What Bytes gave. -/
theorem KR.of_slice {w : World} {v : Value} {bs : List Int} (h : Mem.SliceIs w v bs) (hb : ∀ x ∈ bs, 0 ≤ x ∧ x ≤ 255) (h1 : 1 ≤ bs.length) (h2 : bs.length ≤ 64) : ∃ N, v = .slice (some ⟨N, 0, none⟩) bs.length bs.length ∧ (⟨N, bs.length, bs⟩ : KR).At w := by
  rcases h with ⟨hn, _⟩ | ⟨_, N, hv, hB⟩
  · rw [hn] at h1
    simp at h1
  · exact ⟨N, hv, ⟨[], by rw [List.append_nil]; exact hB⟩, hb, h2, h1, Nat.le_refl _⟩
/-- A list of such rows. -/
structure Rows (w : World) (g : Option Nat) (cap : Nat) (l : List KR) : Prop where
  row : RowAt w 60 1 g l.length cap (l.map KR.v)
  keys : ∀ k ∈ l, k.At w ∧ g ≠ some k.b
def rowsBl (g : Option Nat) (l : List KR) : List Nat := g.toList ++ l.map KR.b
theorem mem_g {g : Option Nat} {l : List KR} {b : Nat} (h : g = some b) : b ∈ rowsBl g l := by simp [rowsBl, h]
theorem mem_k {g : Option Nat} {l : List KR} {k : KR} (h : k ∈ l) : k.b ∈ rowsBl g l := by
  unfold rowsBl
  exact List.mem_append_right _ (List.mem_map_of_mem h)
theorem rowsBl_cases {g : Option Nat} {l : List KR} {b : Nat} (h : b ∈ rowsBl g l) : g = some b ∨ ∃ k ∈ l, k.b = b := by
  unfold rowsBl at h
  rcases List.mem_append.1 h with h | h
  · exact Or.inl (by simpa using h)
  · exact Or.inr (by simpa using h)
theorem Rows.nil (w : World) : Rows w none 0 [] := ⟨⟨rfl, Nat.le_refl _, by unfold maxLen; omega, rfl⟩, fun k hk => absurd hk (by simp)⟩
theorem Rows.lt {w : World} {g : Option Nat} {cap : Nat} {l : List KR} (h : Rows w g cap l) : ∀ b ∈ rowsBl g l, b < w.heap.size := fun b hb => by
  rcases rowsBl_cases hb with hb | ⟨k, hk, rfl⟩
  · have := h.row.2.2.2
    rw [hb] at this
    obtain ⟨_, hB, _⟩ := this
    exact hB.lt
  · exact (h.keys k hk).1.lt
theorem Rows.touch {S : List Nat} {w w' : World} {g : Option Nat} {cap : Nat} {l : List KR} (h : Rows w g cap l) (ht : Touch S w w') (hS : ∀ b ∈ rowsBl g l, b ∉ S) : Rows w' g cap l :=
  ⟨h.row.touch ht (fun b hb => hS b (mem_g hb)), fun k hk => ⟨(h.keys k hk).1.touch ht (hS _ (mem_k hk)), (h.keys k hk).2⟩⟩
theorem Rows.still {w w' : World} {g : Option Nat} {cap : Nat} {l : List KR} (h : Rows w g cap l) (ht : Touch [] w w') : Rows w' g cap l := h.touch ht (by simp)
theorem Rows.cell {w : World} {g : Option Nat} {cap : Nat} {l : List KR} (h : Rows w g cap l) {j : Nat} {k : KR} (hj : l[j]? = some k) : ∃ b, g = some b ∧ w.cell? ⟨b, j, none⟩ = some k.v := by
  have hlt := (List.getElem?_eq_some_iff.1 hj).1
  have h4 := h.row.2.2.2
  cases g with
  | none => have := h.row.2.1; have h4 : cap = 0 := h4; omega
  | some b =>
    obtain ⟨rest, hB, _⟩ := h4
    refine ⟨b, rfl, hB.cell ?_⟩
    rw [List.getElem?_append_left (by simpa using hlt), List.getElem?_map, hj]
    rfl
/-- Appending one. -/
theorem Rows.push {w : World} {g : Option Nat} {cap : Nat} {l : List KR} (h : Rows w g cap l) (k : KR) (hk : k.At w) (hg : g ≠ some k.b) (hl : l.length ≤ 1000) :
    ∃ g' cap' w', (Builtin.append_ #[55, 55] 55 #[slV g l.length cap, .slice (some ⟨w.heap.size, 0, none⟩) 1 1]).run Try.prog (w.alloc (.cells #[k.v] 60)) = .ok (slV g' (l.length + 1) cap') w' ∧ Rows w' g' cap' (l ++ [k]) ∧ Touch g.toList w w' ∧
      (g' = g ∨ ∃ b, g' = some b ∧ w.heap.size ≤ b) := by
  obtain ⟨i, hi0, hz, hs, hb⟩ := info_of infoB
  have hN := Blk.newA w #[k.v] _ 60 rfl
  have hta : Touch [] w (w.alloc (.cells #[k.v] 60)) := (Touch.refl _ w).alloc _
  have hL := h.still hta
  obtain ⟨g', cap', w', hr, h2, h3, h4, h5⟩ := run_append_row (P := Try.prog) (w.alloc (.cells #[k.v] 60)) 55 55 60 i (.slice none 0 0) 1 Try.underlying55 hi0 hz hs rfl (by omega) g l.length cap _ hL.row ⟨w.heap.size, 0, none⟩ 1 1 [k.v] rfl
    (fun j u hj => by
      rw [Addr.add_lit]
      have : j = 0 := by have := (List.getElem?_eq_some_iff.1 hj).1; simp at this; exact this
      subst this
      exact hN.cell hj) (fun u hu => by
      simp only [List.mem_singleton] at hu
      subst hu
      rfl) (by rw [hb]; omega) (by omega)
  have hkeys : ∀ x ∈ l ++ [k], x.At w ∧ g ≠ some x.b := by
    intro x hx
    rcases List.mem_append.1 hx with hx | hx
    · exact h.keys x hx
    · simp only [List.mem_singleton] at hx
      subst hx
      exact ⟨hk, hg⟩
  refine ⟨g', cap', w', hr, ⟨by simpa using h2, fun x hx => ?_⟩, hta.nil.trans h3 (fun y hy => Or.inl hy), ?_⟩
  · obtain ⟨a1, a3⟩ := hkeys x hx
    refine ⟨(a1.touch hta (by simp)).touch h3 (fun hy => a3 (by simpa using hy)), ?_⟩
    rcases h4 with rfl | rfl
    · exact a3
    · intro e
      injection e with e
      have := a1.lt
      rw [World.size_alloc] at e
      omega
  · rcases h4 with rfl | rfl
    · exact Or.inl rfl
    · exact Or.inr ⟨_, rfl, by rw [World.size_alloc]; omega⟩
/-- A copy of bytes: append of them to an empty row. -/
theorem copy_run {w : World} {k : KR} (h : k.At w) :
    ∃ k' w', (Builtin.append_ #[60, 60] 60 #[.slice (some ⟨w.heap.size, 0, none⟩) 0 0, k.v]).run Try.prog (w.alloc (.cells #[] 5)) = .ok (KR.v k') w' ∧ k'.At w' ∧ k'.bs = k.bs ∧ Touch [] w w' ∧ w.heap.size ≤ k'.b := by
  obtain ⟨i, hi0, hz, hs, hb⟩ := info_of info5
  have hE := Blk.newA w #[] [] 5 rfl
  have hta : Touch [] w (w.alloc (.cells #[] 5)) := (Touch.refl _ w).alloc _
  have hrow : RowAt (w.alloc (.cells #[] 5)) 5 1 (some w.heap.size) 0 0 [] := ⟨rfl, Nat.le_refl _, by unfold maxLen; omega, [], by simpa using hE, by simp⟩
  have h' := h.touch hta (by simp)
  have h64 := h.2.2.1
  have h1 := h.2.2.2.1
  obtain ⟨g', cap', w', hr, q2, q3, q4, _⟩ := run_append_row (P := Try.prog) (w.alloc (.cells #[] 5)) 60 60 5 i (.int .u8 0) 1 Try.underlying60 hi0 hz hs rfl (by omega) (some w.heap.size) 0 0 [] hrow ⟨k.b, 0, none⟩ k.bs.length k.cap (k.bs.map (Value.int .u8)) (by simp)
    (fun j v hj => by
      rw [Addr.add_lit]
      have hjl : j < k.bs.length := by have := (List.getElem?_eq_some_iff.1 hj).1; simpa using this
      have := h'.cell j hjl
      rw [List.getElem?_map, List.getElem?_eq_getElem hjl] at hj
      rw [List.getD_eq_getElem?_getD, List.getElem?_eq_getElem hjl] at this
      simp only [Nat.zero_add]
      rw [this]
      exact hj)
    (fun u hu => by
      obtain ⟨x, _, rfl⟩ := List.mem_map.1 hu
      rfl) (by rw [hb]; omega) (by omega)
  simp only [Nat.zero_add, List.nil_append] at hr q2
  obtain ⟨hn1, hn2, hn3, hn4⟩ := q2
  cases g' with
  | none => have hn4 : cap' = 0 := hn4; omega
  | some b =>
    obtain ⟨rest, hB, _⟩ := hn4
    refine ⟨⟨b, cap', k.bs⟩, w', hr, ⟨⟨rest, hB⟩, h.2.1, h64, h1, hn2⟩, rfl, hta.trans q3 (fun y hy => Or.inr (by simp at hy; omega)), ?_⟩
    rcases q4 with q4 | q4
    · injection q4 with q4
      show w.heap.size ≤ b
      omega
    · injection q4 with q4
      show w.heap.size ≤ b
      rw [q4, World.size_alloc]
      omega
set_option maxHeartbeats 1000000 in
set_option maxRecDepth 100000 in
theorem gclone_any {w : World} {k : KR} (h : k.At w) :
    Calls Try.prog 41 #[k.v] w fun e w' => ∃ k', e = .returned (KR.v k') ∧ k'.At w' ∧ k'.bs = k.bs ∧ Touch [] w w' ∧ w.heap.size ≤ k'.b := by
  have heq : ∀ (a : Option Addr) (n c : Nat) (w : World), (binOp .eql 60 (.slice a n c) (.slice none 0 0)).run Try.prog w = .ok (.bool a.isNone) w := fun a n c w => Lib.run_eql_slice_nil w 60 5 a n c 0 0 Try.underlying60
  obtain ⟨k', w', hr, h1⟩ := copy_run h
  have HR := toHid hr
  have HF := toHid h1
  clear h h1 hr
  unfold KR.v at *
  go_enter Try.func41, Try.ntmps41
  go_wp2_with (first | (at_builtin; refine Lib.wpList_append_run _ rfl _ _ _ _ rfl _ _ rfl rfl _ _ HR.out ?_))
  go_ret
  exact ⟨k', rfl, HF.out⟩
end Go.Proofs.Ytkfmhabplcikiaa.Ring
