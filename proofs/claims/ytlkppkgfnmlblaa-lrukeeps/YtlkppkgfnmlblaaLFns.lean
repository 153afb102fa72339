/-
  Package lru: an index in memory; bySlot, take, touch.
-/
import Derived.Test.YtlkppkgfnmlblaaLRow
import Derived.Test.YtlkppkgfnmlblaaFns2
namespace Go.Proofs.Ytlkppkgfnmlblaa
open Go.RowKit Go.Maps

/-- An index, in memory. -/
structure LX where
  X : Nat
  b : Nat
  size : Nat
  l : List (Option (List Int))
  g : Option Nat
  cap : Nat
  ord : List Nat
def LX.own (x : LX) : List Nat := x.X :: x.b :: x.g.toList
theorem LX.mem_g {x : LX} {b : Nat} (h : x.g = some b) : b ∈ x.own := by simp [LX.own, h]
theorem LX.mem_X (x : LX) : x.X ∈ x.own := by simp [LX.own]
theorem LX.mem_b (x : LX) : x.b ∈ x.own := by simp [LX.own]
structure LAt (w : World) (x : LX) : Prop where
  self : Blk w x.X [.int .i64 (x.size : Int), .int .i64 (x.l.length : Int), .map (some x.b), slV x.g x.ord.length x.cap] 60
  map : HM w x.b x.size x.l
  row : OrdAt w x.g x.cap x.ord
  m1 : 1 ≤ x.l.length
  few : x.ord.length ≤ 64
  apart : x.own.Nodup
theorem LAt.touch {S : List Nat} {w w' : World} {x : LX} (h : LAt w x) (ht : Touch S w w') (hS : ∀ y ∈ x.own, y ∉ S) : LAt w' x :=
  ⟨ht.blk h.self (hS _ x.mem_X), h.map.touch ht (hS _ x.mem_b), h.row.touch ht (fun _b hb => hS _ (LX.mem_g hb)), h.m1, h.few, h.apart⟩
theorem LAt.still {w w' : World} {x : LX} (h : LAt w x) (ht : Touch [] w w') : LAt w' x := h.touch ht (by simp)
theorem LAt.c0 {w : World} {x : LX} (h : LAt w x) : w.cell? ⟨x.X, 0, none⟩ = some (.int .i64 (x.size : Int)) := h.self.cell rfl
theorem LAt.c1 {w : World} {x : LX} (h : LAt w x) : w.cell? ⟨x.X, 1, none⟩ = some (.int .i64 (x.l.length : Int)) := h.self.cell rfl
theorem LAt.c2 {w : World} {x : LX} (h : LAt w x) : w.cell? ⟨x.X, 2, none⟩ = some (.map (some x.b)) := h.self.cell rfl
theorem LAt.c3 {w : World} {x : LX} (h : LAt w x) : w.cell? ⟨x.X, 3, none⟩ = some (slV x.g x.ord.length x.cap) := h.self.cell rfl
theorem LAt.lt {w : World} {x : LX} (h : LAt w x) : ∀ y ∈ x.own, y < w.heap.size := by
  intro y hy
  simp only [LX.own, List.mem_cons, Option.mem_toList] at hy
  rcases hy with rfl | rfl | hy
  · exact h.self.lt
  · exact h.map.lt
  · have := h.row
    rw [hy] at this
    exact this.lt
theorem LAt.Xb {w : World} {x : LX} (h : LAt w x) : x.X ≠ x.b := fun e => by
  have := h.apart
  simp [LX.own, e] at this
theorem LAt.Xg {w : World} {x : LX} (h : LAt w x) {c : Nat} (hc : x.g = some c) : x.X ≠ c ∧ x.b ≠ c := by
  have := h.apart
  simp [LX.own, hc] at this
  exact ⟨this.1.2, this.2⟩

/-- A world in which the row of slots is turned. -/
theorem LAt.turned {w w' : World} {x : LX} (h : LAt w x) (g : Option Nat) (cap : Nat) (ord : List Nat) (ho : OrdAt w' g cap ord) (hf : ord.length ≤ 64) (ht : Touch x.g.toList w w') (hg : ∀ b, g = some b → b ∈ x.g.toList ∨ w.heap.size ≤ b) :
    LAt (w'.setCell ⟨x.X, 3, none⟩ (slV g ord.length cap)) { x with g := g, cap := cap, ord := ord } ∧ Touch (x.X :: x.g.toList) w (w'.setCell ⟨x.X, 3, none⟩ (slV g ord.length cap)) := by
  have hXg : x.X ∉ x.g.toList := fun hx => (h.Xg (by simpa using hx)).1 rfl
  have hbg : x.b ∉ x.g.toList := fun hx => (h.Xg (by simpa using hx)).2 rfl
  have hX := (ht.blk h.self hXg).setCell 3 (slV g ord.length cap)
  have htX : Touch [x.X] w' (w'.setCell ⟨x.X, 3, none⟩ (slV g ord.length cap)) := (Touch.refl _ w').setCell _ _ (Or.inl (by simp))
  have hgl : ∀ b, g = some b → x.X ≠ b ∧ x.b ≠ b := fun b hb => by
    rcases hg b hb with h1 | h1
    · exact h.Xg (by simpa using h1)
    · have h2 := h.lt _ x.mem_X
      have h3 := h.lt _ x.mem_b
      omega
  refine ⟨⟨hX, (h.map.touch ht hbg).touch htX (by simpa using h.Xb.symm), ho.touch htX (fun b hb => by simpa using (hgl b hb).1.symm), h.m1, hf, ?_⟩, (ht.mono (fun y hy => Or.inl (by simp [Option.mem_toList.1 hy]))).trans (htX.mono (S' := x.X :: x.g.toList) (fun y hy => Or.inl (by simp at hy; simp [hy]))) (fun y hy => Or.inl hy)⟩
  have := h.Xb
  show (x.X :: x.b :: g.toList).Nodup
  cases g with
  | none => simp [this]
  | some c =>
    have := hgl c rfl
    simp [*]

def TakePost (w : World) (x : LX) (ord : List Nat) (e : Ending) (w' : World) : Prop := e = .returned (.tuple #[]) ∧ LAt w' { x with ord := ord } ∧ Touch (x.X :: x.g.toList) w w'
set_option maxHeartbeats 2000000 in
set_option maxRecDepth 100000 in
theorem take_any {w : World} {x : LX} (h : LAt w x) (s : Nat) :
    Calls Try.prog 32 #[.pointer (some ⟨x.X, 0, none⟩), .int .i64 (s : Int)] w (TakePost w x (x.ord.filter (fun y => y != s))) := by
  have hmf : ∀ (fn : Fn) (first cap : Array Value) (w : World), (Instr.makeFunc fn first cap).run Try.prog w = .ok (.func fn first cap) w := fun _ _ _ _ => rfl
  have hta := (Touch.refl [] w).alloc (.cells #[.int .i64 (s : Int)] 3)
  have hA := h.still hta
  have hB := Blk.newA w #[.int .i64 (s : Int)] _ 3 rfl
  have c3 := hA.c3
  have H1 := toHid (deleteFunc_any hA.row (hB.cell (i := 0) rfl) (fun b hb e => by have := h.lt _ (LX.mem_g hb); omega) (by have := h.few; omega))
  have HH := toHid (And.intro h hta)
  have hlen : (x.ord.filter (fun y => y != s)).length ≤ 64 := Nat.le_trans (List.length_filter_le _ _) h.few
  have HL := toHid hlen
  generalize hOO : x.ord.filter (fun y => y != s) = oo at *
  generalize hSV : slV x.g x.ord.length x.cap = sv at *
  clear h hA hB hta hlen hOO hSV
  go_enter Try.func32, Try.ntmps32
  go_wp2_with fail
  refine Calls.mono H1.out ?_
  rintro e w2 ⟨rfl, ho2, ht2⟩
  have hT := HH.out.1.turned x.g x.cap oo ho2 HL.out (HH.out.2.nil.trans ht2 (fun y hy => Or.inl hy)) (fun b hb => Or.inl (by simp [hb]))
  have hX2 := ht2.blk (HH.out.2.blk HH.out.1.self (by simp)) (fun hx => (HH.out.1.Xg (by simpa using hx)).1 rfl)
  have c3' := hX2.cell (i := 3) rfl
  have f3 := hX2.frozen 3
  have HF : Hid (TakePost w x oo (.returned (.tuple #[])) (w2.setCell ⟨x.X, 3, none⟩ (slV x.g oo.length x.cap))) := ⟨rfl, hT.1, hT.2⟩
  clear hT hX2 ho2 ht2 H1 c3
  generalize slV x.g x.ord.length x.cap = sv2 at *
  unfold slV at *
  generalize (x.g.map fun b => (⟨b, 0, none⟩ : Addr)) = sg at *
  go_wp2
  go_end0
  exact HF.out

/-- touch: no other was touched later. -/
def touchL (l : List Nat) (s : Nat) : List Nat := l.filter (fun y => y != s) ++ [s]
def LTouchPost (w : World) (x : LX) (ord : List Nat) (e : Ending) (w' : World) : Prop := e = .returned (.tuple #[]) ∧ ∃ g cap, LAt w' { x with g := g, cap := cap, ord := ord } ∧ Touch (x.X :: x.g.toList) w w' ∧ ∀ b, g = some b → b ∈ x.g.toList ∨ w.heap.size ≤ b
theorem ord_push {w : World} {g : Option Nat} {cap : Nat} {l : List Nat} (h : OrdAt w g cap l) (hl : l.length ≤ 1000) (s : Nat) :
    ∃ g' cap' w', (Builtin.append_ #[58, 58] 58 #[slV g l.length cap, .slice (some ⟨w.heap.size, 0, none⟩) 1 1]).run Try.prog (w.alloc (.cells #[.int .i64 (s : Int)] 3)) = .ok (slV g' (l.length + 1) cap') w' ∧ OrdAt w' g' cap' (l ++ [s]) ∧ Touch g.toList w w' ∧ ∀ b, g' = some b → b ∈ g.toList ∨ w.heap.size ≤ b := by
  obtain ⟨i, hi0, hz, hs, hb⟩ := info_of info3
  have hta := (Touch.refl [] w).alloc (.cells #[.int .i64 (s : Int)] 3)
  have hB := Blk.newA w #[.int .i64 (s : Int)] _ 3 rfl
  have hgl : ∀ b, g = some b → b < w.heap.size := fun b hb => by
    rw [hb] at h
    exact h.lt
  obtain ⟨g', cap', w', hr, h2, h3, h4, _⟩ := run_append_row (P := Try.prog) (w.alloc (.cells #[.int .i64 (s : Int)] 3)) 58 58 3 i (.int .i64 0) 1 Try.underlying58 hi0 hz hs rfl (by omega) g l.length cap (l.map natV) (h.touch hta (by simp)) ⟨w.heap.size, 0, none⟩ 1 1 [.int .i64 (s : Int)] (by simp)
    (fun j v hj => by
      rw [Addr.add_lit]
      have hjl := (List.getElem?_eq_some_iff.1 hj).1
      simp at hjl
      subst hjl
      simp only [List.getElem?_cons_zero, Option.some.injEq] at hj
      subst hj
      exact hB.cell rfl)
    (fun u hu => by
      simp at hu
      subst hu
      rfl) (by rw [hb]; omega) (by omega)
  refine ⟨g', cap', w', hr, ?_, hta.nil.trans h3 (fun y hy => Or.inl hy), fun b hb2 => ?_⟩
  · have e : (l ++ [s]).map natV = l.map natV ++ [.int .i64 (s : Int)] := by rw [List.map_append]; rfl
    show RowAt w' 3 1 g' (l ++ [s]).length cap' ((l ++ [s]).map natV)
    rw [e, List.length_append]
    exact h2
  · rcases h4 with h4 | h4
    · left
      rw [← h4, hb2]
      simp
    · right
      rw [h4] at hb2
      injection hb2 with hb2
      rw [← hb2, World.size_alloc]
      omega

set_option maxHeartbeats 2000000 in
set_option maxRecDepth 100000 in
theorem ltouch_any {w : World} {x : LX} (h : LAt w x) (s : Nat) (hf : (touchL x.ord s).length ≤ 64) :
    Calls Try.prog 30 #[.pointer (some ⟨x.X, 0, none⟩), .int .i64 (s : Int)] w (LTouchPost w x (touchL x.ord s)) := by
  have H1 := toHid (take_any h s)
  unfold touchL at *
  generalize x.ord.filter (fun y => y != s) = oo at *
  have HH := toHid (And.intro h hf)
  clear h hf
  go_enter Try.func30, Try.ntmps30
  go_wp2_with fail
  refine Calls.mono H1.out ?_
  rintro e w2 ⟨rfl, hA2, ht2⟩
  have hmm := hA2.few
  obtain ⟨g', cap', w3, hr, ho, ht3, hg3⟩ := ord_push hA2.row (Nat.le_trans hmm (by omega)) s
  have hXg : x.X ∉ x.g.toList := fun hx => (HH.out.1.Xg (by simpa using hx)).1 rfl
  have c3 := hA2.c3
  have hT := hA2.turned g' cap' (oo ++ [s]) ho HH.out.2 ht3 hg3
  have hX3 := ht3.blk hA2.self hXg
  have c3' := hX3.cell (i := 3) rfl
  have f3 := hX3.frozen 3
  have HF : Hid (LTouchPost w x (oo ++ [s]) (.returned (.tuple #[])) (w3.setCell ⟨x.X, 3, none⟩ (slV g' (oo.length + 1) cap'))) := by
    refine ⟨rfl, g', cap', ?_, ?_, fun b hb => ?_⟩
    · have := hT.1
      rw [List.length_append] at this
      exact this
    · have := ht2.trans hT.2 (fun y hy => Or.inl hy)
      rw [List.length_append] at this
      exact this
    · rcases hg3 b hb with h1 | h1
      · exact Or.inl h1
      · exact Or.inr (Nat.le_trans ht2.size h1)
  clear hT hX3 ho ht3 hg3 hA2 ht2 H1 hmm hXg
  simp only at c3 c3'
  unfold slV at *
  generalize (g'.map fun b => (⟨b, 0, none⟩ : Addr)) = sg at *
  generalize (x.g.map fun b => (⟨b, 0, none⟩ : Addr)) = sg0 at *
  have HR := toHid hr
  clear hr
  go_wp2_with (first | (at_builtin; refine Lib.wpList_append_run _ rfl _ _ _ _ rfl _ _ rfl rfl _ _ HR.out ?_))
  go_end0
  exact HF.out
end Go.Proofs.Ytlkppkgfnmlblaa
