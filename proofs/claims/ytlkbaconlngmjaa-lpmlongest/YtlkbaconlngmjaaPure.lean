/-
  The document's index as a pure thing: what each call answers, what it leaves.
-/
import Derived.Test.YtlkbaconlngmjaaRef4
namespace Go.Proofs.Ytlkbaconlngmjaa
open Go.RowKit

/-- The index, wherever it lies. -/
structure PX where
  kind : Int
  size : Int
  max : Int
  clock : Int
  slots : List (Option (List Int))
  whens : List Int
def RX.p (x : RX) : PX := ⟨x.kind, x.size, x.max, x.clock, x.slots.map (Option.map KS.bs), x.whens⟩
def idxI : Option Nat → Int
  | some i => i
  | none => -1
theorem idxI_lt {o : Option Nat} : idxI o < 0 ↔ o = none := by
  cases o with
  | none => simp [idxI]
  | some i => simp [idxI]
/-- The slot of just that key. -/
def sameP (l : List (Option (List Int))) (bs : List Int) : Option Nat := l.findIdx? fun s => s == some bs
theorem sameI_eq (l : List (Option KS)) (bs : List Int) : sameI l bs = idxI (sameP (l.map (Option.map KS.bs)) bs) := by
  unfold sameI sameN sameP
  rw [List.findIdx?_map]
  have he : ((fun s => s == some bs) ∘ Option.map KS.bs) = fun s : Option KS => s.map KS.bs == some bs := rfl
  rw [he]
  cases List.findIdx? _ l <;> rfl
/-- The least slot that is free. -/
def freeP (l : List (Option (List Int))) : Option Nat := l.findIdx? Option.isNone
/-- The slot that was touched longest ago. -/
def oldFrom (ws : List Int) : Nat → Nat → Nat
  | 0, a => a
  | n + 1, a => oldFrom ws n (if ws.getD (ws.length - (n + 1)) 0 < ws.getD a 0 then ws.length - (n + 1) else a)
theorem oldFrom_succ (ws : List Int) (q a : Nat) : oldFrom ws (q + 1) a = oldFrom ws q (if ws.getD (ws.length - (q + 1)) 0 < ws.getD a 0 then ws.length - (q + 1) else a) := rfl
def oldP (ws : List Int) : Nat := oldFrom ws ws.length 0
def PX.touch (x : PX) (a : Option Nat) : PX := { x with clock := x.clock + 1, whens := match a with
  | some i => x.whens.set i (x.clock + 1)
  | none => x.whens }
def PX.find (x : PX) (bs : List Int) : Option Nat × PX :=
  if (bs.length : Int) = x.size then (sameP x.slots bs, x.touch (sameP x.slots bs)) else (none, x)
/-- The slot of a new key. -/
def PX.room (x : PX) : Option Nat := match freeP x.slots with
  | some f => some f
  | none => if x.kind = 2 then some (oldP x.whens) else none
def PX.laid (x : PX) (at_ : Nat) (bs : List Int) : PX := ({ x with slots := x.slots.set at_ (some bs) } : PX).touch (some at_)
/-- Put, of all kinds but prefixes: the slot, whether it is a new one, the error; what is left. -/
def PX.put (x : PX) (bs : List Int) (fl : Int) : (Int × Bool × Int) × PX :=
  if (bs.length : Int) = x.size then
    if 2 < fl then ((0, false, 72), x)
    else match sameP x.slots bs with
      | some i => if fl = 1 then ((0, false, 70), x) else (((i : Int), false, 0), x.touch (some i))
      | none => if x.kind = 0 then ((0, false, 71), x) else if fl = 2 then ((0, false, 14), x) else match x.room with
        | some f => (((f : Int), true, 0), x.laid f bs)
        | none => ((0, false, 71), x)
  else ((0, false, 2), x)
/-- Del, of all kinds but prefixes. -/
def PX.del (x : PX) (bs : List Int) : (Int × Int) × PX :=
  if x.kind = 0 then ((0, 2), x) else if (bs.length : Int) = x.size then match sameP x.slots bs with
    | some i => (((i : Int), 0), { x with slots := x.slots.set i none })
    | none => ((0, 14), x)
  else ((0, 2), x)
def PX.keys (x : PX) : List (List Int) := x.slots.filterMap id
theorem keysOf_p (x : RX) : keysOf x.slots = x.p.keys := by
  unfold keysOf PX.keys RX.p
  rw [List.filterMap_map]
  rfl
theorem p_touched (x : RX) (a : Option Nat) : (x.touched (idxI a)).p = x.p.touch a := by
  cases a with
  | none => rfl
  | some i =>
    unfold RX.touched RX.p PX.touch idxI
    simp
theorem sameP_lt {l : List (Option (List Int))} {bs : List Int} {i : Nat} (h : sameP l bs = some i) : i < l.length := by
  unfold sameP at h
  rw [List.findIdx?_eq_some_iff_getElem] at h
  exact h.1
theorem freeP_lt {l : List (Option (List Int))} {i : Nat} (h : freeP l = some i) : i < l.length := by
  unfold freeP at h
  rw [List.findIdx?_eq_some_iff_getElem] at h
  exact h.1

/-- A step of the document's index: what it answers, where its parts lie behind it. -/
structure Step (w w' : World) (x x' : RX) (q : PX) : Prop where
  at_ : RAt w' x'
  p : x'.p = q
  r : x'.r = x.r
  touch : Touch x.top w w'
  blocks : ∀ b ∈ x'.blocks, b ∈ x.blocks ∨ w.heap.size ≤ b
  lens : x'.whens.length = x.whens.length
  slots : x'.slots.length = x.slots.length

/-- The free slot that is found from behind. -/
theorem free_step {l : List (Option (List Int))} {k : Nat} (hk : k < l.length) {a : Int} (ha : a = idxI ((freeP (l.drop (k + 1))).map (· + (k + 1)))) : (if l.getD k none = none then (k : Int) else a) = idxI ((freeP (l.drop k)).map (· + k)) := by
  rw [List.drop_eq_getElem_cons hk, List.getD_eq_getElem?_getD, List.getElem?_eq_getElem hk]
  unfold freeP at *
  rw [List.findIdx?_cons]
  cases hc : l[k] with
  | none => simp [idxI]
  | some s =>
    simp only [Option.getD_some, reduceCtorEq, ↓reduceIte, Option.isNone_some, Bool.false_eq_true]
    rw [ha]
    cases List.findIdx? Option.isNone (l.drop (k + 1)) with
    | none => rfl
    | some i => simp only [Option.map_some, idxI]; omega

/-- Bytes that lie somewhere, as a key of their own. -/
theorem keyat_append2 {w : World} {sa : Option Addr} {sl : Nat} {bs : List Int} (h : KeyAt w sa sl bs) (h1 : 1 ≤ bs.length) (h2 : bs.length ≤ 16) (kc : Nat) :
    ∃ g cap w', (Builtin.append_ #[32, 32] 32 #[.slice (some ⟨w.heap.size, 0, none⟩) 0 0, .slice sa sl kc]).run Try.prog (w.alloc (.cells #[] 5)) = .ok (.slice (some ⟨g, 0, none⟩) sl cap) w' ∧ (⟨g, cap, bs⟩ : KS).At w' ∧ Touch [] w w' ∧ w.heap.size ≤ g ∧ RowAt w' 5 1 (some g) bs.length cap (bs.map (Value.int .u8)) := by
  obtain ⟨i, hi0, hz, hs, hb⟩ := info_of info5
  have hE := Blk.newA w #[] [] 5 rfl
  have hta : Touch [] w (w.alloc (.cells #[] 5)) := (Touch.refl _ w).alloc _
  have hrow : RowAt (w.alloc (.cells #[] 5)) 5 1 (some w.heap.size) 0 0 [] := ⟨rfl, Nat.le_refl _, by unfold maxLen; omega, [], by simpa using hE, by simp⟩
  obtain ⟨e1, e2, e3, e4⟩ := h
  subst e1
  obtain ⟨b, off, rfl, hcell⟩ := e4 h1
  obtain ⟨g', cap', w', hr, q2, q3, q4, _⟩ := run_append_row (P := Try.prog) (w.alloc (.cells #[] 5)) 32 32 5 i (.int .u8 0) 1 Try.underlying32 hi0 hz hs rfl (by omega) (some w.heap.size) 0 0 [] hrow ⟨b, off, none⟩ bs.length kc (bs.map (Value.int .u8)) (by simp)
    (fun j v hj => by
      rw [Addr.add_lit]
      have hjl : j < bs.length := by have := (List.getElem?_eq_some_iff.1 hj).1; simpa using this
      have := hta.cell (hcell j hjl) (by simp)
      rw [List.getElem?_map, List.getElem?_eq_getElem hjl] at hj
      rw [List.getD_eq_getElem?_getD, List.getElem?_eq_getElem hjl] at this
      rw [this]
      exact hj)
    (fun u hu => by
      obtain ⟨x, _, rfl⟩ := List.mem_map.1 hu
      rfl) (by rw [hb]; omega) (by omega)
  simp only [Nat.zero_add, List.nil_append] at hr q2
  cases g' with
  | none =>
    have q1 := q2.2.1
    have q2 : cap' = 0 := q2.2.2.2
    omega
  | some g =>
    have hrw := q2
    obtain ⟨_, hcp, _, rest, hB, _⟩ := q2
    refine ⟨g, cap', w', hr, ⟨⟨rest, hB.toF⟩, e2, h2, h1, hcp⟩, hta.trans q3 (fun y hy => Or.inr (by simp at hy; omega)), ?_, hrw⟩
    rcases q4 with q4 | q4
    · injection q4 with q4; omega
    · injection q4 with q4
      rw [q4, World.size_alloc]
      omega
theorem keyat_append {w : World} {sa : Option Addr} {sl : Nat} {bs : List Int} (h : KeyAt w sa sl bs) (h1 : 1 ≤ bs.length) (h2 : bs.length ≤ 16) (kc : Nat) :
    ∃ g cap w', (Builtin.append_ #[32, 32] 32 #[.slice (some ⟨w.heap.size, 0, none⟩) 0 0, .slice sa sl kc]).run Try.prog (w.alloc (.cells #[] 5)) = .ok (.slice (some ⟨g, 0, none⟩) sl cap) w' ∧ (⟨g, cap, bs⟩ : KS).At w' ∧ Touch [] w w' ∧ w.heap.size ≤ g := by
  obtain ⟨g, cap, w', a1, a2, a3, a4, _⟩ := keyat_append2 h h1 h2 kc
  exact ⟨g, cap, w', a1, a2, a3, a4⟩
/-- A key laid into a slot. -/
theorem RAt.laid {w w1 : World} {x : RX} (h : RAt w x) {gb j : Nat} (hg : x.g = some gb) (hj : j < x.slots.length) {k : KS} (hA : k.At w1) (ht : Touch [] w w1) (hk : w.heap.size ≤ k.b) :
    RAt (w1.setCell ⟨gb, j, none⟩ k.v) { x with slots := x.slots.set j (some k) } ∧ Touch x.top w (w1.setCell ⟨gb, j, none⟩ k.v) ∧ ∀ b ∈ ({ x with slots := x.slots.set j (some k) } : RX).blocks, b ∈ x.blocks ∨ w.heap.size ≤ b := by
  refine ⟨(h.touch ht (by simp)).placed hg hj (some k) (fun y hy => ?_), (Touch.nil ht).setCell _ _ (Or.inl (RX.mem_g hg)), fun b hb => ?_⟩
  · injection hy with hy
    subst hy
    refine ⟨hA, fun hx => ?_⟩
    have := h.lt _ (RX.mem_top hx)
    omega
  · rcases List.mem_append.1 hb with hb | hb
    · exact Or.inl (List.mem_append_left _ hb)
    · obtain ⟨a, ha, hab⟩ := List.mem_filterMap.1 hb
      rcases List.mem_or_eq_of_mem_set ha with ha | ha
      · exact Or.inl (List.mem_append_right _ (List.mem_filterMap.2 ⟨a, ha, hab⟩))
      · subst ha
        injection hab with hab
        subst hab
        exact Or.inr hk
end Go.Proofs.Ytlkbaconlngmjaa
