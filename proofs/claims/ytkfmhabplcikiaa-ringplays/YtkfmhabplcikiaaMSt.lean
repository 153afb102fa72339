/-
  A memory's state as the walks of this seat speak of it: regions (Reg), where they lie (RegAt), the whole (MS, MemAt); and of newRegion what it makes.
-/
import Derived.Test.YtkfmhabplcikiaaMFns
namespace Go.Proofs.Ytkfmhabplcikiaa.Mem
open Go.RowKit

/-- A region: the blocks in which it lies (p: itself, bb: its bytes, sb: which are set, if it is fresh), and what it holds. -/
structure Reg where
  p : Nat
  id : Int
  base : Int
  perm : Int
  bb : Nat
  bytes : List Int
  sb : Option Nat
  set : List Bool

def Reg.zero : Reg := ⟨0, 0, 0, 0, 0, [], none, []⟩
def Reg.ptr (r : Reg) : Value := .pointer (some ⟨r.p, 0, none⟩)
def Reg.setV (r : Reg) : Value := match r.sb with
  | none => .slice none 0 0
  | some s => .slice (some ⟨s, 0, none⟩) r.bytes.length r.bytes.length
def Reg.cells (r : Reg) : List Value := [.int .i64 r.id, .int .u64 r.base, .int .i64 r.perm, .slice (some ⟨r.bb, 0, none⟩) r.bytes.length r.bytes.length, r.setV]
def Reg.blocks (r : Reg) : List Nat := r.p :: r.bb :: r.sb.toList

structure RegAt (w : World) (r : Reg) : Prop where
  self : Blk w r.p r.cells 75
  bytes : Blk w r.bb (r.bytes.map (Value.int .u8)) 5
  set : ∀ s, r.sb = some s → Blk w s (r.set.map Value.bool) 4

/-- What holds of every region that lives. -/
structure RegOk (r : Reg) : Prop where
  base0 : 0 ≤ r.base
  size1 : 1 ≤ r.bytes.length
  size2 : r.bytes.length ≤ 65536
  fits : r.base + r.bytes.length ≤ 18446744073709551616
  perm0 : 0 ≤ r.perm
  perm1 : r.perm ≤ 7
  plain : r.sb = none ↔ r.perm < 4
  setLen : ∀ s, r.sb = some s → r.set.length = r.bytes.length
  setNil : r.sb = none → r.set = []
  byte : ∀ x ∈ r.bytes, 0 ≤ x ∧ x ≤ 255
  own : r.blocks.Nodup

theorem Reg.mem_p (r : Reg) : r.p ∈ r.blocks := by simp [Reg.blocks]
theorem Reg.mem_bb (r : Reg) : r.bb ∈ r.blocks := by simp [Reg.blocks]
theorem Reg.mem_sb (r : Reg) {s : Nat} (h : r.sb = some s) : s ∈ r.blocks := by simp [Reg.blocks, h]

theorem RegAt.lt {w : World} {r : Reg} (h : RegAt w r) : ∀ x ∈ r.blocks, x < w.heap.size := by
  intro x hx
  simp only [Reg.blocks, List.mem_cons, Option.mem_toList] at hx
  rcases hx with rfl | rfl | hx
  · exact h.self.lt
  · exact h.bytes.lt
  · exact (h.set x hx).lt
theorem RegAt.touch {S : List Nat} {w w' : World} {r : Reg} (h : RegAt w r) (ht : Touch S w w') (hS : ∀ x ∈ r.blocks, x ∉ S) : RegAt w' r :=
  ⟨ht.blk h.self (hS _ r.mem_p), ht.blk h.bytes (hS _ r.mem_bb), fun s hs => ht.blk (h.set s hs) (hS _ (r.mem_sb hs))⟩
theorem RegAt.c0 {w : World} {r : Reg} (h : RegAt w r) : w.cell? ⟨r.p, 0, none⟩ = some (.int .i64 r.id) := h.self.cell rfl
theorem RegAt.c1 {w : World} {r : Reg} (h : RegAt w r) : w.cell? ⟨r.p, 1, none⟩ = some (.int .u64 r.base) := h.self.cell rfl
theorem RegAt.c2 {w : World} {r : Reg} (h : RegAt w r) : w.cell? ⟨r.p, 2, none⟩ = some (.int .i64 r.perm) := h.self.cell rfl
theorem RegAt.c3 {w : World} {r : Reg} (h : RegAt w r) : w.cell? ⟨r.p, 3, none⟩ = some (.slice (some ⟨r.bb, 0, none⟩) r.bytes.length r.bytes.length) := h.self.cell rfl
theorem RegAt.c4 {w : World} {r : Reg} (h : RegAt w r) : w.cell? ⟨r.p, 4, none⟩ = some r.setV := h.self.cell rfl

/-- A memory: its block m, its row's block g, that row's capacity, the regions by base, the next id. -/
structure MS where
  m : Nat
  g : Option Nat
  cap : Nat
  rs : List Reg
  next : Nat

def MS.blocks (s : MS) : List Nat := s.m :: s.g.toList ++ s.rs.flatMap Reg.blocks

structure MemAt (w : World) (s : MS) : Prop where
  self : Blk w s.m [slV s.g s.rs.length s.cap, .int .i64 s.next] 66
  row : RowAt w 70 1 s.g s.rs.length s.cap (s.rs.map Reg.ptr)
  regs : ∀ r ∈ s.rs, RegAt w r
  ok : ∀ r ∈ s.rs, RegOk r
  apart : s.blocks.Nodup
  sorted : s.rs.Pairwise (fun a b => a.base + (a.bytes.length : Int) ≤ b.base)
  ids : s.rs.Pairwise (fun a b => a.id ≠ b.id)
  idlt : ∀ r ∈ s.rs, 0 ≤ r.id ∧ r.id < s.next
  many : s.rs.length ≤ 4096

theorem MemAt.lt {w : World} {s : MS} (h : MemAt w s) : ∀ x ∈ s.blocks, x < w.heap.size := by
  intro x hx
  simp only [MS.blocks, List.cons_append, List.mem_cons, List.mem_append, Option.mem_toList, List.mem_flatMap] at hx
  rcases hx with rfl | hx | ⟨r, hr, hx⟩
  · exact h.self.lt
  · have := h.row.2.2.2
    rw [hx] at this
    obtain ⟨rest, hb, _⟩ := this
    exact hb.lt
  · exact (h.regs r hr).lt x hx
theorem MS.mem_m (s : MS) : s.m ∈ s.blocks := by simp [MS.blocks]
theorem MS.mem_g (s : MS) {b : Nat} (h : s.g = some b) : b ∈ s.blocks := by simp [MS.blocks, h]
theorem MS.mem_r (s : MS) {r : Reg} (h : r ∈ s.rs) {x : Nat} (hx : x ∈ r.blocks) : x ∈ s.blocks := by
  simp only [MS.blocks, List.cons_append, List.mem_cons, List.mem_append, List.mem_flatMap]
  exact Or.inr (Or.inr ⟨r, h, hx⟩)
theorem MemAt.touch {S : List Nat} {w w' : World} {s : MS} (h : MemAt w s) (ht : Touch S w w') (hS : ∀ x ∈ s.blocks, x ∉ S) : MemAt w' s where
  self := ht.blk h.self (hS _ s.mem_m)
  row := h.row.touch ht (fun _b hb => hS _ (s.mem_g hb))
  regs := fun r hr => (h.regs r hr).touch ht (fun _x hx => hS _ (s.mem_r hr hx))
  ok := h.ok
  apart := h.apart
  sorted := h.sorted
  ids := h.ids
  idlt := h.idlt
  many := h.many

theorem newRegion_any (id b p : Int) (n : Nat) (w : World) (hn1 : 1 ≤ n) (hn : n ≤ 65536) (hp0 : 0 ≤ p) (hp1 : p ≤ 7) (hb0 : 0 ≤ b) (hb1 : b + n ≤ 18446744073709551616) :
    Calls Try.prog 28 #[.int .i64 id, .int .u64 b, .int .i64 n, .int .i64 p] w fun e w' => ∃ r : Reg, e = .returned r.ptr ∧ RegAt w' r ∧ RegOk r ∧ r.id = id ∧ r.base = b ∧ r.perm = p ∧ r.bytes = List.replicate n 0 ∧
      r.set = (if p < 4 then [] else List.replicate n false) ∧ Touch [] w w' ∧ ∀ x ∈ r.blocks, w.heap.size ≤ x := by
  by_cases hp : p < 4
  · refine (newRegion_plain id b p n w hn hp0 hp).mono ?_
    rintro e w' ⟨rfl, rfl⟩
    refine ⟨⟨w.heap.size + 1, id, b, p, w.heap.size, List.replicate n 0, none, []⟩, rfl, ⟨?_, ?_, ?_⟩, ⟨hb0, by simpa using hn1, by simpa using hn, by simpa using hb1, hp0, hp1, by simpa using hp, ?_, ?_, ?_, ?_⟩, rfl, rfl, rfl, rfl, ?_, ?_, ?_⟩
    · have := Blk.newA (w.alloc (.cells (List.replicate n (Value.int .u8 0)).toArray 5)) #[.int .i64 id, .int .u64 b, .int .i64 p, .slice (some ⟨w.heap.size, 0, none⟩) n n, .slice none 0 0] _ 75 rfl
      simpa [Reg.cells, Reg.setV] using this
    · have := (Blk.new w (List.replicate n (Value.int .u8 0)) 5).alloc (.cells #[.int .i64 id, .int .u64 b, .int .i64 p, .slice (some ⟨w.heap.size, 0, none⟩) n n, .slice none 0 0] 75)
      simpa using this
    · intro s hs; cases hs
    · intro s hs; cases hs
    · intro _; rfl
    · intro x hx; simp at hx; omega
    · simp [Reg.blocks]
    · simp [hp]
    · exact ((Touch.refl _ w).alloc _).alloc _
    · intro x hx; simp [Reg.blocks] at hx; omega
  · refine (newRegion_fresh id b p n w hn (by omega) hp1).mono ?_
    rintro e w' ⟨rfl, rfl⟩
    refine ⟨⟨w.heap.size + 1, id, b, p, w.heap.size, List.replicate n 0, some (w.heap.size + 1 + 1), List.replicate n false⟩, rfl, ⟨?_, ?_, ?_⟩, ⟨hb0, by simpa using hn1, by simpa using hn, by simpa using hb1, hp0, hp1, by simp; omega, ?_, ?_, ?_, ?_⟩, rfl, rfl, rfl, rfl, ?_, ?_, ?_⟩
    · have := (Blk.newA (w.alloc (.cells (List.replicate n (Value.int .u8 0)).toArray 5)) #[.int .i64 id, .int .u64 b, .int .i64 p, .slice (some ⟨w.heap.size, 0, none⟩) n n, .slice (some ⟨w.heap.size + 1 + 1, 0, none⟩) n n] _ 75 rfl).alloc (.cells (List.replicate n (Value.bool false)).toArray 4)
      simpa [Reg.cells, Reg.setV] using this
    · have := ((Blk.new w (List.replicate n (Value.int .u8 0)) 5).alloc (.cells #[.int .i64 id, .int .u64 b, .int .i64 p, .slice (some ⟨w.heap.size, 0, none⟩) n n, .slice (some ⟨w.heap.size + 1 + 1, 0, none⟩) n n] 75)).alloc (.cells (List.replicate n (Value.bool false)).toArray 4)
      simpa using this
    · intro s hs
      injection hs with hs
      subst hs
      have := Blk.new ((w.alloc (.cells (List.replicate n (Value.int .u8 0)).toArray 5)).alloc (.cells #[.int .i64 id, .int .u64 b, .int .i64 p, .slice (some ⟨w.heap.size, 0, none⟩) n n, .slice (some ⟨w.heap.size + 1 + 1, 0, none⟩) n n] 75)) (List.replicate n (Value.bool false)) 4
      simpa using this
    · intro s hs; simp
    · intro hs; cases hs
    · intro x hx; simp at hx; omega
    · simp [Reg.blocks]; omega
    · simp [hp]
    · exact (((Touch.refl _ w).alloc _).alloc _).alloc _
    · intro x hx; simp [Reg.blocks] at hx; omega
end Go.Proofs.Ytkfmhabplcikiaa.Mem
