/-
  A list of instructions in memory; the calls that take one.
-/
import Derived.Test.YtpoliblfgioocaaBeg
namespace Go.Proofs.Ytpoliblfgioocaa
open Go.RowKit

structure InAt (w : World) (b p : Nat) (i : In) : Prop where
  c0 : w.cell? ⟨b, p, none⟩ = some (.int .u8 i.op)
  c1 : w.cell? ⟨b, p + 1, none⟩ = some (.int .u8 i.dst)
  c2 : w.cell? ⟨b, p + 2, none⟩ = some (.int .u8 i.src)
  c3 : w.cell? ⟨b, p + 3, none⟩ = some (.int .i16 i.off)
  c4 : w.cell? ⟨b, p + 4, none⟩ = some (.int .i32 i.imm)
theorem InAt.touch {S : List Nat} {w w' : World} {b p : Nat} {i : In} (h : InAt w b p i) (ht : Touch S w w') (hb : b ∉ S) : InAt w' b p i :=
  ⟨ht.cell h.c0 hb, ht.cell h.c1 hb, ht.cell h.c2 hb, ht.cell h.c3 hb, ht.cell h.c4 hb⟩
structure Slots (w : World) (b off n : Nat) (f : Nat → In) : Prop where
  lt : b < w.heap.size
  ok : ∀ j, j < n → (f j).Ok
  at_ : ∀ j, j < n → InAt w b (off + j * 5) (f j)
theorem Slots.touch {S : List Nat} {w w' : World} {b off n : Nat} {f : Nat → In} (h : Slots w b off n f) (ht : Touch S w w') (hb : b ∉ S) : Slots w' b off n f :=
  ⟨Nat.lt_of_lt_of_le h.lt ht.size, h.ok, fun j hj => (h.at_ j hj).touch ht hb⟩

def PlainPost (w : World) (p : Int × Int) (e : Ending) (w' : World) : Prop := e = .returned (.tuple #[.int .i64 p.1, .int .i64 p.2]) ∧ Touch [] w w'
theorem plainS {w : World} {b off n : Nat} {f : Nat → In} (h : Slots w b off n f) (c k : Nat) (hk : k < n) (hn : n ≤ 4611686018427387904) : Calls Try.prog 26 #[.slice (some ⟨b, off, none⟩) n c, .int .i64 k] w (PlainPost w (plainOf f n k)) := by
  have a := h.at_ k hk
  refine (plain_in b off n c k f w hk (by omega) h.lt (h.ok k hk) a.c0 a.c1 a.c2 a.c3 a.c4 fun hk1 => ?_).mono fun e w' hh => hh
  have a := h.at_ (k + 1) hk1
  exact ⟨a.c0, a.c1, a.c2, a.c3, a.c4⟩
theorem rplainS {w : World} {b off n : Nat} {f : Nat → In} (h : Slots w b off n f) (c k : Nat) (hk : k < n) (hn : n ≤ 4611686018427387904) : Calls Try.prog 23 #[.slice (some ⟨b, off, none⟩) n c, .int .i64 k] w (PlainPost w (plainOf f n k)) := by
  have a := h.at_ k hk
  refine (rplain_in b off n c k f w hk (by omega) h.lt (h.ok k hk) a.c0 a.c1 a.c2 a.c3 a.c4 fun hk1 => ?_).mono fun e w' hh => hh
  have a := h.at_ (k + 1) hk1
  exact ⟨a.c0, a.c1, a.c2, a.c3, a.c4⟩
theorem toS {w : World} {b off n : Nat} {f : Nat → In} (h : Slots w b off n f) (c k : Nat) (hk : k < n) (hn : n ≤ 4611686018427387904) : Calls Try.prog 16 #[.slice (some ⟨b, off, none⟩) n c, .int .i64 k] w (ToPost w (toP (f k) k)) := by
  have a := h.at_ k hk
  exact to_in b off n c k (f k) w hk hn (h.ok k hk) a.c0 a.c1 a.c2 a.c3 a.c4
/-- A list of n slots, that may be empty and nowhere. -/
def ListAt (w : World) (sa : Option Addr) (n : Nat) (f : Nat → In) : Prop := n = 0 ∨ ∃ b off, sa = some ⟨b, off, none⟩ ∧ Slots w b off n f
theorem ListAt.touch {S : List Nat} {w w' : World} {sa : Option Addr} {n : Nat} {f : Nat → In} (h : ListAt w sa n f) (ht : Touch S w w') (hb : ∀ b ∈ S, w.heap.size ≤ b) : ListAt w' sa n f := by
  rcases h with h | ⟨b, off, h1, h2⟩
  · exact Or.inl h
  · refine Or.inr ⟨b, off, h1, h2.touch ht fun hx => ?_⟩
    have := hb b hx
    have := h2.lt
    omega
theorem ListAt.slots {w : World} {sa : Option Addr} {n k : Nat} {f : Nat → In} (h : ListAt w sa n f) (hk : k < n) : ∃ b off, sa = some ⟨b, off, none⟩ ∧ Slots w b off n f := by
  rcases h with h | h
  · omega
  · exact h
theorem ListAt.plain {w : World} {sa : Option Addr} {n : Nat} {f : Nat → In} (h : ListAt w sa n f) (c k : Nat) (hk : k < n) (hn : n ≤ 4611686018427387904) : Calls Try.prog 26 #[.slice sa n c, .int .i64 k] w (PlainPost w (plainOf f n k)) := by
  obtain ⟨b, off, rfl, h2⟩ := h.slots hk
  exact plainS h2 c k hk hn
theorem ListAt.rplain {w : World} {sa : Option Addr} {n : Nat} {f : Nat → In} (h : ListAt w sa n f) (c k : Nat) (hk : k < n) (hn : n ≤ 4611686018427387904) : Calls Try.prog 23 #[.slice sa n c, .int .i64 k] w (PlainPost w (plainOf f n k)) := by
  obtain ⟨b, off, rfl, h2⟩ := h.slots hk
  exact rplainS h2 c k hk hn
theorem ListAt.to {w : World} {sa : Option Addr} {n : Nat} {f : Nat → In} (h : ListAt w sa n f) (c k : Nat) (hk : k < n) (hn : n ≤ 4611686018427387904) : Calls Try.prog 16 #[.slice sa n c, .int .i64 k] w (ToPost w (toP (f k) k)) := by
  obtain ⟨b, off, rfl, h2⟩ := h.slots hk
  exact toS h2 c k hk hn
end Go.Proofs.Ytpoliblfgioocaa
