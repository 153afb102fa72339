/-
  The memory and the document's own, side by side: what holds ahead of each call and behind it.
-/
import Derived.Test.YtkfmhabplcikiaaMRel2
import Derived.Test.YtkfmhabplcikiaaMRef6
import Derived.Test.YtkfmhabplcikiaaMPoke
import Derived.Test.YtkfmhabplcikiaaMRAdd2
namespace Go.Proofs.Ytkfmhabplcikiaa.Mem
open Go.RowKit

/-- Both memories lie in the world, apart from each other, in blocks that came behind w0. -/
structure Pair (w0 w : World) (s : MS) (t : RS) : Prop where
  mem : MemAt w s
  ref : RefAt w t
  apart : ∀ x ∈ s.blocks, x ∉ t.blocks
  own : ∀ x ∈ s.blocks, w0.heap.size ≤ x
  own' : ∀ x ∈ t.blocks, w0.heap.size ≤ x
  touch : Touch [] w0 w

theorem Pair.still {w0 w w' : World} {s : MS} {t : RS} (h : Pair w0 w s t) (ht : Touch [] w w') : Pair w0 w' s t :=
  ⟨h.mem.touch ht (by simp), h.ref.touch ht (by simp), h.apart, h.own, h.own', h.touch.trans ht (by simp)⟩
theorem Pair.goM {w0 w w' : World} {s s' : MS} {t : RS} (h : Pair w0 w s t) (hm : MemAt w' s') (ht : Touch s.blocks w w') (hb : ∀ x ∈ s'.blocks, x ∈ s.blocks ∨ w.heap.size ≤ x) : Pair w0 w' s' t where
  mem := hm
  ref := h.ref.touch ht (fun x hx hs => h.apart x hs hx)
  apart := fun x hx => by
    rcases hb x hx with hx | hx
    · exact h.apart x hx
    · intro hy
      have := h.ref.lt x hy
      omega
  own := fun x hx => by
    rcases hb x hx with hx | hx
    · exact h.own x hx
    · exact Nat.le_trans h.touch.size hx
  own' := h.own'
  touch := h.touch.trans ht (fun x hx => Or.inr (h.own x hx))
theorem Pair.goR {w0 w w' : World} {s : MS} {t t' : RS} (h : Pair w0 w s t) (hr : RefAt w' t') (ht : Touch t.blocks w w') (hb : ∀ x ∈ t'.blocks, x ∈ t.blocks ∨ w.heap.size ≤ x) : Pair w0 w' s t' where
  mem := h.mem.touch ht (fun x hx hs => h.apart x hx hs)
  ref := hr
  apart := fun x hx hy => by
    rcases hb x hy with hy | hy
    · exact h.apart x hx hy
    · have := h.mem.lt x hx
      omega
  own := h.own
  own' := fun x hx => by
    rcases hb x hx with hx | hx
    · exact h.own' x hx
    · exact Nat.le_trans h.touch.size hx
  touch := h.touch.trans ht (fun x hx => Or.inr (h.own' x hx))
theorem Pair.stepR {w0 w w' : World} {s : MS} {t : RS} (h : Pair w0 w s t) {all : List RReg} (hr : RefStep w t all w') : Pair w0 w' s { t with all := all } :=
  h.goR hr.1 hr.2.2 (fun x hx => Or.inl (by rw [hr.2.1] at hx; exact hx))
theorem Pair.perm {w0 w : World} {s : MS} {t : RS} (h : Pair w0 w s t) : ∀ r ∈ s.rs, 0 ≤ r.perm ∧ r.perm ≤ 7 := fun r hr => ⟨(h.mem.ok r hr).perm0, (h.mem.ok r hr).perm1⟩

/-- What 'one' answers. -/
def OnePost (w0 : World) (s : MS) (t : RS) (e : Ending) (w' : World) : Prop :=
  e = .returned (.bool true) ∧ ∃ s' t', Pair w0 w' s' t' ∧ Rel s'.rs s'.next t'.all ∧ s'.m = s.m ∧ t'.m = t.m ∧ t'.all.length ≤ t.all.length + 1
/-- A call of a script. -/
def opV (k0 a0 n0 m0 v0 : Int) (sa : Option Addr) (sl sc : Nat) : Value := .agg #[.int .i64 k0, .int .u64 a0, .int .i64 n0, .int .i64 m0, .int .u64 v0, .slice sa sl sc]
theorem OnePost.same {w0 w' : World} {s : MS} {t : RS} (h : Pair w0 w' s t) (hr : Rel s.rs s.next t.all) : OnePost w0 s t (.returned (.bool true)) w' := ⟨rfl, s, t, h, hr, rfl, rfl, by omega⟩
end Go.Proofs.Ytkfmhabplcikiaa.Mem
