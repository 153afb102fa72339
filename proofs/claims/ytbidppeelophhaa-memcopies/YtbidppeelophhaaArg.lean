/-
  A slice of bytes that came in with a script; slices of bytes as strings.
-/
import Derived.Test.YtbidppeelophhaaBoth
import Derived.Laws.BytesArg
namespace Go.Proofs.Ytbidppeelophhaa
open Go.RowKit

/-- Bytes that lay there ahead of everything. -/
def ArgIn (w0 : World) (sa : Option Addr) (sl : Nat) (bs : List Int) : Prop := sl = bs.length ∧ (∀ x ∈ bs, 0 ≤ x ∧ x ≤ 255) ∧ bs.length ≤ 9223372036854775807 ∧ (1 ≤ bs.length → ∃ k off, sa = some ⟨k, off, none⟩ ∧ k < w0.heap.size ∧ BytesAt w0 k off bs)

theorem ArgIn.arg {w0 w : World} {sa : Option Addr} {sl : Nat} {bs : List Int} (h : ArgIn w0 sa sl bs) (ht : Touch [] w0 w) (sc : Nat) : ArgAt w (.slice sa sl sc) bs := by
  obtain ⟨h1, h2, h3, h4⟩ := h
  refine ⟨sa, sc, by rw [h1], h2, h3, fun hp => ?_⟩
  obtain ⟨k, off, ha, _, hb⟩ := h4 hp
  exact ⟨k, off, ha, hb.touch ht (by simp)⟩
theorem ArgIn.out {w0 w : World} {sa : Option Addr} {sl : Nat} {bs : List Int} (h : ArgIn w0 sa sl bs) (ht : Touch [] w0 w) (sc : Nat) {bl : List Nat} (hbl : ∀ x ∈ bl, w0.heap.size ≤ x) : ArgOut w bl (.slice sa sl sc) bs := by
  obtain ⟨h1, h2, h3, h4⟩ := h
  refine ⟨sa, sc, by rw [h1], h2, h3, fun hp => ?_⟩
  obtain ⟨k, off, ha, hk, hb⟩ := h4 hp
  exact ⟨k, off, ha, fun hx => by have := hbl k hx; omega, hb.touch ht (by simp)⟩

theorem conv_zero {P : Program} (w : World) (src dst e : TypeId) (hs : P.underlying src = some (.slice e)) (he : P.underlying e = some (.int .u8)) (hd : P.underlying dst = some .string) (p : Option Addr) (c : Nat) :
    (convert src dst (.slice p 0 c)).run P w = .ok (.string ByteArray.empty) w := by
  rw [run_convert_bytes_string w src dst e _ 0 c hs he hd]
  cases p <;> simp [Conv.bytesToString, loadCells]
  all_goals rfl
theorem conv_at (w : World) (b off c : Nat) (bs : List Int) (h : BytesAt w b off bs) : (convert 31 9 (.slice (some ⟨b, off, none⟩) bs.length c)).run Try.prog w = .ok (.string (strOfNums bs)) w := by
  refine run_convert_bytes_arg w 31 5 Try.underlying31 Try.underlying5 b off bs.length c bs rfl (fun i hi => ?_) 9 Try.underlying9
  refine h i _ ?_
  simp [List.getD_eq_getElem?_getD, List.getElem?_eq_getElem hi]
theorem ArgIn.conv {w0 w : World} {sa : Option Addr} {sl : Nat} {bs : List Int} (h : ArgIn w0 sa sl bs) (ht : Touch [] w0 w) (sc : Nat) : (convert 31 9 (.slice sa sl sc)).run Try.prog w = .ok (.string (strOfNums bs)) w := by
  obtain ⟨h1, h2, h3, h4⟩ := h
  subst h1
  by_cases hp : 1 ≤ bs.length
  · obtain ⟨k, off, rfl, _, hb⟩ := h4 hp
    exact conv_at w k off sc bs (hb.touch ht (by simp))
  · obtain rfl : bs = [] := List.eq_nil_of_length_eq_zero (by omega)
    exact conv_zero w 31 9 5 Try.underlying31 Try.underlying5 Try.underlying9 sa sc
theorem SliceIs.conv {w : World} {v : Value} {bs : List Int} (h : SliceIs w v bs) : (convert 31 9 v).run Try.prog w = .ok (.string (strOfNums bs)) w := by
  rcases h with ⟨rfl, rfl⟩ | ⟨_, N, rfl, hB⟩
  · exact conv_zero w 31 9 5 Try.underlying31 Try.underlying5 Try.underlying9 none 0
  · exact conv_at w N 0 _ bs (fun j v hj => by rw [Nat.zero_add]; exact hB.cell hj)
theorem SliceIs.touch {w w' : World} {v : Value} {bs : List Int} (h : SliceIs w v bs) (ht : Touch [] w w') : SliceIs w' v bs := by
  rcases h with h | ⟨h1, N, h2, hB⟩
  · exact Or.inl h
  · exact Or.inr ⟨h1, N, h2, ht.blk hB (by simp)⟩
theorem OwnAt.conv {w0 w : World} {v : Value} {bs : List Int} (h : OwnAt w0 w v bs) : (convert 31 9 v).run Try.prog w = .ok (.string (strOfNums bs)) w := by
  obtain ⟨g, cap, rfl, hrow, _⟩ := h
  cases g with
  | none =>
    have h1 := hrow.2.1
    have h4 : cap = 0 := hrow.2.2.2
    obtain rfl : bs = [] := List.eq_nil_of_length_eq_zero (by omega)
    exact conv_zero w 31 9 5 Try.underlying31 Try.underlying5 Try.underlying9 none cap
  | some b =>
    obtain ⟨_, _, _, rest, hB, _⟩ := hrow
    exact conv_at w b 0 cap bs (fun j v hj => by
      rw [Nat.zero_add]
      exact hB.cell (by rw [List.getElem?_append_left (List.getElem?_eq_some_iff.1 hj).1]; exact hj))
end Go.Proofs.Ytbidppeelophhaa
