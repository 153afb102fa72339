/-
  Keys and lists of keys in memory; a script that came in.
-/
import Derived.Test.YtkfmhabplcikiaaRows
import Derived.Test.YtkfmhabplcikiaaKit
import Derived.Laws.BytesArg
import Derived.Deep.RegionHeld3
import Derived.Deep.DrawnRows
import Derived.Deep.CutRange
namespace Go.Proofs.Ytkfmhabplcikiaa
open Go.RowKit

/-- The number of the first n bytes, lowest first. -/
def num (bs : Nat → Int) : Nat → Int
  | 0 => 0
  | n + 1 => num bs n + bs n * 256 ^ n
theorem num_bd (bs : Nat → Int) : ∀ n, (∀ j, j < n → 0 ≤ bs j ∧ bs j ≤ 255) → 0 ≤ num bs n ∧ num bs n < 256 ^ n
  | 0, _ => by simp [num]
  | n + 1, h => by
    have h1 := num_bd bs n (fun j hj => h j (by omega))
    have h2 := h n (by omega)
    have h3 : (0 : Int) < 256 ^ n := Int.pow_pos (by omega)
    have h4 : bs n * 256 ^ n ≤ 255 * 256 ^ n := Int.mul_le_mul_of_nonneg_right h2.2 (by omega)
    have h5 : 0 ≤ bs n * 256 ^ n := Int.mul_nonneg h2.1 (by omega)
    unfold num
    rw [Int.pow_succ]
    omega
/-- Bytes that lie in memory, as a slice says. -/
def KeyAt (w : World) (sa : Option Addr) (sl : Nat) (bs : List Int) : Prop := sl = bs.length ∧ (∀ x ∈ bs, 0 ≤ x ∧ x ≤ 255) ∧ bs.length ≤ 9223372036854775807 ∧
  (1 ≤ bs.length → ∃ b off, sa = some ⟨b, off, none⟩ ∧ ∀ j, j < bs.length → w.cell? ⟨b, off + j, none⟩ = some (.int .u8 (bs.getD j 0)))
theorem getD_bd {bs : List Int} (h : ∀ x ∈ bs, 0 ≤ x ∧ x ≤ 255) (j : Nat) : 0 ≤ bs.getD j 0 ∧ bs.getD j 0 ≤ 255 := by
  rw [List.getD_eq_getElem?_getD]
  cases hq : bs[j]? with
  | none => simp
  | some x => exact h x (List.mem_of_getElem? hq)
theorem KeyAt.nums {w : World} {sa : Option Addr} {sl : Nat} {bs : List Int} (h : KeyAt w sa sl bs) (n : Nat) : 0 ≤ num (fun j => bs.getD j 0) n ∧ num (fun j => bs.getD j 0) n < 256 ^ n := num_bd _ n fun j _ => getD_bd h.2.1 j
theorem info3 : (Try.prog.info? 3).map (fun i => (i.zero, i.size, i.bytes)) = some (some (.int .i64 0), 1, 8) := by kernel_rfl
theorem info5 : (Try.prog.info? 5).map (fun i => (i.zero, i.size, i.bytes)) = some (some (.int .u8 0), 1, 1) := by kernel_rfl
theorem info32 : (Try.prog.info? 60).map (fun i => (i.zero, i.size, i.bytes)) = some (some (.slice none 0 0), 1, 24) := by kernel_rfl
/-- Block b is a row of cells, none of them shared with a string. (A row that a conversion has laid bears a mark behind its last cell.) -/
def BlkF (w : World) (b : Nat) (cs : List Value) (t : TypeId) : Prop := ∃ fz : Nat × Nat, w.heap[b]? = some (.cells cs.toArray t fz) ∧ (fz = (0, 0) ∨ cs.length ≤ fz.1)
theorem Blk.toF {w : World} {b : Nat} {cs : List Value} {t : TypeId} (h : Blk w b cs t) : BlkF w b cs t := ⟨(0, 0), h, Or.inl rfl⟩
theorem BlkF.lt {w : World} {b : Nat} {cs : List Value} {t : TypeId} (h : BlkF w b cs t) : b < w.heap.size := by
  obtain ⟨fz, h, _⟩ := h
  exact (Array.getElem?_eq_some_iff.1 h).1
theorem BlkF.cell {w : World} {b : Nat} {cs : List Value} {t : TypeId} (h : BlkF w b cs t) {i : Nat} {v : Value} (hi : cs[i]? = some v) : w.cell? ⟨b, i, none⟩ = some v := by
  obtain ⟨fz, h, _⟩ := h
  simp [World.cell?, h, hi]
theorem BlkF.frozen {w : World} {b : Nat} {cs : List Value} {t : TypeId} (h : BlkF w b cs t) (i : Nat) (hi : i < cs.length) : w.frozen? ⟨b, i, none⟩ = false := by
  obtain ⟨⟨lo, up⟩, h, hz⟩ := h
  simp only [World.frozen?, h]
  rcases hz with hz | hz
  · cases hz
    simp
  · have : ¬ lo ≤ i := by simp at hz; omega
    simp [this]
theorem BlkF.of_heap {w w' : World} {b : Nat} {cs : List Value} {t : TypeId} (h : BlkF w b cs t) (he : w'.heap[b]? = w.heap[b]?) : BlkF w' b cs t := by
  obtain ⟨fz, h, hz⟩ := h
  exact ⟨fz, by rw [he, h], hz⟩
theorem BlkF.setCell {w : World} {b : Nat} {cs : List Value} {t : TypeId} (h : BlkF w b cs t) (i : Nat) (v : Value) : BlkF (w.setCell ⟨b, i, none⟩ v) b (cs.set i v) t := by
  obtain ⟨fz, h, hz⟩ := h
  refine ⟨fz, ?_, by simpa using hz⟩
  simp only [World.setCell, Array.getElem?_modify, ↓reduceIte, h, Option.map_some]
  simp
theorem BlkF.setCell_other {w : World} {b : Nat} {cs : List Value} {t : TypeId} (h : BlkF w b cs t) (a : Addr) (v : Value) (hne : b ≠ a.block) : BlkF (w.setCell a v) b cs t :=
  h.of_heap (Below.heap_setCell w a v b hne)
theorem Touch.blkF {S : List Nat} {w w' : World} (h : Touch S w w') {b : Nat} {cs : List Value} {t : TypeId} (hb : BlkF w b cs t) (hn : b ∉ S) : BlkF w' b cs t := hb.of_heap (h.block b hb.lt hn)
/-- A key where it lies. -/
structure KS where
  b : Nat
  cap : Nat
  bs : List Int
def KS.v (k : KS) : Value := .slice (some ⟨k.b, 0, none⟩) k.bs.length k.cap
/-- Its bytes are there. -/
def KS.At (w : World) (k : KS) : Prop := (∃ rest, BlkF w k.b (k.bs.map (Value.int .u8) ++ rest) 5) ∧ (∀ x ∈ k.bs, 0 ≤ x ∧ x ≤ 255) ∧ k.bs.length ≤ 16 ∧ 1 ≤ k.bs.length ∧ k.bs.length ≤ k.cap
theorem KS.At.touch {S : List Nat} {w w' : World} {k : KS} (h : k.At w) (ht : Touch S w w') (hb : k.b ∉ S) : k.At w' := by
  obtain ⟨⟨r, h1⟩, h2⟩ := h
  exact ⟨⟨r, ht.blkF h1 hb⟩, h2⟩
theorem KS.At.cell {w : World} {k : KS} (h : k.At w) (j : Nat) (hj : j < k.bs.length) : w.cell? ⟨k.b, j, none⟩ = some (.int .u8 (k.bs.getD j 0)) := by
  obtain ⟨⟨r, h1⟩, _⟩ := h
  refine h1.cell ?_
  rw [List.getElem?_append_left (by simpa using hj), List.getElem?_map, List.getElem?_eq_getElem hj, List.getD_eq_getElem?_getD, List.getElem?_eq_getElem hj]
  rfl
theorem KS.At.key {w : World} {k : KS} (h : k.At w) : KeyAt w (some ⟨k.b, 0, none⟩) k.bs.length k.bs :=
  ⟨rfl, h.2.1, by have := h.2.2.1; omega, fun _ => ⟨k.b, 0, rfl, fun j hj => by rw [Nat.zero_add]; exact h.cell j hj⟩⟩
theorem KS.At.lt {w : World} {k : KS} (h : k.At w) : k.b < w.heap.size := by
  obtain ⟨⟨r, h1⟩, _⟩ := h
  exact h1.lt
/-- A list of keys, all of it newer than w0. -/
structure KLs (w0 w : World) (g : Option Nat) (cap : Nat) (l : List KS) : Prop where
  row : RowAt w 60 1 g l.length cap (l.map KS.v)
  own : ∀ b, g = some b → w0.heap.size ≤ b
  keys : ∀ k ∈ l, k.At w ∧ w0.heap.size ≤ k.b ∧ g ≠ some k.b
def KL (w0 w : World) (v : Value) (ks : List (List Int)) : Prop := ∃ g cap l, v = slV g l.length cap ∧ KLs w0 w g cap l ∧ l.map KS.bs = ks
theorem KLs.touch {S : List Nat} {w0 w w' : World} {g : Option Nat} {cap : Nat} {l : List KS} (h : KLs w0 w g cap l) (ht : Touch S w w') (hS : ∀ x ∈ S, x < w0.heap.size) : KLs w0 w' g cap l :=
  ⟨h.row.touch ht (fun b hb hx => by have := hS b hx; have := h.own b hb; omega), h.own, fun k hk => ⟨(h.keys k hk).1.touch ht (fun hx => by have := hS _ hx; have := (h.keys k hk).2.1; omega), (h.keys k hk).2⟩⟩
theorem KL.touch {S : List Nat} {w0 w w' : World} {v : Value} {ks : List (List Int)} (h : KL w0 w v ks) (ht : Touch S w w') (hS : ∀ x ∈ S, x < w0.heap.size) : KL w0 w' v ks := by
  obtain ⟨g, cap, l, h1, h2, h3⟩ := h
  exact ⟨g, cap, l, h1, h2.touch ht hS, h3⟩
theorem KeyAt.touch {w w' : World} {sa : Option Addr} {sl : Nat} {bs : List Int} (h : KeyAt w sa sl bs) (ht : Touch [] w w') : KeyAt w' sa sl bs := by
  obtain ⟨h1, h2, h3, h4⟩ := h
  refine ⟨h1, h2, h3, fun hp => ?_⟩
  obtain ⟨b, off, ha, hb⟩ := h4 hp
  exact ⟨b, off, ha, fun j hj => ht.cell (hb j hj) (by simp)⟩
/-- Four bytes just laid. -/
theorem key_new (w : World) (a b c d : Int) (h : ∀ x ∈ [a, b, c, d], 0 ≤ x ∧ x ≤ 255) : KeyAt (w.alloc (.cells #[.int .u8 a, .int .u8 b, .int .u8 c, .int .u8 d] 5)) (some ⟨w.heap.size, 0, none⟩) 4 [a, b, c, d] := by
  have hB := Blk.newA w #[.int .u8 a, .int .u8 b, .int .u8 c, .int .u8 d] _ 5 rfl
  refine ⟨rfl, h, by simp, fun _ => ⟨_, 0, rfl, fun j hj => ?_⟩⟩
  simp at hj
  have : j = 0 ∨ j = 1 ∨ j = 2 ∨ j = 3 := by omega
  rcases this with rfl | rfl | rfl | rfl <;> exact hB.cell rfl
/-- A call of a script. -/
structure OpC where
  k : Int
  sa : Option Addr
  sl : Nat
  sc : Nat
  bs : List Int
  fl : Int
structure OpC.Ok (w : World) (o : OpC) : Prop where
  k0 : -9223372036854775808 ≤ o.k
  k1 : o.k ≤ 9223372036854775807
  f0 : 0 ≤ o.fl
  f1 : o.fl ≤ 18446744073709551615
  key : KeyAt w o.sa o.sl o.bs
/-- A script that came in. -/
def Script (w : World) (sa : Option Addr) (n : Nat) (f : Nat → OpC) : Prop := n = 0 ∨ ∃ b off, sa = some ⟨b, off, none⟩ ∧ ∀ j, j < n → (f j).Ok w ∧ w.cell? ⟨b, off + j * 3, none⟩ = some (.int .i64 (f j).k) ∧
  w.cell? ⟨b, off + j * 3 + 1, none⟩ = some (.slice (f j).sa (f j).sl (f j).sc) ∧ w.cell? ⟨b, off + j * 3 + 2, none⟩ = some (.int .u64 (f j).fl)
theorem Script.at_ {w : World} {sa : Option Addr} {n : Nat} {f : Nat → OpC} (h : Script w sa n f) {k : Nat} (hk : k < n) : ∃ b off, sa = some ⟨b, off, none⟩ ∧ ∀ j, j < n → (f j).Ok w ∧ w.cell? ⟨b, off + j * 3, none⟩ = some (.int .i64 (f j).k) ∧
  w.cell? ⟨b, off + j * 3 + 1, none⟩ = some (.slice (f j).sa (f j).sl (f j).sc) ∧ w.cell? ⟨b, off + j * 3 + 2, none⟩ = some (.int .u64 (f j).fl) := by
  rcases h with h | h
  · omega
  · exact h
def opV (o : OpC) : Value := .agg #[.int .i64 o.k, .slice o.sa o.sl o.sc, .int .u64 o.fl]
theorem kind4 (k0 : Int) : ∃ q : Nat, q < 4 ∧ (IntKind.u64.wrap k0).tmod 4 = q := by
  rw [IntKind.wrap_u64, Int.tmod_eq_emod_of_nonneg (by omega)]
  exact ⟨(k0 % 18446744073709551616 % 4).toNat, by omega, by omega⟩
end Go.Proofs.Ytkfmhabplcikiaa
