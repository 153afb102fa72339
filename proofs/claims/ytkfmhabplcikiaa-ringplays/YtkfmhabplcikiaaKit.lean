/-
  Plain facts on worlds, for the walks of this seat: rows of cells (Blk), what a call has touched (Touch), slices whose cells are known (RowAt). Of no program.
-/
import Derived.WalkKit
import Derived.WalkSpells
import Derived.WalkLawsBesides
import Derived.WalkSmall
import Derived.Deep.QuietTactic
import Derived.BigQuiet
import Derived.Lib.AppendZeros
import Derived.Lib.AppendZerosOnto
import Derived.Lib.Overlaps
import Derived.Laws.IdiomCopy
namespace Go.Proofs.Ytkfmhabplcikiaa
open Go.RowKit

/-- Block b is a row of cells, none of them shared with a string. -/
def Blk (w : World) (b : Nat) (cs : List Value) (t : TypeId) : Prop := w.heap[b]? = some (.cells cs.toArray t (0, 0))

theorem Blk.lt {w : World} {b : Nat} {cs : List Value} {t : TypeId} (h : Blk w b cs t) : b < w.heap.size := (Array.getElem?_eq_some_iff.1 h).1
theorem Blk.cell {w : World} {b : Nat} {cs : List Value} {t : TypeId} (h : Blk w b cs t) {i : Nat} {v : Value} (hi : cs[i]? = some v) : w.cell? ⟨b, i, none⟩ = some v := by
  unfold Blk at h
  simp [World.cell?, h, hi]
theorem Blk.cellN {w : World} {b : Nat} {cs : List Value} {t : TypeId} (h : Blk w b cs t) {i : Nat} (hi : i < cs.length) : w.cell? ⟨b, i, none⟩ = some cs[i] := h.cell (List.getElem?_eq_getElem hi)
theorem Blk.frozen {w : World} {b : Nat} {cs : List Value} {t : TypeId} (h : Blk w b cs t) (i : Nat) : w.frozen? ⟨b, i, none⟩ = false := by
  unfold Blk at h
  simp [World.frozen?, h]
theorem Blk.shape {w : World} {b : Nat} {cs : List Value} {t : TypeId} (h : Blk w b cs t) : w.shape? b = some (t, cs.length) := by
  unfold Blk at h
  simp [World.shape?, h]
theorem Blk.of_heap {w w' : World} {b : Nat} {cs : List Value} {t : TypeId} (h : Blk w b cs t) (he : w'.heap[b]? = w.heap[b]?) : Blk w' b cs t := by
  unfold Blk at *
  rw [he, h]
theorem Blk.inj {w : World} {b : Nat} {cs cs' : List Value} {t t' : TypeId} (h : Blk w b cs t) (h' : Blk w b cs' t') : cs = cs' := by
  unfold Blk at *
  rw [h] at h'
  simpa using (Obj.cells.inj (Option.some.inj h')).1
theorem Blk.drew {w : World} {b : Nat} {cs : List Value} {t : TypeId} (h : Blk w b cs t) : Blk w.drew b cs t := h
theorem Blk.drewN {w : World} {b : Nat} {cs : List Value} {t : TypeId} (h : Blk w b cs t) (n : Nat) : Blk (w.drewN n) b cs t := h
theorem Blk.alloc {w : World} {b : Nat} {cs : List Value} {t : TypeId} (h : Blk w b cs t) (o : Obj) : Blk (w.alloc o) b cs t := h.of_heap (Below.heap_alloc w o b h.lt)
theorem Blk.new (w : World) (cs : List Value) (t : TypeId) : Blk (w.alloc (.cells cs.toArray t)) w.heap.size cs t := by
  unfold Blk
  exact heap_alloc_new w _
theorem Blk.newA (w : World) (arr : Array Value) (cs : List Value) (t : TypeId) (h : arr.toList = cs) : Blk (w.alloc (.cells arr t)) w.heap.size cs t := by
  subst h
  have := Blk.new w arr.toList t
  simpa using this
theorem Blk.setCell {w : World} {b : Nat} {cs : List Value} {t : TypeId} (h : Blk w b cs t) (i : Nat) (v : Value) : Blk (w.setCell ⟨b, i, none⟩ v) b (cs.set i v) t := by
  unfold Blk at *
  simp only [World.setCell, Array.getElem?_modify, ↓reduceIte, h, Option.map_some]
  simp
theorem Blk.setCell_other {w : World} {b : Nat} {cs : List Value} {t : TypeId} (h : Blk w b cs t) (a : Addr) (v : Value) (hne : b ≠ a.block) : Blk (w.setCell a v) b cs t :=
  h.of_heap (Below.heap_setCell w a v b hne)
theorem Blk.setRow {w : World} {b : Nat} {cs : List Value} {t : TypeId} (h : Blk w b cs t) (ds : List Value) : Blk (w.setRow b ds.toArray) b ds t := setRow_heap w b _ _ t _ h
theorem Blk.setRow_other {w : World} {b : Nat} {cs : List Value} {t : TypeId} (h : Blk w b cs t) (g : Nat) (ds : Array Value) (hne : b ≠ g) : Blk (w.setRow g ds) b cs t :=
  h.of_heap (Go.setRow_other w g b ds hne)

/-- Outside the blocks S, what was there is as it was. -/
structure Touch (S : List Nat) (w w' : World) : Prop where
  os : w'.os = w.os
  tape : w'.tape = w.tape
  output : w'.output = w.output
  size : w.heap.size ≤ w'.heap.size
  block : ∀ k, k < w.heap.size → k ∉ S → w'.heap[k]? = w.heap[k]?

theorem Touch.refl (S : List Nat) (w : World) : Touch S w w := ⟨rfl, rfl, rfl, Nat.le_refl _, fun _ _ _ => rfl⟩
theorem Touch.trans {S S' : List Nat} {a b c : World} (h : Touch S a b) (k : Touch S' b c) (hS : ∀ x ∈ S', x ∈ S ∨ a.heap.size ≤ x) : Touch S a c :=
  ⟨k.os.trans h.os, k.tape.trans h.tape, k.output.trans h.output, Nat.le_trans h.size k.size, fun i hi hn =>
    (k.block i (Nat.lt_of_lt_of_le hi h.size) (fun hx => by rcases hS i hx with h1 | h1; exact hn h1; omega)).trans (h.block i hi hn)⟩
theorem Touch.mono {S S' : List Nat} {a b : World} (h : Touch S a b) (hS : ∀ x ∈ S, x ∈ S' ∨ a.heap.size ≤ x) : Touch S' a b :=
  ⟨h.os, h.tape, h.output, h.size, fun i hi hn => h.block i hi (fun hx => by rcases hS i hx with h1 | h1; exact hn h1; omega)⟩
theorem Touch.nil {S : List Nat} {a b : World} (h : Touch [] a b) : Touch S a b := h.mono (fun _ hx => by cases hx)
theorem Touch.drew {S : List Nat} {a w : World} (h : Touch S a w) : Touch S a w.drew := ⟨h.os, h.tape, h.output, h.size, h.block⟩
theorem Touch.drewN {S : List Nat} {a w : World} (h : Touch S a w) (n : Nat) : Touch S a (w.drewN n) := ⟨h.os, h.tape, h.output, h.size, h.block⟩
theorem Touch.alloc {S : List Nat} {a w : World} (h : Touch S a w) (o : Obj) : Touch S a (w.alloc o) :=
  ⟨h.os, h.tape, h.output, Nat.le_trans h.size (by simp), fun k hk hn => (Below.heap_alloc w o k (Nat.lt_of_lt_of_le hk h.size)).trans (h.block k hk hn)⟩
theorem Touch.setCell {S : List Nat} {a w : World} (h : Touch S a w) (p : Addr) (v : Value) (hp : p.block ∈ S ∨ a.heap.size ≤ p.block) : Touch S a (w.setCell p v) :=
  ⟨h.os, h.tape, h.output, by simpa using h.size, fun k hk hn => (Below.heap_setCell w p v k (fun e => by subst e; rcases hp with h1 | h1; exact hn h1; omega)).trans (h.block k hk hn)⟩
theorem Touch.setRow {S : List Nat} {a w : World} (h : Touch S a w) (g : Nat) (ds : Array Value) (hp : g ∈ S ∨ a.heap.size ≤ g) : Touch S a (w.setRow g ds) :=
  ⟨h.os, h.tape, h.output, by simpa using h.size, fun k hk hn => (Go.setRow_other w g k ds (fun e => by subst e; rcases hp with h1 | h1; exact hn h1; omega)).trans (h.block k hk hn)⟩
theorem Touch.blk {S : List Nat} {w w' : World} (h : Touch S w w') {b : Nat} {cs : List Value} {t : TypeId} (hb : Blk w b cs t) (hn : b ∉ S) : Blk w' b cs t := hb.of_heap (h.block b hb.lt hn)
theorem Touch.cell {S : List Nat} {w w' : World} (h : Touch S w w') {p : Addr} {v : Value} (hc : w.cell? p = some v) (hn : p.block ∉ S) : w'.cell? p = some v :=
  (World.cell?_of_block (w := w) (h.block p.block (World.block_lt_of_cell? w p hc) hn)).trans hc
theorem Touch.below {w w' : World} (h : Touch [] w w') : Below w.heap.size w w' := ⟨h.os, h.tape, h.output, h.size, fun k hk => h.block k hk (by simp)⟩
theorem Below.touch {w w' : World} (h : Below w.heap.size w w') : Touch [] w w' := ⟨h.os, h.tape, h.output, h.size, fun k hk _ => h.block k hk⟩

/-- A slice's value: nil, or from its block's first cell on. -/
def slV (g : Option Nat) (n cap : Nat) : Value := .slice (g.map fun b => ⟨b, 0, none⟩) n cap
theorem slV_none (n cap : Nat) : slV none n cap = .slice none n cap := rfl
theorem slV_some (b n cap : Nat) : slV (some b) n cap = .slice (some ⟨b, 0, none⟩) n cap := rfl

/-- A slice of n elements of sz cells each, all cells known. -/
def RowAt (w : World) (e : TypeId) (sz : Nat) (g : Option Nat) (n cap : Nat) (cs : List Value) : Prop :=
  cs.length = n * sz ∧ n ≤ cap ∧ cap ≤ maxLen ∧ match g with
    | none => cap = 0
    | some b => ∃ rest, Blk w b (cs ++ rest) e ∧ cap * sz ≤ (cs ++ rest).length

theorem RowAt.touch {S : List Nat} {w w' : World} {e : TypeId} {sz : Nat} {g : Option Nat} {n cap : Nat} {cs : List Value} (h : RowAt w e sz g n cap cs) (ht : Touch S w w') (hg : ∀ b, g = some b → b ∉ S) : RowAt w' e sz g n cap cs := by
  obtain ⟨h1, h2, h3, h4⟩ := h
  refine ⟨h1, h2, h3, ?_⟩
  cases g with
  | none => exact h4
  | some b => obtain ⟨rest, hb, hc⟩ := h4; exact ⟨rest, ht.blk hb (hg b rfl), hc⟩

theorem splice_rest (cs rest news : List Value) (k : Nat) (h : cs.length = k) :
    (cs ++ rest).toArray.toList.take k ++ news ++ (cs ++ rest).toArray.toList.drop (k + news.length) = cs ++ news ++ rest.drop news.length := by
  subst h
  simp [List.drop_append]

/-- append(s, x...) on such a slice: in place where there is room, else a new row. -/
theorem run_append_row {P : Program} (w : World) (t ty e : TypeId) (i : TypeInfo) (z : Value) (sz : Nat) (ht : P.underlying t = some (.slice e)) (hi : P.info? e = some i) (hz : i.zero = some z)
    (hsz : i.size = sz) (hzs : z.cells.size = sz) (hpos : 0 < sz) (g : Option Nat) (n cap : Nat) (cs : List Value) (h : RowAt w e sz g n cap cs)
    (a : Addr) (m c : Nat) (news : List Value) (hl : news.length = m * sz) (hnews : ∀ j v, news[j]? = some v → w.cell? (a.add j) = some v) (h1 : ∀ u ∈ news, u.oneCell' = true)
    (hbig : (n + m) * i.bytes ≤ 140737488355328) (hmax : n + m ≤ 140737488355328) :
    ∃ g' cap' w', (Builtin.append_ #[t, t] ty #[slV g n cap, .slice (some a) m c]).run P w = .ok (slV g' (n + m) cap') w' ∧ RowAt w' e sz g' (n + m) cap' (cs ++ news) ∧ Touch g.toList w w' ∧
      (g' = g ∨ g' = some w.heap.size) ∧ (g' = some w.heap.size → w.heap.size < w'.heap.size) := by
  subst hsz
  obtain ⟨hcl, hnc, hcm, hg⟩ := h
  have hlen : (cs ++ news).length = (n + m) * i.size := by rw [List.length_append, hcl, hl, Nat.add_mul]
  have hgrow : ∀ old, old < n + m → RowAt (w.drew.alloc (.cells (cs.toArray ++ news.toArray ++ Builtin.zeroCells z.cells (grownCap w (n + m) old e - (n + m))) e)) e i.size (some w.heap.size) (n + m) (grownCap w (n + m) old e) (cs ++ news) := by
    intro old ho
    have hge := grownCap_ge w (n + m) old e
    have hle := grownCap_le_maxLen w (n + m) old e (by unfold maxLen; omega)
    refine ⟨hlen, hge, hle, (Builtin.zeroCells z.cells (grownCap w (n + m) old e - (n + m))).toList, ?_, ?_⟩
    · exact Blk.newA w.drew _ _ e (by simp)
    · rw [List.length_append, hlen, Array.length_toList, size_zeroCells, hzs, ← Nat.add_mul]
      exact Nat.mul_le_mul_right _ (by omega)
  cases g with
  | none =>
    have hg : cap = 0 := hg
    subst hg
    obtain rfl : n = 0 := by omega
    obtain rfl : cs = [] := List.eq_nil_of_length_eq_zero (by simpa using hcl)
    by_cases hm : m = 0
    · subst hm
      obtain rfl : news = [] := List.eq_nil_of_length_eq_zero (by simpa using hl)
      refine ⟨none, 0, w, ?_, ⟨by simp, by omega, by unfold maxLen; omega, rfl⟩, Touch.refl _ _, Or.inl rfl, fun h => by cases h⟩
      simp [slV, Builtin.append_, run_underlying ht, sizeOf, typeInfo, hi, Builtin.lenOf, Builtin.firstCells, loadCells, loadCellsFrom]
    · have hr := run_append_nil (P := P) w t ty e i z ht hi hz a m c news hl hnews (by omega) (by omega) (by simp only [Nat.zero_add] at hbig; omega)
      have hgr := hgrow 0 (by omega)
      simp only [Nat.zero_add, List.nil_append, Array.empty_append] at hgr ⊢
      exact ⟨some w.heap.size, _, _, hr, hgr, (Touch.refl _ w).drew.alloc _, Or.inr rfl, fun _ => by simp⟩
  | some b =>
    obtain ⟨rest, hb, hcap⟩ := hg
    by_cases hroom : n + m ≤ cap
    · have hfit : n * i.size + news.length ≤ (cs ++ rest).toArray.size := by
        rw [hl, ← Nat.add_mul]
        exact Nat.le_trans (Nat.mul_le_mul_right _ hroom) (by simpa using hcap)
      have hr := run_append_room (P := P) w t ty e i ht hi b n cap _ hb a m c news hl hnews h1 hroom hfit
      refine ⟨some b, cap, _, hr, ⟨hlen, hroom, hcm, rest.drop news.length, ?_, ?_⟩, (Touch.refl _ w).setRow _ _ (Or.inl (by simp)), Or.inl rfl, fun h => by have := hb.lt; injection h with h; omega⟩
      · rw [splice_rest cs rest news (n * i.size) hcl]
        exact hb.setRow _
      · simp only [List.length_append, List.length_drop] at hcap ⊢
        simp at hfit
        omega
    · have hold : ∀ j u, cs[j]? = some u → w.cell? ((⟨b, 0, none⟩ : Addr).add j) = some u := fun j u hj => by
        have hadd : (⟨b, 0, none⟩ : Addr).add j = ⟨b, j, none⟩ := by unfold Addr.add; split <;> simp_all
        rw [hadd]
        exact hb.cell (by rw [List.getElem?_append_left (List.getElem?_eq_some_iff.1 hj).1]; exact hj)
      have hr := run_append_grow (P := P) w t ty e i z ht hi hz ⟨b, 0, none⟩ n cap cs hcl hold a m c news hl hnews (by omega) (by omega) (growslice_fits (by omega) hbig)
      exact ⟨some w.heap.size, _, _, hr, hgrow cap (by omega), (Touch.refl _ w).drew.alloc _, Or.inr rfl, fun _ => by simp⟩

theorem info_of {P : Program} {e : TypeId} {z : Option Value} {s b : Nat} (h : (P.info? e).map (fun i => (i.zero, i.size, i.bytes)) = some (z, s, b)) :
    ∃ i, P.info? e = some i ∧ i.zero = z ∧ i.size = s ∧ i.bytes = b := by
  cases hq : P.info? e with
  | none => simp [hq] at h
  | some i => simp [hq] at h; exact ⟨i, rfl, h.1, h.2.1, h.2.2⟩
theorem size_of_info {P : Program} {e : TypeId} {z : Option Value} {s b : Nat} (h : (P.info? e).map (fun i => (i.zero, i.size, i.bytes)) = some (z, s, b)) : (P.info? e).map (·.size) = some s := by
  obtain ⟨i, hi, _, hs, _⟩ := info_of h
  simp [hi, hs]

theorem sizeOf_of_info {P : Program} {e : TypeId} {z : Option Value} {s b : Nat} (h : (P.info? e).map (fun i => (i.zero, i.size, i.bytes)) = some (z, s, b)) (w : World) : (Go.sizeOf e).run P w = .ok s w := by
  obtain ⟨i, hi, _, hs, _⟩ := info_of h
  simp [sizeOf, typeInfo, hi, hs]

/-- The operation 'copy', where its run is known. -/
theorem wpList_copy_known {P : Program} (w : World) {ops : Array Oper} {rest : List Oper} {o : Oper} {a : Act} {Q : Exit → Act → World → Prop} (hgd : o.guard = none) (d s : Operand) (t t' : TypeId)
    (ho : o.op = .call { callee := .builtin .copy, args := #[d, s], argTypes := #[t, t'] }) (v u : Value) (hd : a.eval d = v) (hs : a.eval s = u) {v' : Value} {w' : World}
    (hr : (Builtin.copy_ #[t, t'] o.type #[v, u]).run P w = .ok v' w') (h : wpList P ops Q rest (a.put o.dst v') w') : wpList P ops Q (o :: rest) a w := by
  refine wpList_plain hgd fun K hK => ?_
  unfold Oper.wp
  simp only [execOp, ho, resolve, invoke, builtin, Sem.run_bind, Sem.run_pure, Result.andThen_ok, List.map_toArray, List.map_cons, List.map_nil, hd, hs, hr]
  exact hK _ _ h
theorem step_copy_known {P : Program} {ops : Array Oper} {o : Oper} {a : Act} {w : World} {K : Act → World → Prop} {Q : Exit → Act → World → Prop} {E : Prop}
    (hg : o.guard = none) (d x : Operand) (dT sT : TypeId) (hop : o.op = Op.call { callee := Callee.builtin Builtin.copy, args := #[d, x], argTypes := #[dT, sT] })
    (v u : Value) (hd : a.eval d = v) (hx : a.eval x = u) {v' : Value} {w' : World} (hr : (Builtin.copy_ #[dT, sT] o.type #[v, u]).run P w = .ok v' w') (hK : K (a.put o.dst v') w') :
    if Region.wanted o (yielded ops a.tmps) = true then Oper.wp P o a w K Q else E := by
  rw [if_pos (by simp [Region.wanted, hg])]
  unfold Oper.wp
  simp only [execOp, hop, resolve, invoke, builtin, Sem.run_bind, Sem.run_pure, Result.andThen_ok, List.map_toArray, List.map_cons, List.map_nil, hd, hx, hr]
  exact hK

/-- copy into a row of one-cell elements. -/
theorem run_copy_blk {P : Program} (w : World) (dT sT ty elem : TypeId) (hu : P.underlying dT = some (.slice elem)) (hs : (P.info? elem).map (·.size) = some 1)
    (g off dLen dCap : Nat) (a : Addr) (sLen sCap : Nat) (cur : List Value) (t : TypeId) (cs : List Value) (hg : Blk w g cur t) (hn : cs.length = Nat.min sLen dLen)
    (hsrc : ∀ j v, cs[j]? = some v → w.cell? (a.add j) = some v) (hfit : off + cs.length ≤ cur.length) (h1 : ∀ v ∈ cs, v.oneCell' = true) :
    (Builtin.copy_ #[dT, sT] ty #[.slice (some ⟨g, off, none⟩) dLen dCap, .slice (some a) sLen sCap]).run P w =
      .ok (goInt cs.length) (w.setRow g (cur.take off ++ cs ++ cur.drop (off + cs.length)).toArray) := by
  have := run_copy_row (P := P) w dT sT ty elem g off dLen dCap a sLen sCap cur.toArray t cs hu hs hg hn hsrc (by simpa using hfit) h1
  simpa using this

/-- make([]T, n), T of one cell. -/
theorem run_make_blk {P : Program} {t e : TypeId} {z : Value} {by_ : Nat} (ht : P.underlying t = some (.slice e)) (hi : (P.info? e).map (fun i => (i.zero, i.size, i.bytes)) = some (some z, 1, by_)) (hz : z.cells = #[z])
    (n : Nat) (hb : by_ * n ≤ 281474976710656) (h63 : n ≤ 9223372036854775807) (k : IntKind) (w : World) :
    (Instr.makeSlice t (.int k (n : Int)) (.int k (n : Int))).run P w = .ok (.slice (some ⟨w.heap.size, 0, none⟩) n n) (w.alloc (.cells (List.replicate n z).toArray e)) := by
  obtain ⟨i, hi0, hz0, hs0, hb0⟩ := info_of hi
  have hr := run_make (P := P) w t e i z ht hi0 hz0 k k n n (by omega) (Int.le_refl _) (by rw [hb0, ← Int.natCast_mul]; omega) (by omega)
  rw [hr, hz, hs0]
  simp only [Int.toNat_natCast, Nat.mul_one]
  congr 3
  rw [← toList_madeCells_one]

/-- ^b on a uint64. -/
theorem u64_not (b : Int) (h0 : 0 ≤ b) (h1 : b ≤ 18446744073709551615) : bits .xor .u64 IntKind.u64.max b = 18446744073709551615 - b := by
  obtain ⟨a, rfl⟩ := Int.eq_ofNat_of_zero_le h0
  show IntKind.u64.wrap ((BitVec.ofInt 64 18446744073709551615 ^^^ BitVec.ofInt 64 (a : Int)).toNat : Int) = _
  have h2 : BitVec.ofInt 64 18446744073709551615 = BitVec.allOnes 64 := by decide
  rw [h2, BitVec.allOnes_xor, BitVec.toNat_not, BitVec.ofInt_natCast, BitVec.toNat_ofNat]
  simp only [IntKind.wrap, IntKind.bits, IntKind.signed]
  simp
  omega
theorem ret_int {k : IntKind} {a b : Int} (h : a = b) : Ending.returned (.int k a) = .returned (.int k b) := by rw [h]
theorem ret_bool {a b : Bool} (h : a = b) : Ending.returned (.bool a) = .returned (.bool b) := by rw [h]

theorem toHid {p : Prop} (h : p) : Hid p := h
end Go.Proofs.Ytkfmhabplcikiaa
