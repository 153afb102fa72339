/-
  Texts laid together: Kit, Tk, Base, Ref, Ref2, Ref3, Ref4, Pure, RPush, RCopy, RPut, RDel, RNewK, Le4, RNew0, RCut, RFit3, RFind3, RPut3, RDel3, RNew, RAny, AFns, AKeys, Map, Fns, Fns2, Fns3, HCopy, HKeys, LRow, LFns, LRoom, LOrd, LOps, LNew, LKeys, LOwn, LTied, LClone, LCopy, TPath, TTree, TWith.
-/
import Derived.WalkKit
import Derived.WalkSpells
import Derived.WalkLawsBesides
import Derived.WalkSmall
import Derived.Deep.QuietTactic
import Derived.BigQuiet
import Derived.Lib.AppendZeros
import Derived.Lib.AppendZerosOnto
import Derived.Lib.Overlaps
import Derived.Laws.IdiomCopy
import Derived.Deep.RegionHeld3
import Derived.Test.YtmhhahmjkopjhaaRows
import Derived.Laws.BytesArg
import Derived.Deep.DrawnRows
import Derived.Deep.CutRange
import Derived.Lib.SliceRun
import Derived.Maps.RangeWalk
import Derived.Maps.Ext
import Derived.Deep.WholeRow
import Derived.Lib.ConvBytes
import Derived.Laws.ByValue
import Derived.Deep.RegionWith
import Derived.Deep.Trees
set_option maxRecDepth 100000
set_option maxHeartbeats 8000000
section
namespace Go.Proofs.Ytmhhahmjkopjhaa
open Go.RowKit
def Blk (w : World) (b : Nat) (cs : List Value) (t : TypeId) : Prop := w.heap[b]? = some (.cells cs.toArray t (0, 0))
theorem Blk.lt {w : World} {b : Nat} {cs : List Value} {t : TypeId} (h : Blk w b cs t) : b < w.heap.size := (Array.getElem?_eq_some_iff.1 h).1
theorem Blk.cell {w : World} {b : Nat} {cs : List Value} {t : TypeId} (h : Blk w b cs t) {i : Nat} {v : Value} (hi : cs[i]? = some v) : w.cell? ⟨b, i, none⟩ = some v := by
 unfold Blk at h
 simp [World.cell?, h, hi]
theorem Blk.cellN {w : World} {b : Nat} {cs : List Value} {t : TypeId} (h : Blk w b cs t) {i : Nat} (hi : i < cs.length) : w.cell? ⟨b, i, none⟩ = some cs[i] := h.cell (List.getElem?_eq_getElem hi)
theorem Blk.frozen {w : World} {b : Nat} {cs : List Value} {t : TypeId} (h : Blk w b cs t) (i : Nat) : w.frozen? ⟨b, i, none⟩ = false := by
 unfold Blk at h
 simp [World.frozen?, h]
theorem Blk.shape {w : World} {b : Nat} {cs : List Value} {t : TypeId} (h : Blk w b cs t) : w.shape? b = some (t, cs.length) := by
 unfold Blk at h
 simp [World.shape?, h]
theorem Blk.of_heap {w w' : World} {b : Nat} {cs : List Value} {t : TypeId} (h : Blk w b cs t) (he : w'.heap[b]? = w.heap[b]?) : Blk w' b cs t := by
 unfold Blk at *
 rw [he, h]
theorem Blk.drew {w : World} {b : Nat} {cs : List Value} {t : TypeId} (h : Blk w b cs t) : Blk w.drew b cs t := h
theorem Blk.drewN {w : World} {b : Nat} {cs : List Value} {t : TypeId} (h : Blk w b cs t) (n : Nat) : Blk (w.drewN n) b cs t := h
theorem Blk.alloc {w : World} {b : Nat} {cs : List Value} {t : TypeId} (h : Blk w b cs t) (o : Obj) : Blk (w.alloc o) b cs t := h.of_heap (Below.heap_alloc w o b h.lt)
theorem Blk.new (w : World) (cs : List Value) (t : TypeId) : Blk (w.alloc (.cells cs.toArray t)) w.heap.size cs t := by
 unfold Blk
 exact heap_alloc_new w _
theorem Blk.newA (w : World) (arr : Array Value) (cs : List Value) (t : TypeId) (h : arr.toList = cs) : Blk (w.alloc (.cells arr t)) w.heap.size cs t := by
 subst h
 have := Blk.new w arr.toList t
 simpa using this
theorem Blk.setCell {w : World} {b : Nat} {cs : List Value} {t : TypeId} (h : Blk w b cs t) (i : Nat) (v : Value) : Blk (w.setCell ⟨b, i, none⟩ v) b (cs.set i v) t := by
 unfold Blk at *
 simp only [World.setCell, Array.getElem?_modify, ↓reduceIte, h, Option.map_some]
 simp
theorem Blk.setCell_other {w : World} {b : Nat} {cs : List Value} {t : TypeId} (h : Blk w b cs t) (a : Addr) (v : Value) (hne : b ≠ a.block) : Blk (w.setCell a v) b cs t :=
 h.of_heap (Below.heap_setCell w a v b hne)
theorem Blk.setRow {w : World} {b : Nat} {cs : List Value} {t : TypeId} (h : Blk w b cs t) (ds : List Value) : Blk (w.setRow b ds.toArray) b ds t := setRow_heap w b _ _ t _ h
theorem Blk.setRow_other {w : World} {b : Nat} {cs : List Value} {t : TypeId} (h : Blk w b cs t) (g : Nat) (ds : Array Value) (hne : b ≠ g) : Blk (w.setRow g ds) b cs t :=
 h.of_heap (Go.setRow_other w g b ds hne)
structure Touch (S : List Nat) (w w' : World) : Prop where
 os : w'.os = w.os
 tape : w'.tape = w.tape
 output : w'.output = w.output
 size : w.heap.size ≤ w'.heap.size
 block : ∀ k, k < w.heap.size → k ∉ S → w'.heap[k]? = w.heap[k]?
theorem Touch.refl (S : List Nat) (w : World) : Touch S w w := ⟨rfl, rfl, rfl, Nat.le_refl _, fun _ _ _ => rfl⟩
theorem Touch.trans {S S' : List Nat} {a b c : World} (h : Touch S a b) (k : Touch S' b c) (hS : ∀ x ∈ S', x ∈ S ∨ a.heap.size ≤ x) : Touch S a c :=
 ⟨k.os.trans h.os, k.tape.trans h.tape, k.output.trans h.output, Nat.le_trans h.size k.size, fun i hi hn =>
  (k.block i (Nat.lt_of_lt_of_le hi h.size) (fun hx => by rcases hS i hx with h1 | h1; exact hn h1; omega)).trans (h.block i hi hn)⟩
theorem Touch.mono {S S' : List Nat} {a b : World} (h : Touch S a b) (hS : ∀ x ∈ S, x ∈ S' ∨ a.heap.size ≤ x) : Touch S' a b :=
 ⟨h.os, h.tape, h.output, h.size, fun i hi hn => h.block i hi (fun hx => by rcases hS i hx with h1 | h1; exact hn h1; omega)⟩
theorem Touch.nil {S : List Nat} {a b : World} (h : Touch [] a b) : Touch S a b := h.mono (fun _ hx => by cases hx)
theorem Touch.drew {S : List Nat} {a w : World} (h : Touch S a w) : Touch S a w.drew := ⟨h.os, h.tape, h.output, h.size, h.block⟩
theorem Touch.drewN {S : List Nat} {a w : World} (h : Touch S a w) (n : Nat) : Touch S a (w.drewN n) := ⟨h.os, h.tape, h.output, h.size, h.block⟩
theorem Touch.alloc {S : List Nat} {a w : World} (h : Touch S a w) (o : Obj) : Touch S a (w.alloc o) :=
 ⟨h.os, h.tape, h.output, Nat.le_trans h.size (by simp), fun k hk hn => (Below.heap_alloc w o k (Nat.lt_of_lt_of_le hk h.size)).trans (h.block k hk hn)⟩
theorem Touch.setCell {S : List Nat} {a w : World} (h : Touch S a w) (p : Addr) (v : Value) (hp : p.block ∈ S ∨ a.heap.size ≤ p.block) : Touch S a (w.setCell p v) :=
 ⟨h.os, h.tape, h.output, by simpa using h.size, fun k hk hn => (Below.heap_setCell w p v k (fun e => by subst e; rcases hp with h1 | h1; exact hn h1; omega)).trans (h.block k hk hn)⟩
theorem Touch.setRow {S : List Nat} {a w : World} (h : Touch S a w) (g : Nat) (ds : Array Value) (hp : g ∈ S ∨ a.heap.size ≤ g) : Touch S a (w.setRow g ds) :=
 ⟨h.os, h.tape, h.output, by simpa using h.size, fun k hk hn => (Go.setRow_other w g k ds (fun e => by subst e; rcases hp with h1 | h1; exact hn h1; omega)).trans (h.block k hk hn)⟩
theorem Touch.blk {S : List Nat} {w w' : World} (h : Touch S w w') {b : Nat} {cs : List Value} {t : TypeId} (hb : Blk w b cs t) (hn : b ∉ S) : Blk w' b cs t := hb.of_heap (h.block b hb.lt hn)
theorem Touch.cell {S : List Nat} {w w' : World} (h : Touch S w w') {p : Addr} {v : Value} (hc : w.cell? p = some v) (hn : p.block ∉ S) : w'.cell? p = some v :=
 (World.cell?_of_block (w := w) (h.block p.block (World.block_lt_of_cell? w p hc) hn)).trans hc
theorem Touch.below {w w' : World} (h : Touch [] w w') : Below w.heap.size w w' := ⟨h.os, h.tape, h.output, h.size, fun k hk => h.block k hk (by simp)⟩
def slV (g : Option Nat) (n cap : Nat) : Value := .slice (g.map fun b => ⟨b, 0, none⟩) n cap
theorem slV_none (n cap : Nat) : slV none n cap = .slice none n cap := rfl
theorem slV_some (b n cap : Nat) : slV (some b) n cap = .slice (some ⟨b, 0, none⟩) n cap := rfl
def RowAt (w : World) (e : TypeId) (sz : Nat) (g : Option Nat) (n cap : Nat) (cs : List Value) : Prop :=
 cs.length = n * sz ∧ n ≤ cap ∧ cap ≤ maxLen ∧ match g with
  | none => cap = 0
  | some b => ∃ rest, Blk w b (cs ++ rest) e ∧ cap * sz ≤ (cs ++ rest).length
theorem RowAt.touch {S : List Nat} {w w' : World} {e : TypeId} {sz : Nat} {g : Option Nat} {n cap : Nat} {cs : List Value} (h : RowAt w e sz g n cap cs) (ht : Touch S w w') (hg : ∀ b, g = some b → b ∉ S) : RowAt w' e sz g n cap cs := by
 obtain ⟨h1, h2, h3, h4⟩ := h
 refine ⟨h1, h2, h3, ?_⟩
 cases g with
 | none => exact h4
 | some b => obtain ⟨rest, hb, hc⟩ := h4; exact ⟨rest, ht.blk hb (hg b rfl), hc⟩
theorem splice_rest (cs rest news : List Value) (k : Nat) (h : cs.length = k) :
  (cs ++ rest).toArray.toList.take k ++ news ++ (cs ++ rest).toArray.toList.drop (k + news.length) = cs ++ news ++ rest.drop news.length := by
 subst h
 simp [List.drop_append]
theorem run_append_row {P : Program} (w : World) (t ty e : TypeId) (i : TypeInfo) (z : Value) (sz : Nat) (ht : P.underlying t = some (.slice e)) (hi : P.info? e = some i) (hz : i.zero = some z)
  (hsz : i.size = sz) (hzs : z.cells.size = sz) (hpos : 0 < sz) (g : Option Nat) (n cap : Nat) (cs : List Value) (h : RowAt w e sz g n cap cs)
  (a : Addr) (m c : Nat) (news : List Value) (hl : news.length = m * sz) (hnews : ∀ j v, news[j]? = some v → w.cell? (a.add j) = some v) (h1 : ∀ u ∈ news, u.oneCell' = true)
  (hbig : (n + m) * i.bytes ≤ 140737488355328) (hmax : n + m ≤ 140737488355328) :
  ∃ g' cap' w', (Builtin.append_ #[t, t] ty #[slV g n cap, .slice (some a) m c]).run P w = .ok (slV g' (n + m) cap') w' ∧ RowAt w' e sz g' (n + m) cap' (cs ++ news) ∧ Touch g.toList w w' ∧
   (g' = g ∨ g' = some w.heap.size) ∧ (g' = some w.heap.size → w.heap.size < w'.heap.size) := by
 subst hsz
 obtain ⟨hcl, hnc, hcm, hg⟩ := h
 have hlen : (cs ++ news).length = (n + m) * i.size := by rw [List.length_append, hcl, hl, Nat.add_mul]
 have hgrow : ∀ old, old < n + m → RowAt (w.drew.alloc (.cells (cs.toArray ++ news.toArray ++ Builtin.zeroCells z.cells (grownCap w (n + m) old e - (n + m))) e)) e i.size (some w.heap.size) (n + m) (grownCap w (n + m) old e) (cs ++ news) := by
  intro old ho
  have hge := grownCap_ge w (n + m) old e
  have hle := grownCap_le_maxLen w (n + m) old e (by unfold maxLen; omega)
  refine ⟨hlen, hge, hle, (Builtin.zeroCells z.cells (grownCap w (n + m) old e - (n + m))).toList, ?_, ?_⟩
  ·exact Blk.newA w.drew _ _ e (by simp)
  ·rw [List.length_append, hlen, Array.length_toList, size_zeroCells, hzs, ← Nat.add_mul]
   exact Nat.mul_le_mul_right _ (by omega)
 cases g with
 | none =>
  have hg : cap = 0 := hg
  subst hg
  obtain rfl : n = 0 := by omega
  obtain rfl : cs = [] := List.eq_nil_of_length_eq_zero (by simpa using hcl)
  by_cases hm : m = 0
  ·subst hm
   obtain rfl : news = [] := List.eq_nil_of_length_eq_zero (by simpa using hl)
   refine ⟨none, 0, w, ?_, ⟨by simp, by omega, by unfold maxLen; omega, rfl⟩, Touch.refl _ _, Or.inl rfl, fun h => by cases h⟩
   simp [slV, Builtin.append_, run_underlying ht, sizeOf, typeInfo, hi, Builtin.lenOf, Builtin.firstCells, loadCells, loadCellsFrom]
  ·have hr := run_append_nil (P := P) w t ty e i z ht hi hz a m c news hl hnews (by omega) (by omega) (by simp only [Nat.zero_add] at hbig; omega)
   have hgr := hgrow 0 (by omega)
   simp only [Nat.zero_add, List.nil_append, Array.empty_append] at hgr ⊢
   exact ⟨some w.heap.size, _, _, hr, hgr, (Touch.refl _ w).drew.alloc _, Or.inr rfl, fun _ => by simp⟩
 | some b =>
  obtain ⟨rest, hb, hcap⟩ := hg
  by_cases hroom : n + m ≤ cap
  ·have hfit : n * i.size + news.length ≤ (cs ++ rest).toArray.size := by
    rw [hl, ← Nat.add_mul]
    exact Nat.le_trans (Nat.mul_le_mul_right _ hroom) (by simpa using hcap)
   have hr := run_append_room (P := P) w t ty e i ht hi b n cap _ hb a m c news hl hnews h1 hroom hfit
   refine ⟨some b, cap, _, hr, ⟨hlen, hroom, hcm, rest.drop news.length, ?_, ?_⟩, (Touch.refl _ w).setRow _ _ (Or.inl (by simp)), Or.inl rfl, fun h => by have := hb.lt; injection h with h; omega⟩
   ·rw [splice_rest cs rest news (n * i.size) hcl]
    exact hb.setRow _
   ·simp only [List.length_append, List.length_drop] at hcap ⊢
    simp at hfit
    omega
  ·have hold : ∀ j u, cs[j]? = some u → w.cell? ((⟨b, 0, none⟩ : Addr).add j) = some u := fun j u hj => by
    have hadd : (⟨b, 0, none⟩ : Addr).add j = ⟨b, j, none⟩ := by unfold Addr.add; split <;> simp_all
    rw [hadd]
    exact hb.cell (by rw [List.getElem?_append_left (List.getElem?_eq_some_iff.1 hj).1]; exact hj)
   have hr := run_append_grow (P := P) w t ty e i z ht hi hz ⟨b, 0, none⟩ n cap cs hcl hold a m c news hl hnews (by omega) (by omega) (growslice_fits (by omega) hbig)
   exact ⟨some w.heap.size, _, _, hr, hgrow cap (by omega), (Touch.refl _ w).drew.alloc _, Or.inr rfl, fun _ => by simp⟩
theorem info_of {P : Program} {e : TypeId} {z : Option Value} {s b : Nat} (h : (P.info? e).map (fun i => (i.zero, i.size, i.bytes)) = some (z, s, b)) :
  ∃ i, P.info? e = some i ∧ i.zero = z ∧ i.size = s ∧ i.bytes = b := by
 cases hq : P.info? e with
 | none => simp [hq] at h
 | some i => simp [hq] at h; exact ⟨i, rfl, h.1, h.2.1, h.2.2⟩
theorem size_of_info {P : Program} {e : TypeId} {z : Option Value} {s b : Nat} (h : (P.info? e).map (fun i => (i.zero, i.size, i.bytes)) = some (z, s, b)) : (P.info? e).map (·.size) = some s := by
 obtain ⟨i, hi, _, hs, _⟩ := info_of h
 simp [hi, hs]
theorem sizeOf_of_info {P : Program} {e : TypeId} {z : Option Value} {s b : Nat} (h : (P.info? e).map (fun i => (i.zero, i.size, i.bytes)) = some (z, s, b)) (w : World) : (Go.sizeOf e).run P w = .ok s w := by
 obtain ⟨i, hi, _, hs, _⟩ := info_of h
 simp [sizeOf, typeInfo, hi, hs]
theorem step_copy_known {P : Program} {ops : Array Oper} {o : Oper} {a : Act} {w : World} {K : Act → World → Prop} {Q : Exit → Act → World → Prop} {E : Prop}
  (hg : o.guard = none) (d x : Operand) (dT sT : TypeId) (hop : o.op = Op.call { callee := Callee.builtin Builtin.copy, args := #[d, x], argTypes := #[dT, sT] })
  (v u : Value) (hd : a.eval d = v) (hx : a.eval x = u) {v' : Value} {w' : World} (hr : (Builtin.copy_ #[dT, sT] o.type #[v, u]).run P w = .ok v' w') (hK : K (a.put o.dst v') w') :
  if Region.wanted o (yielded ops a.tmps) = true then Oper.wp P o a w K Q else E := by
 rw [if_pos (by simp [Region.wanted, hg])]
 unfold Oper.wp
 simp only [execOp, hop, resolve, invoke, builtin, Sem.run_bind, Sem.run_pure, Result.andThen_ok, List.map_toArray, List.map_cons, List.map_nil, hd, hx, hr]
 exact hK
theorem run_copy_blk {P : Program} (w : World) (dT sT ty elem : TypeId) (hu : P.underlying dT = some (.slice elem)) (hs : (P.info? elem).map (·.size) = some 1)
  (g off dLen dCap : Nat) (a : Addr) (sLen sCap : Nat) (cur : List Value) (t : TypeId) (cs : List Value) (hg : Blk w g cur t) (hn : cs.length = Nat.min sLen dLen)
  (hsrc : ∀ j v, cs[j]? = some v → w.cell? (a.add j) = some v) (hfit : off + cs.length ≤ cur.length) (h1 : ∀ v ∈ cs, v.oneCell' = true) :
  (Builtin.copy_ #[dT, sT] ty #[.slice (some ⟨g, off, none⟩) dLen dCap, .slice (some a) sLen sCap]).run P w =
   .ok (goInt cs.length) (w.setRow g (cur.take off ++ cs ++ cur.drop (off + cs.length)).toArray) := by
 have := run_copy_row (P := P) w dT sT ty elem g off dLen dCap a sLen sCap cur.toArray t cs hu hs hg hn hsrc (by simpa using hfit) h1
 simpa using this
theorem run_make_blk {P : Program} {t e : TypeId} {z : Value} {by_ : Nat} (ht : P.underlying t = some (.slice e)) (hi : (P.info? e).map (fun i => (i.zero, i.size, i.bytes)) = some (some z, 1, by_)) (hz : z.cells = #[z])
  (n : Nat) (hb : by_ * n ≤ 281474976710656) (h63 : n ≤ 9223372036854775807) (k : IntKind) (w : World) :
  (Instr.makeSlice t (.int k (n : Int)) (.int k (n : Int))).run P w = .ok (.slice (some ⟨w.heap.size, 0, none⟩) n n) (w.alloc (.cells (List.replicate n z).toArray e)) := by
 obtain ⟨i, hi0, hz0, hs0, hb0⟩ := info_of hi
 have hr := run_make (P := P) w t e i z ht hi0 hz0 k k n n (by omega) (Int.le_refl _) (by rw [hb0, ← Int.natCast_mul]; omega) (by omega)
 rw [hr, hz, hs0]
 simp only [Int.toNat_natCast, Nat.mul_one]
 congr 3
 rw [← toList_madeCells_one]
theorem u64_not (b : Int) (h0 : 0 ≤ b) (h1 : b ≤ 18446744073709551615) : bits .xor .u64 IntKind.u64.max b = 18446744073709551615 - b := by
 obtain ⟨a, rfl⟩ := Int.eq_ofNat_of_zero_le h0
 show IntKind.u64.wrap ((BitVec.ofInt 64 18446744073709551615 ^^^ BitVec.ofInt 64 (a : Int)).toNat : Int) = _
 have h2 : BitVec.ofInt 64 18446744073709551615 = BitVec.allOnes 64 := by decide
 rw [h2, BitVec.allOnes_xor, BitVec.toNat_not, BitVec.ofInt_natCast, BitVec.toNat_ofNat]
 simp only [IntKind.wrap, IntKind.bits, IntKind.signed]
 simp
 omega
theorem ret_bool {a b : Bool} (h : a = b) : Ending.returned (.bool a) = .returned (.bool b) := by rw [h]
theorem toHid {p : Prop} (h : p) : Hid p := h
end Go.Proofs.Ytmhhahmjkopjhaa
end
section
namespace Go.Proofs.Ytmhhahmjkopjhaa
open Go.RowKit
theorem AP : (∀ {α : Type} {l : List α} {i : Nat} (h : i < l.toArray.size), l.toArray[i] = l[i]'(by simpa using h)) ∧
 (∀ {α : Type} {a : α} {l : List α} (h : 0 < (a :: l).length), (a :: l)[0] = a) ∧
 (∀ {α : Type} {a : α} {l : List α} {i : Nat} (h : i + 1 < (a :: l).length), (a :: l)[i + 1] = l[i]'(by simpa using h)) ∧
 (∀ {α : Type} {l : List α} {i : Nat} {a : α}, l.toArray.setIfInBounds i a = (l.set i a).toArray) ∧
 (∀ {α : Type} {l : List α} {a b : α}, (a :: l).set 0 b = b :: l) ∧
 (∀ {α : Type} {l : List α} {i : Nat} {a b : α}, (a :: l).set (i + 1) b = a :: l.set i b) :=
 ⟨fun _ => rfl, fun _ => rfl, fun _ => rfl, List.setIfInBounds_toArray .., List.set_cons_zero, List.set_cons_succ⟩
theorem tk {P : Program} {ops : Array Oper} {Q : Exit → Act → World → Prop} {md : Region.Mode} {S : World → Prop} (i : Nat) {oi : Oper} {v : Value} {fuel : Nat} {listed : Array Bool} {a : Act} {w : World} (hi : ops[i]? = some oi)
  (hv : ∀ w, S w → (execOp a.eval oi).run P w = .ok (.value v) w) (h : wpAnyH P md ops Q S fuel (listed.setIfInBounds i true) (a.put oi.dst v) w)
  (hs : Region.noSelect ops = true := by kernel_rfl) (hf : Region.free md ops listed i = true := by kernel_rfl) (hr : (Region.ready md ops listed).contains i = true := by kernel_rfl)
  (hQ : ∀ c a w, Q (.panic c) (a.put oi.dst v) w → Q (.panic c) a w := by exact fun _ _ _ h => h) (hw : Region.wanted oi (yielded ops a.tmps) = true := by rfl) (hS : S w := by assumption) : wpAnyH P md ops Q S (fuel + 1) listed a w :=
 wpAnyH_take hi hs hf hr hQ (Or.inl ⟨hw, hv⟩) hS h
end Go.Proofs.Ytmhhahmjkopjhaa
end
section
namespace Go.Proofs.Ytmhhahmjkopjhaa
open Go.RowKit
def num (bs : Nat → Int) : Nat → Int
 | 0 => 0
 | n + 1 => num bs n + bs n * 256 ^ n
theorem num_bd (bs : Nat → Int) : ∀ n, (∀ j, j < n → 0 ≤ bs j ∧ bs j ≤ 255) → 0 ≤ num bs n ∧ num bs n < 256 ^ n
 | 0, _ => by simp [num]
 | n + 1, h => by
  have h1 := num_bd bs n (fun j hj => h j (by omega))
  have h2 := h n (by omega)
  have h3 : (0 : Int) < 256 ^ n := Int.pow_pos (by omega)
  have h4 : bs n * 256 ^ n ≤ 255 * 256 ^ n := Int.mul_le_mul_of_nonneg_right h2.2 (by omega)
  have h5 : 0 ≤ bs n * 256 ^ n := Int.mul_nonneg h2.1 (by omega)
  unfold num
  rw [Int.pow_succ]
  omega
def KeyAt (w : World) (sa : Option Addr) (sl : Nat) (bs : List Int) : Prop := sl = bs.length ∧ (∀ x ∈ bs, 0 ≤ x ∧ x ≤ 255) ∧ bs.length ≤ 9223372036854775807 ∧
 (1 ≤ bs.length → ∃ b off, sa = some ⟨b, off, none⟩ ∧ ∀ j, j < bs.length → w.cell? ⟨b, off + j, none⟩ = some (.int .u8 (bs.getD j 0)))
theorem getD_bd {bs : List Int} (h : ∀ x ∈ bs, 0 ≤ x ∧ x ≤ 255) (j : Nat) : 0 ≤ bs.getD j 0 ∧ bs.getD j 0 ≤ 255 := by
 rw [List.getD_eq_getElem?_getD]
 cases hq : bs[j]? with
 | none => simp
 | some x => exact h x (List.mem_of_getElem? hq)
theorem KeyAt.nums {w : World} {sa : Option Addr} {sl : Nat} {bs : List Int} (h : KeyAt w sa sl bs) (n : Nat) : 0 ≤ num (fun j => bs.getD j 0) n ∧ num (fun j => bs.getD j 0) n < 256 ^ n := num_bd _ n fun j _ => getD_bd h.2.1 j
theorem info3 : (Try.prog.info? 3).map (fun i => (i.zero, i.size, i.bytes)) = some (some (.int .i64 0), 1, 8) := by kernel_rfl
theorem info5 : (Try.prog.info? 5).map (fun i => (i.zero, i.size, i.bytes)) = some (some (.int .u8 0), 1, 1) := by kernel_rfl
def BlkF (w : World) (b : Nat) (cs : List Value) (t : TypeId) : Prop := ∃ fz : Nat × Nat, w.heap[b]? = some (.cells cs.toArray t fz) ∧ (fz = (0, 0) ∨ cs.length ≤ fz.1)
structure KS where
 b : Nat
 cap : Nat
 bs : List Int
def KS.v (k : KS) : Value := .slice (some ⟨k.b, 0, none⟩) k.bs.length k.cap
def KS.At (w : World) (k : KS) : Prop := (∃ rest, BlkF w k.b (k.bs.map (Value.int .u8) ++ rest) 5) ∧ (∀ x ∈ k.bs, 0 ≤ x ∧ x ≤ 255) ∧ k.bs.length ≤ 16 ∧ 1 ≤ k.bs.length ∧ k.bs.length ≤ k.cap
structure KLs (w0 w : World) (g : Option Nat) (cap : Nat) (l : List KS) : Prop where
 row : RowAt w 22 1 g l.length cap (l.map KS.v)
 own : ∀ b, g = some b → w0.heap.size ≤ b
 keys : ∀ k ∈ l, k.At w ∧ w0.heap.size ≤ k.b ∧ g ≠ some k.b
def KL (w0 w : World) (v : Value) (ks : List (List Int)) : Prop := ∃ g cap l, v = slV g l.length cap ∧ KLs w0 w g cap l ∧ l.map KS.bs = ks
theorem KeyAt.touch {w w' : World} {sa : Option Addr} {sl : Nat} {bs : List Int} (h : KeyAt w sa sl bs) (ht : Touch [] w w') : KeyAt w' sa sl bs := by
 obtain ⟨h1, h2, h3, h4⟩ := h
 refine ⟨h1, h2, h3, fun hp => ?_⟩
 obtain ⟨b, off, ha, hb⟩ := h4 hp
 exact ⟨b, off, ha, fun j hj => ht.cell (hb j hj) (by simp)⟩
structure OpC where
 k : Int
 sa : Option Addr
 sl : Nat
 sc : Nat
 bs : List Int
 fl : Int
structure OpC.Ok (w : World) (o : OpC) : Prop where
 k0 : -9223372036854775808 ≤ o.k
 k1 : o.k ≤ 9223372036854775807
 f0 : 0 ≤ o.fl
 f1 : o.fl ≤ 18446744073709551615
 key : KeyAt w o.sa o.sl o.bs
def Script (w : World) (sa : Option Addr) (n : Nat) (f : Nat → OpC) : Prop := n = 0 ∨ ∃ b off, sa = some ⟨b, off, none⟩ ∧ ∀ j, j < n → (f j).Ok w ∧ w.cell? ⟨b, off + j * 3, none⟩ = some (.int .i64 (f j).k) ∧
 w.cell? ⟨b, off + j * 3 + 1, none⟩ = some (.slice (f j).sa (f j).sl (f j).sc) ∧ w.cell? ⟨b, off + j * 3 + 2, none⟩ = some (.int .u64 (f j).fl)
def opV (o : OpC) : Value := .agg #[.int .i64 o.k, .slice o.sa o.sl o.sc, .int .u64 o.fl]
theorem kind4 (k0 : Int) : ∃ q : Nat, q < 4 ∧ (IntKind.u64.wrap k0).tmod 4 = q := by
 rw [IntKind.wrap_u64, Int.tmod_eq_emod_of_nonneg (by omega)]
 exact ⟨(k0 % 18446744073709551616 % 4).toNat, by omega, by omega⟩
end Go.Proofs.Ytmhhahmjkopjhaa
end
section
namespace Go.Proofs.Ytmhhahmjkopjhaa
open Go.RowKit
theorem conv_zero {P : Program} (w : World) (src dst e : TypeId) (hs : P.underlying src = some (.slice e)) (he : P.underlying e = some (.int .u8)) (hd : P.underlying dst = some .string) (p : Option Addr) (c : Nat) :
  (convert src dst (.slice p 0 c)).run P w = .ok (.string ByteArray.empty) w := by
 rw [run_convert_bytes_string w src dst e _ 0 c hs he hd]
 cases p <;> simp [Conv.bytesToString, loadCells]
 all_goals rfl
theorem KeyAt.conv {w : World} {sa : Option Addr} {sl : Nat} {bs : List Int} (h : KeyAt w sa sl bs) (sc : Nat) : (convert 22 9 (.slice sa sl sc)).run Try.prog w = .ok (.string (strOfNums bs)) w := by
 obtain ⟨h1, h2, h3, h4⟩ := h
 subst h1
 by_cases hp : 1 ≤ bs.length
 ·obtain ⟨k, off, rfl, hb⟩ := h4 hp
  exact run_convert_bytes_arg w 22 5 Try.underlying22 Try.underlying5 k off bs.length sc bs rfl (fun i hi => hb i hi) 9 Try.underlying9
 ·obtain rfl : bs = [] := List.eq_nil_of_length_eq_zero (by omega)
  exact conv_zero w 22 9 5 Try.underlying22 Try.underlying5 Try.underlying9 sa sc
theorem str_inj {a b : List Int} (ha : ∀ x ∈ a, 0 ≤ x ∧ x ≤ 255) (hb : ∀ x ∈ b, 0 ≤ x ∧ x ≤ 255) (h : strOfNums a = strOfNums b) : a = b := by
 have h1 : a.map (fun n => UInt8.ofNat n.toNat) = b.map (fun n => UInt8.ofNat n.toNat) := by rw [← strOfNums_data, ← strOfNums_data, h]
 clear h
 induction a generalizing b with
 | nil => cases b with
  | nil => rfl
  | cons y b => simp at h1
 | cons x a ih =>
  cases b with
  | nil => simp at h1
  | cons y b =>
   simp only [List.map_cons, List.cons.injEq] at h1
   have hx := ha x (by simp)
   have hy := hb y (by simp)
   have h2 : (UInt8.ofNat x.toNat).toNat = (UInt8.ofNat y.toNat).toNat := by rw [h1.1]
   simp only [UInt8.toNat_ofNat'] at h2
   have : x = y := by omega
   rw [this, ih (fun z hz => ha z (by simp [hz])) (fun z hz => hb z (by simp [hz])) h1.2]
structure RX where
 r : Nat
 kind : Int
 size : Int
 max : Int
 clock : Int
 g : Option Nat
 scap : Nat
 h : Option Nat
 wcap : Nat
 slots : List (Option KS)
 whens : List Int
def slotV : Option KS → Value
 | none => .slice none 0 0
 | some k => k.v
def RX.top (x : RX) : List Nat := x.r :: (x.g.toList ++ x.h.toList)
def RX.blocks (x : RX) : List Nat := x.top ++ x.slots.filterMap (Option.map KS.b)
def RX.touched (x : RX) (at_ : Int) : RX := { x with clock := x.clock + 1, whens := if 0 ≤ at_ then x.whens.set at_.toNat (x.clock + 1) else x.whens }
def sameN (l : List (Option KS)) (bs : List Int) : Option Nat := l.findIdx? fun s => s.map KS.bs == some bs
def sameI (l : List (Option KS)) (bs : List Int) : Int := match sameN l bs with
 | some i => i
 | none => -1
end Go.Proofs.Ytmhhahmjkopjhaa
end
section
namespace Go.Proofs.Ytmhhahmjkopjhaa
open Go.RowKit
structure Turned (x x' : RX) : Prop where
 r : x'.r = x.r
 kind : x'.kind = x.kind
 size : x'.size = x.size
 g : x'.g = x.g
 h : x'.h = x.h
 slots : x'.slots = x.slots
 lens : x'.whens.length = x.whens.length
 clock0 : x.clock ≤ x'.clock
 clock1 : x'.clock ≤ x.clock + 1
structure RUp (x : RX) : Prop where
 lens : x.whens.length = x.slots.length
 many : x.slots.length ≤ 64
 clock0 : 0 ≤ x.clock
 clock1 : x.clock ≤ 1000000000
def rfindI (x : RX) (bs : List Int) : Int := if (bs.length : Int) = x.size then sameI x.slots bs else -1
def rputI (x : RX) (bs : List Int) (fl : Int) : Int × Int :=
 if (bs.length : Int) = x.size then (if 2 < fl then (0, 72) else if sameI x.slots bs < 0 then (0, 71) else if fl = 1 then (0, 70) else (sameI x.slots bs, 0)) else (0, 2)
end Go.Proofs.Ytmhhahmjkopjhaa
end
section
namespace Go.Proofs.Ytmhhahmjkopjhaa
open Go.RowKit
attribute [local go_sem ↓] Go.wp_at_zero Go.wp_at_succ
def keysOf (l : List (Option KS)) : List (List Int) := l.filterMap (Option.map KS.bs)
end Go.Proofs.Ytmhhahmjkopjhaa
end
section
namespace Go.Proofs.Ytmhhahmjkopjhaa
open Go.RowKit
attribute [local go_sem ↓] Go.wp_at_zero Go.wp_at_succ
end Go.Proofs.Ytmhhahmjkopjhaa
end
section
namespace Go.Proofs.Ytmhhahmjkopjhaa
open Go.RowKit
structure PX where
 kind : Int
 size : Int
 max : Int
 clock : Int
 slots : List (Option (List Int))
 whens : List Int
def RX.p (x : RX) : PX := ⟨x.kind, x.size, x.max, x.clock, x.slots.map (Option.map KS.bs), x.whens⟩
def idxI : Option Nat → Int
 | some i => i
 | none => -1
def sameP (l : List (Option (List Int))) (bs : List Int) : Option Nat := l.findIdx? fun s => s == some bs
def freeP (l : List (Option (List Int))) : Option Nat := l.findIdx? Option.isNone
def oldFrom (ws : List Int) : Nat → Nat → Nat
 | 0, a => a
 | n + 1, a => oldFrom ws n (if ws.getD (ws.length - (n + 1)) 0 < ws.getD a 0 then ws.length - (n + 1) else a)
theorem oldFrom_succ (ws : List Int) (q a : Nat) : oldFrom ws (q + 1) a = oldFrom ws q (if ws.getD (ws.length - (q + 1)) 0 < ws.getD a 0 then ws.length - (q + 1) else a) := rfl
def oldP (ws : List Int) : Nat := oldFrom ws ws.length 0
def PX.touch (x : PX) (a : Option Nat) : PX := { x with clock := x.clock + 1, whens := match a with
 | some i => x.whens.set i (x.clock + 1)
 | none => x.whens }
def PX.find (x : PX) (bs : List Int) : Option Nat × PX :=
 if (bs.length : Int) = x.size then (sameP x.slots bs, x.touch (sameP x.slots bs)) else (none, x)
def PX.room (x : PX) : Option Nat := match freeP x.slots with
 | some f => some f
 | none => if x.kind = 2 then some (oldP x.whens) else none
def PX.laid (x : PX) (at_ : Nat) (bs : List Int) : PX := ({ x with slots := x.slots.set at_ (some bs) } : PX).touch (some at_)
def PX.put (x : PX) (bs : List Int) (fl : Int) : (Int × Bool × Int) × PX :=
 if (bs.length : Int) = x.size then
  if 2 < fl then ((0, false, 72), x)
  else match sameP x.slots bs with
   | some i => if fl = 1 then ((0, false, 70), x) else (((i : Int), false, 0), x.touch (some i))
   | none => if x.kind = 0 then ((0, false, 71), x) else if fl = 2 then ((0, false, 14), x) else match x.room with
    | some f => (((f : Int), true, 0), x.laid f bs)
    | none => ((0, false, 71), x)
 else ((0, false, 2), x)
def PX.del (x : PX) (bs : List Int) : (Int × Int) × PX :=
 if x.kind = 0 then ((0, 2), x) else if (bs.length : Int) = x.size then match sameP x.slots bs with
  | some i => (((i : Int), 0), { x with slots := x.slots.set i none })
  | none => ((0, 14), x)
 else ((0, 2), x)
def PX.keys (x : PX) : List (List Int) := x.slots.filterMap id
theorem sameP_lt {l : List (Option (List Int))} {bs : List Int} {i : Nat} (h : sameP l bs = some i) : i < l.length := by
 unfold sameP at h
 rw [List.findIdx?_eq_some_iff_getElem] at h
 exact h.1
theorem freeP_lt {l : List (Option (List Int))} {i : Nat} (h : freeP l = some i) : i < l.length := by
 unfold freeP at h
 rw [List.findIdx?_eq_some_iff_getElem] at h
 exact h.1
end Go.Proofs.Ytmhhahmjkopjhaa
end
section
namespace Go.Proofs.Ytmhhahmjkopjhaa
open Go.RowKit
end Go.Proofs.Ytmhhahmjkopjhaa
end
section
namespace Go.Proofs.Ytmhhahmjkopjhaa
open Go.RowKit
attribute [local go_sem ↓] Go.wp_at_zero Go.wp_at_succ
theorem step_append_known {P : Program} {ops : Array Oper} {o : Oper} {a : Act} {w : World} {K : Act → World → Prop} {Q : Exit → Act → World → Prop} {E : Prop}
  (hg : o.guard = none) (d x : Operand) (dT sT : TypeId) (hop : o.op = Op.call { callee := Callee.builtin Builtin.append, args := #[d, x], argTypes := #[dT, sT] })
  (v u : Value) (hd : a.eval d = v) (hx : a.eval x = u) {v' : Value} {w' : World} (hr : (Builtin.append_ #[dT, sT] o.type #[v, u]).run P w = .ok v' w') (hK : K (a.put o.dst v') w') :
  if Region.wanted o (yielded ops a.tmps) = true then Oper.wp P o a w K Q else E := by
 rw [if_pos (by simp [Region.wanted, hg])]
 unfold Oper.wp
 simp only [execOp, hop, resolve, invoke, builtin, Sem.run_bind, Sem.run_pure, Result.andThen_ok, List.map_toArray, List.map_cons, List.map_nil, hd, hx, hr]
 exact hK
end Go.Proofs.Ytmhhahmjkopjhaa
end
section
namespace Go.Proofs.Ytmhhahmjkopjhaa
open Go.RowKit
attribute [local go_sem ↓] Go.wp_at_zero Go.wp_at_succ
end Go.Proofs.Ytmhhahmjkopjhaa
end
section
namespace Go.Proofs.Ytmhhahmjkopjhaa
open Go.RowKit
end Go.Proofs.Ytmhhahmjkopjhaa
end
section
namespace Go.Proofs.Ytmhhahmjkopjhaa
open Go.RowKit
attribute [local go_sem ↓] Go.wp_at_zero Go.wp_at_succ
def RX.fresh (R sb wb : Nat) (kind size : Int) (m : Nat) : RX := ⟨R, kind, size, m, 0, some sb, m, some wb, m, List.replicate m none, List.replicate m 0⟩
end Go.Proofs.Ytmhhahmjkopjhaa
end
section
namespace Go.Proofs.Ytmhhahmjkopjhaa
open Go.RowKit
def byteOf (v : Int) (j : Nat) : Int := v / 256 ^ j % 256
theorem byteOf_bd (v : Int) (j : Nat) : 0 ≤ byteOf v j ∧ byteOf v j ≤ 255 := by unfold byteOf; omega
def le4 (v : Int) : List Int := (List.range 4).map (byteOf v)
theorem le4_eq (v : Int) : le4 v = [byteOf v 0, byteOf v 1, byteOf v 2, byteOf v 3] := rfl
theorem le4_len (v : Int) : (le4 v).length = 4 := rfl
theorem le4_bd (v : Int) : ∀ x ∈ le4 v, 0 ≤ x ∧ x ≤ 255 := fun x hx => by
 obtain ⟨j, _, rfl⟩ := List.mem_map.1 hx
 exact byteOf_bd v j
def allKeys (m : Nat) : List (List Int) := (List.range m).map fun i : Nat => le4 (i : Int)
def keyNum (bs : List Int) : Int := num (fun j => bs.getD j 0) 4
theorem KeyAt.num4 {w : World} {sa : Option Addr} {sl : Nat} {bs : List Int} (h : KeyAt w sa sl bs) : 0 ≤ keyNum bs ∧ keyNum bs ≤ 4294967295 := by
 have := h.nums 4
 unfold keyNum
 omega
end Go.Proofs.Ytmhhahmjkopjhaa
end
section
namespace Go.Proofs.Ytmhhahmjkopjhaa
open Go.RowKit
attribute [local go_sem ↓] Go.wp_at_zero Go.wp_at_succ
def OwnAt (w0 w : World) (v : Value) (bs : List Int) : Prop := ∃ g cap, v = slV g bs.length cap ∧ RowAt w 5 1 g bs.length cap (bs.map (Value.int .u8)) ∧ ∀ b, g = some b → w0.heap.size ≤ b
def RX.arr (R sb wb m : Nat) (l : List KS) (q : Nat) : RX := ⟨R, 0, 4, m, 0, some sb, m, some wb, m, l.map some ++ List.replicate q none, List.replicate m 0⟩
end Go.Proofs.Ytmhhahmjkopjhaa
end
section
namespace Go.Proofs.Ytmhhahmjkopjhaa
open Go.RowKit
theorem KeyAt.cut4 {w : World} {sa : Option Addr} {sl : Nat} {bs : List Int} (h : KeyAt w sa sl bs) (h4 : 4 ≤ bs.length) : ∃ b off, sa = some ⟨b, off, none⟩ ∧ KeyAt w (some ⟨b, off, none⟩) 4 (bs.take 4) ∧ ∀ j, j < bs.length → w.cell? ⟨b, off + j, none⟩ = some (.int .u8 (bs.getD j 0)) := by
 obtain ⟨h1, h2, h3, hc⟩ := h
 obtain ⟨b, off, rfl, hcell⟩ := hc (by omega)
 refine ⟨b, off, rfl, ⟨by simp; omega, fun x hx => h2 x (List.mem_of_mem_take hx), by simp; omega, fun _ => ⟨b, off, rfl, fun j hj => ?_⟩⟩, hcell⟩
 have hj4 : j < 4 := by simp at hj; omega
 rw [hcell j (by omega), List.getD_eq_getElem?_getD, List.getD_eq_getElem?_getD, List.getElem?_take, if_pos hj4]
def bitP (bs : List Int) (i : Nat) : Int := bs.getD (4 + i / 8) 0 / 2 ^ (7 - i % 8) % 2
theorem bitP_bd (bs : List Int) (i : Nat) : 0 ≤ bitP bs i ∧ bitP bs i ≤ 1 := by unfold bitP; omega
def cutAcc (bs : List Int) (i : Nat) : Nat → Int
 | 0 => 0
 | k + 1 => cutAcc bs i k * 2 + if ((8 * i + k : Nat) : Int) < keyNum bs then bitP bs (8 * i + k) else 0
def cutTo (bs : List Int) (n : Nat) : List Int := bs.take 4 ++ (List.range n).map fun i => cutAcc bs i 8
def cutP (bs : List Int) : List Int := cutTo bs (bs.length - 4)
theorem cutP_len {bs : List Int} (h : 4 ≤ bs.length) : (cutP bs).length = bs.length := by simp [cutP, cutTo]; omega
end Go.Proofs.Ytmhhahmjkopjhaa
end
section
namespace Go.Proofs.Ytmhhahmjkopjhaa
open Go.RowKit
attribute [local go_sem ↓] Go.wp_at_zero Go.wp_at_succ
def fits3 (x : RX) (bs : List Int) : Bool := decide ((bs.length : Int) = x.size) && decide (keyNum bs ≤ 8 * (x.size - 4))
end Go.Proofs.Ytmhhahmjkopjhaa
end
section
namespace Go.Proofs.Ytmhhahmjkopjhaa
open Go.RowKit
attribute [local go_sem ↓] Go.wp_at_zero Go.wp_at_succ
def skipP (l : List (Option (List Int))) (bs : List Int) (a : Option Nat) : Option (List Int) → Bool
 | none => true
 | some y => decide (keyNum bs < keyNum y) || match a with
  | none => false
  | some i => decide (keyNum y ≤ keyNum ((l.getD i none).getD []))
def longStep (l : List (Option (List Int))) (bs : List Int) (a : Option Nat) (k : Nat) : Option Nat :=
 if skipP l bs a (l.getD k none) = true then a else if cutP (((l.getD k none).getD []).take 4 ++ bs.drop 4) = (l.getD k none).getD [] then some k else a
def longTo (l : List (Option (List Int))) (bs : List Int) : Nat → Option Nat
 | 0 => none
 | k + 1 => longStep l bs (longTo l bs k) k
theorem longTo_some {l : List (Option (List Int))} {bs : List Int} : ∀ {k i : Nat}, longTo l bs k = some i → i < k ∧ ∃ y, l.getD i none = some y
 | 0, i, h => by cases h
 | k + 1, i, h => by
  have h' : longStep l bs (longTo l bs k) k = some i := h
  unfold longStep at h'
  split at h'
  ·have := longTo_some h'
   exact ⟨by omega, this.2⟩
  ·split at h'
   ·injection h' with h'
    subst h'
    refine ⟨by omega, ?_⟩
    cases hs : l.getD k none with
    | none =>
     rename_i hsk _
     rw [hs] at hsk
     exact absurd rfl hsk
    | some y => exact ⟨y, rfl⟩
   ·have := longTo_some h'
    exact ⟨by omega, this.2⟩
def PX.fits3 (x : PX) (bs : List Int) : Bool := decide ((bs.length : Int) = x.size) && decide (keyNum bs ≤ 8 * (x.size - 4))
def PX.find3 (x : PX) (bs : List Int) : Option Nat × PX :=
 if x.fits3 bs = true then (longTo x.slots bs x.slots.length, x.touch (longTo x.slots bs x.slots.length)) else (none, x)
end Go.Proofs.Ytmhhahmjkopjhaa
end
section
namespace Go.Proofs.Ytmhhahmjkopjhaa
open Go.RowKit
attribute [local go_sem ↓] Go.wp_at_zero Go.wp_at_succ
def PX.put3 (x : PX) (bs : List Int) (fl : Int) : (Int × Bool × Int) × PX :=
 if x.fits3 bs = true then
  if 2 < fl then ((0, false, 72), x)
  else match sameP x.slots (cutP bs) with
   | some i => if fl = 1 then ((0, false, 70), x) else (((i : Int), false, 0), x.touch (some i))
   | none => if fl = 2 then ((0, false, 14), x) else match freeP x.slots with
    | some f => (((f : Int), true, 0), x.laid f (cutP bs))
    | none => ((0, false, 71), x)
 else ((0, false, 2), x)
end Go.Proofs.Ytmhhahmjkopjhaa
end
section
namespace Go.Proofs.Ytmhhahmjkopjhaa
open Go.RowKit
attribute [local go_sem ↓] Go.wp_at_zero Go.wp_at_succ
def PX.del3 (x : PX) (bs : List Int) : (Int × Int) × PX :=
 if x.fits3 bs = true then match sameP x.slots (cutP bs) with
  | some i => (((i : Int), 0), { x with slots := x.slots.set i none })
  | none => ((0, 14), x)
 else ((0, 2), x)
end Go.Proofs.Ytmhhahmjkopjhaa
end
section
namespace Go.Proofs.Ytmhhahmjkopjhaa
open Go.RowKit
attribute [local go_sem ↓] Go.wp_at_zero Go.wp_at_succ
end Go.Proofs.Ytmhhahmjkopjhaa
end
section
namespace Go.Proofs.Ytmhhahmjkopjhaa
open Go.RowKit
structure PGood (q : PX) : Prop where
 k0 : 0 ≤ q.kind
 k3 : q.kind ≤ 3
 s1 : 1 ≤ q.size
 s2 : q.size ≤ 16
 s3 : q.kind = 3 → 5 ≤ q.size
 m1 : 1 ≤ q.slots.length
 m2 : q.slots.length ≤ 64
 whens : q.whens.length = q.slots.length
 clock : 0 ≤ q.clock
 lens : ∀ bs, some bs ∈ q.slots → (bs.length : Int) = q.size
theorem PGood.touch {q : PX} (h : PGood q) (a : Option Nat) : PGood (q.touch a) := by
 refine ⟨h.k0, h.k3, h.s1, h.s2, h.s3, h.m1, h.m2, ?_, by have := h.clock; show 0 ≤ q.clock + 1; omega, h.lens⟩
 cases a with
 | none => exact h.whens
 | some i => show (q.whens.set i _).length = _; rw [List.length_set]; exact h.whens
theorem PGood.laid {q : PX} (h : PGood q) (i : Nat) {bs : List Int} (hb : (bs.length : Int) = q.size) : PGood (q.laid i bs) := by
 refine ⟨h.k0, h.k3, h.s1, h.s2, h.s3, ?_, ?_, ?_, by have := h.clock; show 0 ≤ q.clock + 1; omega, fun b hbm => ?_⟩
 ·show 1 ≤ (q.slots.set i (some bs)).length
  rw [List.length_set]
  exact h.m1
 ·show (q.slots.set i (some bs)).length ≤ 64
  rw [List.length_set]
  exact h.m2
 ·show (q.whens.set i _).length = (q.slots.set i (some bs)).length
  rw [List.length_set, List.length_set]
  exact h.whens
 ·rcases List.mem_or_eq_of_mem_set hbm with hx | hx
  ·exact h.lens b hx
  ·injection hx with hx
   rw [hx]
   exact hb
theorem PGood.drop {q : PX} (h : PGood q) (i : Nat) : PGood { q with slots := q.slots.set i none } := by
 refine ⟨h.k0, h.k3, h.s1, h.s2, h.s3, ?_, ?_, ?_, h.clock, fun b hbm => ?_⟩
 ·show 1 ≤ (q.slots.set i none).length
  rw [List.length_set]
  exact h.m1
 ·show (q.slots.set i none).length ≤ 64
  rw [List.length_set]
  exact h.m2
 ·show q.whens.length = (q.slots.set i none).length
  rw [List.length_set]
  exact h.whens
 ·rcases List.mem_or_eq_of_mem_set hbm with hx | hx
  ·exact h.lens b hx
  ·cases hx
def PX.findA (q : PX) (bs : List Int) : Option Nat × PX := if q.kind = 3 then q.find3 bs else q.find bs
def PX.putA (q : PX) (bs : List Int) (fl : Int) : (Int × Bool × Int) × PX := if q.kind = 3 then q.put3 bs fl else q.put bs fl
def PX.delA (q : PX) (bs : List Int) : (Int × Int) × PX := if q.kind = 3 then q.del3 bs else q.del bs
structure PKept (q q' : PX) : Prop where
 kind : q'.kind = q.kind
 size : q'.size = q.size
 slots : q'.slots.length = q.slots.length
 clock0 : q.clock ≤ q'.clock
 clock1 : q'.clock ≤ q.clock + 1
theorem PKept.refl (q : PX) : PKept q q := ⟨rfl, rfl, rfl, Int.le_refl _, by omega⟩
theorem PKept.touch (q : PX) (a : Option Nat) : PKept q (q.touch a) := ⟨rfl, rfl, rfl, by show q.clock ≤ q.clock + 1; omega, by show q.clock + 1 ≤ q.clock + 1; omega⟩
theorem PKept.laid (q : PX) (i : Nat) (bs : List Int) : PKept q (q.laid i bs) := ⟨rfl, rfl, by show (q.slots.set i (some bs)).length = _; rw [List.length_set], by show q.clock ≤ q.clock + 1; omega, by show q.clock + 1 ≤ q.clock + 1; omega⟩
theorem PKept.drop (q : PX) (i : Nat) : PKept q { q with slots := q.slots.set i none } := ⟨rfl, rfl, by show (q.slots.set i none).length = _; rw [List.length_set], Int.le_refl _, by show q.clock ≤ q.clock + 1; omega⟩
theorem fits3_len {q : PX} {bs : List Int} (h : q.fits3 bs = true) : (bs.length : Int) = q.size := by
 unfold PX.fits3 at h
 simp at h
 exact h.1
theorem PGood.findA {q : PX} (h : PGood q) (bs : List Int) : PGood (q.findA bs).2 ∧ PKept q (q.findA bs).2 := by
 unfold PX.findA
 split
 ·unfold PX.find3
  split
  ·exact ⟨h.touch _, PKept.touch _ _⟩
  ·exact ⟨h, PKept.refl _⟩
 ·unfold PX.find
  split
  ·exact ⟨h.touch _, PKept.touch _ _⟩
  ·exact ⟨h, PKept.refl _⟩
theorem PGood.putA {q : PX} (h : PGood q) (bs : List Int) (fl : Int) : PGood (q.putA bs fl).2 ∧ PKept q (q.putA bs fl).2 := by
 have h0 : PGood q ∧ PKept q q := ⟨h, PKept.refl q⟩
 unfold PX.putA
 split
 ·rename_i hk3
  unfold PX.put3
  split
  ·rename_i hf
   have hb := fits3_len hf
   have hc : ((cutP bs).length : Int) = q.size := by
    have := h.s3 hk3
    rw [cutP_len (by omega)]
    exact hb
   split
   ·exact h0
   ·cases sameP q.slots (cutP bs) with
    | some i =>
     dsimp only
     split
     ·exact h0
     ·exact ⟨h.touch (some i), PKept.touch q (some i)⟩
    | none =>
     dsimp only
     split
     ·exact h0
     ·cases freeP q.slots with
      | some f => exact ⟨h.laid f hc, PKept.laid _ _ _⟩
      | none => exact h0
  ·exact h0
 ·unfold PX.put
  split
  ·rename_i hb
   split
   ·exact h0
   ·cases sameP q.slots bs with
    | some i =>
     dsimp only
     split
     ·exact h0
     ·exact ⟨h.touch (some i), PKept.touch q (some i)⟩
    | none =>
     dsimp only
     split
     ·exact h0
     ·split
      ·exact h0
      ·cases q.room with
       | some f => exact ⟨h.laid f hb, PKept.laid _ _ _⟩
       | none => exact h0
  ·exact h0
theorem PGood.delA {q : PX} (h : PGood q) (bs : List Int) : PGood (q.delA bs).2 ∧ PKept q (q.delA bs).2 := by
 have h0 : PGood q ∧ PKept q q := ⟨h, PKept.refl q⟩
 unfold PX.delA
 split
 ·unfold PX.del3
  split
  ·cases sameP q.slots (cutP bs) with
   | some i => exact ⟨h.drop i, PKept.drop _ _⟩
   | none => exact h0
  ·exact h0
 ·unfold PX.del
  split
  ·exact h0
  ·split
   ·cases sameP q.slots bs with
    | some i => exact ⟨h.drop i, PKept.drop _ _⟩
    | none => exact h0
   ·exact h0
def newOk (kind size m : Int) : Prop := 1 ≤ m ∧ m ≤ 64 ∧ (if kind = 0 then 4 else if kind = 3 then 5 else 1) ≤ size ∧ size ≤ (if kind = 0 then 4 else 16)
def PX.new (kind size : Int) (m : Nat) : PX := ⟨kind, size, m, 0, if kind = 0 then (allKeys m).map some else List.replicate m none, List.replicate m 0⟩
theorem allKeys_len (m : Nat) : (allKeys m).length = m := by simp [allKeys]
theorem PGood.new {kind size : Int} {m : Nat} (k0 : 0 ≤ kind) (k3 : kind ≤ 3) (h : newOk kind size m) : PGood (PX.new kind size m) := by
 unfold newOk at h
 obtain ⟨h1, h2, h3, h4⟩ := h
 have hl : (PX.new kind size m).slots.length = m := by
  unfold PX.new
  dsimp only
  split
  ·rw [List.length_map, allKeys_len]
  ·simp
 refine ⟨k0, k3, ?_, ?_, fun e => ?_, by omega, by omega, by rw [hl]; simp [PX.new], Int.le_refl _, fun bs hbs => ?_⟩
 ·show 1 ≤ size
  split at h3
  ·omega
  ·split at h3 <;> omega
 ·show size ≤ 16
  split at h4 <;> omega
 ·show 5 ≤ size
  have e : kind = 3 := e
  rw [if_neg (by omega), if_pos e] at h3
  exact h3
 ·show (bs.length : Int) = size
  unfold PX.new at hbs
  dsimp only at hbs
  split at hbs
  ·rename_i e
   rw [if_pos e] at h3 h4
   obtain ⟨b, hb, he⟩ := List.mem_map.1 hbs
   injection he with he
   subst he
   obtain ⟨i, _, rfl⟩ := List.mem_map.1 hb
   rw [le4_len]
   omega
  ·simp at hbs
end Go.Proofs.Ytmhhahmjkopjhaa
end
section
namespace Go.Proofs.Ytmhhahmjkopjhaa.Arr
open Go.RowKit
theorem or_place (a x : Int) (k : Nat) (hk : k ≤ 3) (ha0 : 0 ≤ a) (ha1 : a < 256 ^ k) (hx0 : 0 ≤ x) (hx1 : x ≤ 255) :
  bits .or .u32 a (x * 2 ^ (8 * k) % 4294967296) = a + x * 256 ^ k := by
 obtain ⟨A, rfl⟩ := Int.eq_ofNat_of_zero_le ha0
 obtain ⟨X, rfl⟩ := Int.eq_ofNat_of_zero_le hx0
 have hp : (2 : Int) ^ (8 * k) = 256 ^ k := by rw [Int.pow_mul]; rfl
 have hA : A < 2 ^ (8 * k) := by
  have : ((A : Nat) : Int) < ((2 ^ (8 * k) : Nat) : Int) := by rw [Int.natCast_pow]; show (A : Int) < (2 : Int) ^ (8 * k); rw [hp]; exact ha1
  omega
 have hle : (2 : Nat) ^ (8 * k) ≤ 2 ^ 24 := Nat.pow_le_pow_right (by omega) (by omega)
 have hX : 2 ^ (8 * k) * X < 4294967296 := by
  have : 2 ^ (8 * k) * X ≤ 2 ^ 24 * 255 := Nat.mul_le_mul hle (by omega)
  omega
 have hc : (X : Int) * 2 ^ (8 * k) = ((2 ^ (8 * k) * X : Nat) : Int) := by rw [Int.natCast_mul, Int.natCast_pow, Int.mul_comm]; rfl
 rw [← hp, hc, Int.emod_eq_of_lt (by omega) (by omega), u32_or_nat A _ (by omega) hX, Nat.or_comm, ← Nat.two_pow_add_eq_or_of_lt hA]
 omega
theorem number_any (b off c : Nat) (bs : Nat → Int) (w : World)
  (hc : ∀ j, j < 4 → w.cell? ⟨b, off + j, none⟩ = some (.int .u8 (bs j))) (hb : ∀ j, j < 4 → 0 ≤ bs j ∧ bs j ≤ 255) :
  Calls Try.prog 71 #[.slice (some ⟨b, off, none⟩) 4 c] w fun e w' => e = .returned (.int .u32 (num bs 4)) ∧ w' = w := by
 have HC := toHid hc
 have HB := toHid hb
 clear hc hb
 go_enter Try.func71, Try.ntmps71
 go_wp2
 go_loop [3, 5] (fun v t => ∃ k : Nat, k ≤ 4 ∧ t = .int .i64 k ∧ v = .int .u32 (num bs k)) (fun _ t => 4 - (intOf t).toNat)
 case atStart => exact ⟨0, by omega, rfl, rfl⟩
 case round =>
  obtain ⟨k, hk, rfl, rfl⟩ := hrel
  by_cases hlt : k < 4
  ·have c1 := HC.out k hlt
   have c2 := HB.out k hlt
   go_wp2
   refine ⟨⟨k + 1, by omega, by go_num, ?_⟩, by simp [intOf]; omega⟩
   have h1 := num_bd bs k (fun j hj => HB.out j (by omega))
   rw [or_place _ _ k (by omega) h1.1 h1.2 c2.1 c2.2]
   rfl
  ·have hkn : k = 4 := by omega
   subst hkn
   go_wp2
   go_ret
   exact ⟨rfl, rfl⟩
def IdxAt (w : World) (x m : Nat) : Prop := Blk w x [.int .u32 (m : Int)] 96 ∧ 1 ≤ m ∧ m ≤ 64
theorem IdxAt.touch {S : List Nat} {w w' : World} {x m : Nat} (h : IdxAt w x m) (ht : Touch S w w') (hx : x ∉ S) : IdxAt w' x m := ⟨ht.blk h.1 hx, h.2⟩
def slotI (m n : Int) : Int × Bool := if n < m then (n, true) else (0, false)
theorem slot_any (x m : Nat) (n : Int) (w : World) (h : IdxAt w x m) (h0 : 0 ≤ n) (h1 : n ≤ 4294967295) :
  Calls Try.prog 70 #[.pointer (some ⟨x, 0, none⟩), .int .u32 n] w fun e w' => e = .returned (.tuple #[.int .i64 (slotI m n).1, .bool (slotI m n).2]) ∧ w' = w := by
 have c0 : w.cell? ⟨x, 0, none⟩ = some (.int .u32 (m : Int)) := h.1.cell rfl
 have hm := h.2
 have w1 : IntKind.i64.wrap n = n := by rw [IntKind.wrap_i64]; omega
 clear h
 by_cases hlt : n < m
 ·rw [show slotI m n = (n, true) from if_pos hlt]
  have hd : ¬ (m : Int) ≤ n := by omega
  go_enter Try.func70, Try.ntmps70
  go_wp2
  go_ret2
  exact ⟨rfl, rfl⟩
 ·rw [show slotI m n = (0, false) from if_neg hlt]
  have hd : (m : Int) ≤ n := by omega
  go_enter Try.func70, Try.ntmps70
  go_wp2
  go_ret2
  exact ⟨rfl, rfl⟩
def findI (m : Int) (bs : List Int) : Int × Bool := if bs.length = 4 then slotI m (keyNum bs) else (0, false)
def putI (m : Int) (bs : List Int) (fl : Int) : Int × Int :=
 if bs.length = 4 then (if 2 < fl then (0, 72) else if keyNum bs < m then (if fl = 1 then (0, 70) else (keyNum bs, 0)) else (0, 71)) else (0, 2)
theorem _root_.Go.Proofs.Ytmhhahmjkopjhaa.KeyAt.number {w : World} {sa : Option Addr} {bs : List Int} {sl : Nat} (h : KeyAt w sa sl bs) (h4 : bs.length = 4) (c : Nat) : Calls Try.prog 71 #[.slice sa 4 c] w fun e w' => e = .returned (.int .u32 (keyNum bs)) ∧ w' = w := by
 obtain ⟨b, off, rfl, hc⟩ := h.2.2.2 (by omega)
 exact number_any b off c _ w (fun j hj => hc j (by omega)) (fun j _ => getD_bd h.2.1 j)
theorem find_any {w : World} {x m : Nat} (h : IdxAt w x m) {sa : Option Addr} {sl : Nat} {bs : List Int} (hk : KeyAt w sa sl bs) (sc : Nat) :
  Calls Try.prog 67 #[.pointer (some ⟨x, 0, none⟩), .slice sa sl sc] w fun e w' => e = .returned (.tuple #[.int .i64 (findI m bs).1, .bool (findI m bs).2]) ∧ w' = w := by
 have hl := hk.1
 have hb := hk.2.2.1
 by_cases h4 : bs.length = 4
 ·obtain rfl : sl = 4 := by omega
  have H1 := toHid (hk.number h4 sc)
  have H2 := toHid (slot_any x m (keyNum bs) w h hk.num4.1 hk.num4.2)
  rw [show findI m bs = slotI m (keyNum bs) from if_pos h4]
  generalize slotI m (keyNum bs) = p at *
  clear h hk hl hb h4
  go_enter Try.func67, Try.ntmps67
  go_wp2_with fail
  refine Calls.mono H1.out ?_
  rintro e w ⟨rfl, rfl⟩
  go_wp2_with fail
  refine Calls.mono H2.out ?_
  rintro e w ⟨rfl, rfl⟩
  go_wp2
  go_ret2
  exact ⟨rfl, rfl⟩
 ·have hs : ((sl : Int) != 4) = true := by simp; omega
  rw [show findI m bs = (0, false) from if_neg h4]
  clear h hk hl h4
  go_enter Try.func67, Try.ntmps67
  go_wp2
  go_ret2
  exact ⟨rfl, rfl⟩
theorem put_any {w : World} {x m : Nat} (h : IdxAt w x m) {sa : Option Addr} {sl : Nat} {bs : List Int} (hk : KeyAt w sa sl bs) (sc : Nat) (fl : Int) (f0 : 0 ≤ fl) :
  Calls Try.prog 69 #[.pointer (some ⟨x, 0, none⟩), .slice sa sl sc, .int .u64 fl] w fun e w' => e = .returned (.tuple #[.int .i64 (putI m bs fl).1, .bool false, .int .i64 (putI m bs fl).2]) ∧ w' = w := by
 have hl := hk.1
 have hb := hk.2.2.1
 by_cases h4 : bs.length = 4
 ·obtain rfl : sl = 4 := by omega
  unfold putI
  rw [if_pos h4]
  by_cases hf : 2 < fl
  ·rw [if_pos hf]
   clear h hk hl hb h4
   go_enter Try.func69, Try.ntmps69
   go_wp2
   go_ret3
   exact ⟨rfl, rfl⟩
  ·rw [if_neg hf]
   have H1 := toHid (hk.number h4 sc)
   have H2 := toHid (slot_any x m (keyNum bs) w h hk.num4.1 hk.num4.2)
   unfold slotI at H2
   by_cases hm : keyNum bs < m
   ·rw [if_pos hm]
    rw [if_pos hm] at H2
    generalize keyNum bs = p at *
    clear h hk hl hb h4
    by_cases h1 : fl = 1
    ·subst h1
     rw [if_pos rfl]
     go_enter Try.func69, Try.ntmps69
     go_wp2_with fail
     refine Calls.mono H1.out ?_
     rintro e w ⟨rfl, rfl⟩
     go_wp2_with fail
     refine Calls.mono H2.out ?_
     rintro e w ⟨rfl, rfl⟩
     go_wp2
     go_ret3
     exact ⟨rfl, rfl⟩
    ·rw [if_neg h1]
     go_enter Try.func69, Try.ntmps69
     go_wp2_with fail
     refine Calls.mono H1.out ?_
     rintro e w ⟨rfl, rfl⟩
     go_wp2_with fail
     refine Calls.mono H2.out ?_
     rintro e w ⟨rfl, rfl⟩
     go_wp2
     go_ret3
     exact ⟨rfl, rfl⟩
   ·rw [if_neg hm]
    rw [if_neg hm] at H2
    generalize keyNum bs = p at *
    clear h hk hl hb h4
    go_enter Try.func69, Try.ntmps69
    go_wp2_with fail
    refine Calls.mono H1.out ?_
    rintro e w ⟨rfl, rfl⟩
    go_wp2_with fail
    refine Calls.mono H2.out ?_
    rintro e w ⟨rfl, rfl⟩
    go_wp2
    go_ret3
    exact ⟨rfl, rfl⟩
 ·have hs : ((sl : Int) != 4) = true := by simp; omega
  rw [show putI m bs fl = (0, 2) from if_neg h4]
  clear h hk hl h4
  go_enter Try.func69, Try.ntmps69
  go_wp2
  go_ret3
  exact ⟨rfl, rfl⟩
theorem del_any (w : World) (x : Nat) (sa : Option Addr) (sl sc : Nat) :
  Calls Try.prog 66 #[.pointer (some ⟨x, 0, none⟩), .slice sa sl sc] w fun e w' => e = .returned (.tuple #[.int .i64 0, .int .i64 2]) ∧ w' = w := by
 go_enter Try.func66, Try.ntmps66
 go_wp2
 go_ret2
 exact ⟨rfl, rfl⟩
theorem new_any (w : World) (m : Nat) (h1 : 1 ≤ m) (h2 : m ≤ 64) : Calls Try.prog 22 #[.int .i64 (m : Int)] w fun e w' => e = .returned (.tuple #[.pointer (some ⟨w.heap.size, 0, none⟩), .int .i64 0]) ∧ IdxAt w' w.heap.size m ∧ Touch [] w w' := by
 have w1 : IntKind.u32.wrap (m : Int) = m := by rw [IntKind.wrap_u32]; omega
 go_enter Try.func22, Try.ntmps22
 go_wp2
 go_ret2
 exact ⟨rfl, ⟨Blk.newA w #[.int .u32 (m : Int)] _ 96 rfl, h1, h2⟩, (Touch.refl _ w).alloc _⟩
theorem new_bad (w : World) (m : Int) (h1 : ¬ (1 ≤ m ∧ m ≤ 64)) : Calls Try.prog 22 #[.int .i64 m] w fun e w' => e = .returned (.tuple #[.pointer none, .int .i64 2]) ∧ w' = w := by
 by_cases h : m < 1
 ·go_enter Try.func22, Try.ntmps22
  go_wp2
  go_ret2
  exact ⟨rfl, rfl⟩
 ·have h2 : 64 < m := by omega
  go_enter Try.func22, Try.ntmps22
  go_wp2
  go_ret2
  exact ⟨rfl, rfl⟩
end Go.Proofs.Ytmhhahmjkopjhaa.Arr
end
section
namespace Go.Proofs.Ytmhhahmjkopjhaa.Arr
open Go.RowKit
def spreadTo (v : Int) (k : Nat) : List Value := (List.range 4).map (fun j => if j < k then .int .u8 (byteOf v j) else .int .u8 0)
structure Filled (w w' : World) (N m k : Nat) (l : List KS) : Prop where
 blk : Blk w' N (l.map KS.v ++ List.replicate (m - k) (.slice none 0 0)) 22
 len : l.length = k
 eq : l.map KS.bs = allKeys k
 keys : ∀ x ∈ l, x.At w' ∧ N < x.b
 touch : Touch [] w w'
end Go.Proofs.Ytmhhahmjkopjhaa.Arr
end
section
namespace Go.Proofs.Ytmhhahmjkopjhaa
open Go.RowKit Go.Maps
theorem law9 : Keyed Try.prog 9 := string_keyed Try.underlying9
theorem zero3 (w : World) : (zeroValue 3).run Try.prog w = .ok (.int .i64 0) w := by kernel_rfl
def lk (bs : List Int) : Lit := .string (strOfNums bs).data.toList
theorem lk_inj {a b : List Int} (ha : ∀ x ∈ a, 0 ≤ x ∧ x ≤ 255) (hb : ∀ x ∈ b, 0 ≤ x ∧ x ≤ 255) (h : lk a = lk b) : a = b := by
 refine str_inj ha hb ?_
 unfold lk at h
 injection h with h
 exact ByteArray.ext (Array.toList_inj.1 h)
theorem lk_key {bs : List Int} (h : bs.length ≤ 16) : keyOf Try.prog 9 (.string (strOfNums bs)) = some (lk bs) :=
 WideMaps.keyOf_string_mk Try.underlying9 (by rw [strOfNums_size]; unfold maxLen; omega)
theorem lk_isKey (bs : List Int) : WideAt.IsKeyLit (lk bs) := trivial
theorem Touch.of_grown {w w' : World} {b : Nat} (h : w.grownBy w' (some b)) : Touch [b] w w' :=
 ⟨h.os, h.tape, h.output, h.size, fun k hk hn => h.block k hk (fun e => hn (by cases e; simp))⟩
theorem Touch.of_grown0 {w w' : World} (h : w.grownBy w' none) : Touch [] w w' :=
 ⟨h.os, h.tape, h.output, h.size, fun k hk _ => h.block k hk (by simp)⟩
structure Says (D : DataW Unit) (l : List (Option (List Int))) : Prop where
 has : ∀ kl, Maps.has D kl = true → ∃ (i : Nat) (bs : List Int), l[i]? = some (some bs) ∧ kl = lk bs
 at_ : ∀ (i : Nat) (bs : List Int), l[i]? = some (some bs) → ∀ z, D.atKey (lk bs) z = .lit (.int .i64 i)
 size : Maps.size D = (l.filterMap id).length
theorem Says.once {D : DataW Unit} {l : List (Option (List Int))} (h : Says D l) {i j : Nat} {bs : List Int} (hi : l[i]? = some (some bs)) (hj : l[j]? = some (some bs)) : i = j := by
 have h1 := h.at_ i bs hi .nil
 rw [h.at_ j bs hj .nil] at h1
 injection h1 with h1
 injection h1 with _ h1
 omega
def KeysOk (size : Nat) (l : List (Option (List Int))) : Prop := ∀ bs, some bs ∈ l → (∀ x ∈ bs, 0 ≤ x ∧ x ≤ 255) ∧ bs.length = size
theorem same_get {l : List (Option (List Int))} {bs : List Int} {i : Nat} (h : sameP l bs = some i) : l[i]? = some (some bs) := by
 unfold sameP at h
 rw [List.findIdx?_eq_some_iff_getElem] at h
 obtain ⟨hi, h1, _⟩ := h
 rw [List.getElem?_eq_getElem hi]
 simpa using h1
theorem same_not {l : List (Option (List Int))} {bs : List Int} (h : sameP l bs = none) (i : Nat) : l[i]? ≠ some (some bs) := by
 unfold sameP at h
 rw [List.findIdx?_eq_none_iff] at h
 intro e
 have := h _ (List.mem_of_getElem? e)
 simp at this
theorem held_put {l : List (Option (List Int))} {i : Nat} (bs : List Int) (h : l[i]? = some none) : ((l.set i (some bs)).filterMap id).length = (l.filterMap id).length + 1 := by
 induction l generalizing i with
 | nil => simp at h
 | cons a l ih =>
  cases i with
  | zero =>
   simp only [List.getElem?_cons_zero, Option.some.injEq] at h
   subst h
   simp
  | succ i =>
   simp only [List.getElem?_cons_succ] at h
   have := ih h
   cases a with
   | none => simpa using this
   | some a => simpa using this
theorem held_del {l : List (Option (List Int))} {i : Nat} {bs : List Int} (h : l[i]? = some (some bs)) : ((l.set i none).filterMap id).length + 1 = (l.filterMap id).length := by
 induction l generalizing i with
 | nil => simp at h
 | cons a l ih =>
  cases i with
  | zero =>
   simp only [List.getElem?_cons_zero, Option.some.injEq] at h
   subst h
   simp
  | succ i =>
   simp only [List.getElem?_cons_succ] at h
   have := ih h
   cases a with
   | none => simpa using this
   | some a => simpa using this
theorem held_le (l : List (Option (List Int))) : (l.filterMap id).length ≤ l.length := List.length_filterMap_le id l
theorem Says.put {D : DataW Unit} {l : List (Option (List Int))} (h : Says D l) (hm : Canon D) {n : Nat} (hK : KeysOk n l) {i : Nat} {bs : List Int} (hi : l[i]? = some none) (hs : sameP l bs = none) (hb : ∀ x ∈ bs, 0 ≤ x ∧ x ≤ 255) : Says (D.put (lk bs) (.lit (.int .i64 i))) (l.set i (some bs)) := by
 have hil : i < l.length := (List.getElem?_eq_some_iff.1 hi).1
 obtain ⟨es, hes, hq⟩ := hm
 have hIM : IsMap D := ⟨es, hes⟩
 have hno : Maps.has D (lk bs) = false := by
  cases hh : Maps.has D (lk bs) with
  | false => rfl
  | true =>
   obtain ⟨j, bs', hj, e⟩ := h.has _ hh
   have := lk_inj hb (hK bs' (List.mem_of_getElem? hj)).1 e
   subst this
   exact absurd hj (same_not hs j)
 refine ⟨fun kl hkl => ?_, fun j bs' hj z => ?_, ?_⟩
 ·by_cases e : kl = lk bs
  ·exact ⟨i, bs, by rw [List.getElem?_set_self hil], e⟩
  ·rw [has_put_other e] at hkl
   obtain ⟨j, bs', hj, e'⟩ := h.has _ hkl
   refine ⟨j, bs', ?_, e'⟩
   rw [List.getElem?_set_ne (fun e2 => by subst e2; rw [hi] at hj; cases hj)]
   exact hj
 ·by_cases e : i = j
  ·subst e
   rw [List.getElem?_set_self hil] at hj
   cases hj
   exact atKey_put_same hIM (lk_isKey _) _ _
  ·rw [List.getElem?_set_ne e] at hj
   have hne : lk bs' ≠ lk bs := fun e2 => by
    have := lk_inj (hK bs' (List.mem_of_getElem? hj)).1 hb e2
    subst this
    exact same_not hs j hj
   rw [atKey_put_other hne]
   exact h.at_ j bs' hj z
 ·rw [held_put bs hi, ← h.size]
  have ht : Tidy D := ⟨es, hes, apart_of_rising hq.1⟩
  rw [size_put ht, hno]
  rfl
theorem Says.del {D : DataW Unit} {l : List (Option (List Int))} (h : Says D l) (hm : Canon D) {n : Nat} (hK : KeysOk n l) {i : Nat} {bs : List Int} (hi : l[i]? = some (some bs)) : Says (D.del (lk bs)) (l.set i none) := by
 have hil : i < l.length := (List.getElem?_eq_some_iff.1 hi).1
 have hb := (hK bs (List.mem_of_getElem? hi)).1
 obtain ⟨es, hes, hq⟩ := hm
 have hyes : Maps.has D (lk bs) = true := has_true_of_atKey (h.at_ i bs hi)
 refine ⟨fun kl hkl => ?_, fun j bs' hj z => ?_, ?_⟩
 ·have e : kl ≠ lk bs := fun e => by
   subst e
   rw [has_del_same] at hkl
   cases hkl
  rw [has_del_other e] at hkl
  obtain ⟨j, bs', hj, e'⟩ := h.has _ hkl
  refine ⟨j, bs', ?_, e'⟩
  rw [List.getElem?_set_ne (fun e2 => by subst e2; rw [hi] at hj; cases hj; exact e e')]
  exact hj
 ·have e : i ≠ j := fun e => by
   subst e
   rw [List.getElem?_set_self hil] at hj
   cases hj
  rw [List.getElem?_set_ne e] at hj
  have hne : lk bs' ≠ lk bs := fun e2 => by
   have := lk_inj (hK bs' (List.mem_of_getElem? hj)).1 hb e2
   subst this
   exact e (h.once hi hj)
  rw [atKey_del_other hne]
  exact h.at_ j bs' hj z
 ·have ht : Tidy D := ⟨es, hes, apart_of_rising hq.1⟩
  have h1 := size_del (k := lk bs) ht
  rw [hyes] at h1
  simp only [if_true] at h1
  have h2 := held_del hi
  have h3 := h.size
  omega
structure HM (w : World) (b size : Nat) (l : List (Option (List Int))) : Prop where
 map : ∃ D n, w.ownsMap Try.prog 9 (plainElem Try.prog 3) b n D ∧ Says D l
 keys : KeysOk size l
 many : l.length ≤ 64
 s1 : 1 ≤ size
 s16 : size ≤ 16
theorem HM.touch {S : List Nat} {w w' : World} {b size : Nat} {l : List (Option (List Int))} (h : HM w b size l) (ht : Touch S w w') (hb : b ∉ S) : HM w' b size l := by
 obtain ⟨⟨D, n, ho, hs⟩, h2, h3, h4, h5⟩ := h
 refine ⟨⟨D, n, ?_, hs⟩, h2, h3, h4, h5⟩
 have hlt := ho.lt
 obtain ⟨es, clock, h1, r⟩ := ho
 exact ⟨es, clock, by rw [ht.block b hlt hb]; exact h1, r⟩
theorem HM.lt {w : World} {b size : Nat} {l : List (Option (List Int))} (h : HM w b size l) : b < w.heap.size := by
 obtain ⟨⟨D, n, ho, _⟩, _⟩ := h
 exact ho.lt
theorem owns_tight {w : World} {b n : Nat} {D : DataW Unit} (h : w.ownsMap Try.prog 9 (plainElem Try.prog 3) b n D) : w.ownsMap Try.prog 9 (plainElem Try.prog 3) b (Maps.size D) D := by
 obtain ⟨es, clock, h1, h2, h3, rfl⟩ := h
 exact ⟨es, clock, h1, h2, by simp [Maps.size, length_sorted], rfl⟩
def idx0 : Option Nat → Int
 | some i => i
 | none => 0
def foundV (o : Option Nat) : Value := .tuple #[.int .i64 (idx0 o), .bool o.isSome]
theorem HM.look {w : World} {b size : Nat} {l : List (Option (List Int))} (h : HM w b size l) {bs : List Int} (hb : ∀ x ∈ bs, 0 ≤ x ∧ x ≤ 255) (hl : bs.length = size) :
  (Instr.lookup 97 (.map (some b)) (.string (strOfNums bs)) true).run Try.prog w = .ok (foundV (sameP l bs)) w := by
 have h16 := h.s16
 obtain ⟨⟨D, n, ho, hs⟩, hK, _⟩ := h
 obtain ⟨v, ps, hrun, hv⟩ := ho.look_ok law9 Try.underlying97 (zero3 w) (plainElem_int Try.underlying3 (by decide)) (lk_key (bs := bs) (by omega))
 obtain ⟨c, rfl, hc, _⟩ := plainElem_int_inv Try.underlying3 hv
 have hc1 : D.atKey (lk bs) (.lit (.int .i64 0)) = .lit (.int .i64 c) := congrArg Prod.fst hc
 rw [hrun]
 cases hsm : sameP l bs with
 | none =>
  have hno : Maps.has D (lk bs) = false := by
   cases hh : Maps.has D (lk bs) with
   | false => rfl
   | true =>
    obtain ⟨j, bs', hj, e⟩ := hs.has _ hh
    have := lk_inj hb (hK bs' (List.mem_of_getElem? hj)).1 e
    subst this
    exact absurd hj (same_not hsm j)
  rw [atKey_of_not_has hno] at hc1
  injection hc1 with hc1
  injection hc1 with _ hc1
  subst hc1
  rw [hno]
  rfl
 | some i =>
  have hg := same_get hsm
  have hyes : Maps.has D (lk bs) = true := has_true_of_atKey (hs.at_ i bs hg)
  rw [hs.at_ i bs hg] at hc1
  injection hc1 with hc1
  injection hc1 with _ hc1
  subst hc1
  rw [hyes]
  rfl
theorem HM.store {w : World} {b size : Nat} {l : List (Option (List Int))} (h : HM w b size l) {bs : List Int} (hb : ∀ x ∈ bs, 0 ≤ x ∧ x ≤ 255) (hl : bs.length = size) {i : Nat} (hi : l[i]? = some none) (hs : sameP l bs = none) :
  ∃ w', (Instr.mapUpdate 97 (.map (some b)) (.string (strOfNums bs)) (.int .i64 i)).run Try.prog w = .ok () w' ∧ HM w' b size (l.set i (some bs)) ∧ Touch [b] w w' := by
 have h16 := h.s16
 have hil : i < l.length := (List.getElem?_eq_some_iff.1 hi).1
 obtain ⟨⟨D, n, ho, hS⟩, hK, hm, h1, _⟩ := h
 have hsz := held_le l
 have hwf : (Lit.int .i64 (i : Int)).wf = true := WalkArith.wf_i64 (by omega)
 obtain ⟨w', hrun, ho', hg⟩ := (owns_tight ho).update law9 Try.underlying97 (by rw [hS.size]; unfold maxLen; omega) (lk_key (bs := bs) (by omega)) (plainElem_int Try.underlying3 hwf)
 refine ⟨w', hrun, ⟨⟨_, _, ho', hS.put (ho.canon law9) hK hi hs hb⟩, fun bs' hbs' => ?_, by simpa using hm, h1, h16⟩, Touch.of_grown hg⟩
 rcases List.mem_or_eq_of_mem_set hbs' with hx | hx
 ·exact hK bs' hx
 ·cases hx
  exact ⟨hb, hl⟩
theorem HM.drop {w : World} {b size : Nat} {l : List (Option (List Int))} (h : HM w b size l) {bs : List Int} {i : Nat} (hi : l[i]? = some (some bs)) (ty : TypeId) :
  ∃ w', (Builtin.delete_ #[97, 9] ty #[.map (some b), .string (strOfNums bs)]).run Try.prog w = .ok (.tuple #[]) w' ∧ HM w' b size (l.set i none) ∧ Touch [b] w w' := by
 have h16 := h.s16
 have hlen := (h.keys bs (List.mem_of_getElem? hi)).2
 obtain ⟨⟨D, n, ho, hS⟩, hK, hm, h1, _⟩ := h
 obtain ⟨w', hrun, ho', hg⟩ := ho.drop law9 Try.underlying97 (lk_key (bs := bs) (by omega)) ty
 refine ⟨w', hrun, ⟨⟨_, _, ho', hS.del (ho.canon law9) hK hi⟩, fun bs' hbs' => ?_, by simpa using hm, h1, h16⟩, Touch.of_grown hg.grown⟩
 rcases List.mem_or_eq_of_mem_set hbs' with hx | hx
 ·exact hK bs' hx
 ·cases hx
theorem HM.made (w : World) {size m : Nat} (h1 : 1 ≤ size) (h2 : size ≤ 16) (hm : m ≤ 64) : HM (w.alloc (.map #[] 0)) w.heap.size size (List.replicate m none) := by
 refine ⟨⟨.map [], 0, World.ownsMap_made _ _ _ _, ⟨fun kl hkl => (by cases hkl), fun i bs hi => ?_, ?_⟩⟩, fun bs hbs => ?_, by simpa using hm, h1, h2⟩
 ·have := List.mem_of_getElem? hi
  simp at this
 ·simp [Maps.size]
 ·simp at hbs
end Go.Proofs.Ytmhhahmjkopjhaa
end
section
namespace Go.Proofs.Ytmhhahmjkopjhaa
open Go.RowKit Go.Maps
structure HX where
 X : Nat
 b : Nat
 size : Nat
 l : List (Option (List Int))
structure HAt (w : World) (x : HX) : Prop where
 self : Blk w x.X [.int .i64 (x.size : Int), .int .i64 (x.l.length : Int), .map (some x.b)] 99
 map : HM w x.b x.size x.l
 m1 : 1 ≤ x.l.length
 ne : x.X ≠ x.b
theorem HAt.touch {S : List Nat} {w w' : World} {x : HX} (h : HAt w x) (ht : Touch S w w') (hX : x.X ∉ S) (hb : x.b ∉ S) : HAt w' x := ⟨ht.blk h.self hX, h.map.touch ht hb, h.m1, h.ne⟩
theorem HAt.c0 {w : World} {x : HX} (h : HAt w x) : w.cell? ⟨x.X, 0, none⟩ = some (.int .i64 (x.size : Int)) := h.self.cell rfl
theorem HAt.c1 {w : World} {x : HX} (h : HAt w x) : w.cell? ⟨x.X, 1, none⟩ = some (.int .i64 (x.l.length : Int)) := h.self.cell rfl
theorem HAt.c2 {w : World} {x : HX} (h : HAt w x) : w.cell? ⟨x.X, 2, none⟩ = some (.map (some x.b)) := h.self.cell rfl
def slotS (left : Lit → Bool) : Option (List Int) → ByteArray
 | some bs => if left (lk bs) then ⟨#[]⟩ else strOfNums bs
 | none => ⟨#[]⟩
def rowS (l : List (Option (List Int))) (left : Lit → Bool) : List Value := (List.range 64).map fun j => .string (slotS left (l.getD j none))
theorem rowS_len (l : List (Option (List Int))) (left : Lit → Bool) : (rowS l left).length = 64 := by simp [rowS]
theorem zero64 : (Try.prog.info? 141).map (fun i => (i.zero, i.size)) = some (some (.agg (Array.replicate 64 (.string ⟨#[]⟩))), 64) := by kernel_rfl
theorem rowS_start {l : List (Option (List Int))} {left : Lit → Bool} (h : ∀ (i : Nat) (bs : List Int), l[i]? = some (some bs) → left (lk bs) = true) : rowS l left = List.replicate 64 (.string ⟨#[]⟩) := by
 apply List.ext_getElem
 ·simp [rowS]
 ·intro j h1 h2
  simp only [rowS, List.getElem_map, List.getElem_range, List.getElem_replicate]
  congr 1
  cases hj : l.getD j none with
  | none => rfl
  | some bs =>
   have : l[j]? = some (some bs) := by
    rw [List.getD_eq_getElem?_getD] at hj
    cases hq : l[j]? with
    | none => rw [hq] at hj; cases hj
    | some o => rw [hq] at hj; exact congrArg some hj
   show (if left (lk bs) = true then (⟨#[]⟩ : ByteArray) else strOfNums bs) = _
   rw [if_pos (h j bs this)]
theorem rowS_end {l : List (Option (List Int))} {left : Lit → Bool} (h : ∀ kl, left kl = false) : rowS l left = rowS l (fun _ => false) := by
 have : left = fun _ => false := funext h
 rw [this]
theorem rowS_step {D : DataW Unit} {l : List (Option (List Int))} (hS : Says D l) {n : Nat} (hK : KeysOk n l) {left : Lit → Bool} {i : Nat} {bs : List Int} (hi : l[i]? = some (some bs)) :
  rowS l (fun z => left z && !z.sameKey (lk bs)) = (rowS l left).set i (.string (strOfNums bs)) := by
 apply List.ext_getElem
 ·simp [rowS]
 ·intro j h1 h2
  rw [List.getElem_set]
  simp only [rowS, List.getElem_map, List.getElem_range]
  by_cases e : i = j
  ·subst e
   rw [if_pos rfl, List.getD_eq_getElem?_getD, hi]
   simp [slotS, WideAt.sameKey_self (lk_isKey bs)]
  ·rw [if_neg e]
   congr 1
   cases hj : l.getD j none with
   | none => rfl
   | some bs' =>
    have hj' : l[j]? = some (some bs') := by
     rw [List.getD_eq_getElem?_getD] at hj
     cases hq : l[j]? with
     | none => rw [hq] at hj; cases hj
     | some o => rw [hq] at hj; exact congrArg some hj
    have hne : lk bs' ≠ lk bs := fun e2 => by
     have := lk_inj (hK bs' (List.mem_of_getElem? hj')).1 (hK bs (List.mem_of_getElem? hi)).1 e2
     subst this
     exact e (hS.once hi hj')
    simp [slotS, sameKey_ne hne]
theorem wpList_next_hm (w : World) {ops : Array Oper} {rest : List Oper} {o : Oper} {a : Act} {Q : Exit → Act → World → Prop} (hg : o.guard = none) (it : Operand) (hop : o.op = Op.next it false)
  (b r n : Nat) (D : DataW Unit) (left : Lit → Bool) (cnt : Nat) (hit : a.eval it = .pointer (some ⟨r, 0, none⟩)) (h : w.ranges Try.prog 9 (plainElem Try.prog 3) b r n D left cnt)
  {l : List (Option (List Int))} (hS : Says D l) {q : Nat} (hq : q ≤ 16) (hK : KeysOk q l)
  (hDone : (∀ kl, left kl = false) → wpList Try.prog ops Q rest (a.put o.dst (.tuple #[.bool false])) w)
  (hMore : ∀ (i : Nat) (bs : List Int) (w' : World) (cnt' : Nat), l[i]? = some (some bs) → w'.ranges Try.prog 9 (plainElem Try.prog 3) b r n D (fun z => left z && !z.sameKey (lk bs)) cnt' → cnt' < cnt → Touch [r] w w' → w'.heap.size = w.heap.size →
   (∀ zd, D.atKey (lk bs) zd = .lit (.int .i64 i)) → (Instr.entry (.pointer (some ⟨r, 0, none⟩))).run Try.prog w' = .ok (.tuple #[.string (strOfNums bs), .int .i64 i]) w' → wpList Try.prog ops Q rest (a.put o.dst (.tuple #[.bool true, .string (strOfNums bs), .int .i64 i])) w') :
  wpList Try.prog ops Q (o :: rest) a w := by
 refine wpList_next_ranges w hg it hop 9 law9 (plainElem Try.prog 3) Value.string (Value.int .i64) (fun key kl hkey => ?_) (fun v y hv => ?_) b r n D left cnt hit h (fun _ h0 => hDone h0) (fun x c kl y w' cnt' hkey hlk hv hat hrg hlt hgr hsz hen => ?_)
 ·cases key <;> simp [keyOf, Try.underlying9, mapKey] at hkey
  exact ⟨_, rfl⟩
 ·obtain ⟨c, rfl, _⟩ := plainElem_int_inv Try.underlying3 hv
  exact ⟨c, rfl⟩
 ·obtain ⟨i, bs, hi, rfl⟩ := hS.has _ (has_true_of_atKey hat)
  have hx := law9.inj hkey (lk_key (bs := bs) (by have := (hK bs (List.mem_of_getElem? hi)).2; omega))
  injection hx with hx
  subst hx
  obtain ⟨c', ec, rfl, _⟩ := plainElem_int_inv Try.underlying3 hv
  injection ec with _ ec
  subst ec
  have h1 := hat .nil
  rw [hS.at_ i bs hi .nil] at h1
  injection h1 with h1
  injection h1 with _ h1
  subst h1
  exact hMore i bs w' cnt' hi hrg hlt (Touch.of_grown hgr) hsz hat hen
theorem HAt.lt {w : World} {x : HX} (h : HAt w x) : x.X < w.heap.size ∧ x.b < w.heap.size := ⟨h.self.lt, h.map.lt⟩
theorem bySlot_any {w : World} {x : HX} (h : HAt w x) : Calls Try.prog 79 #[.pointer (some ⟨x.X, 0, none⟩)] w fun e w' => e = .returned (.agg (rowS x.l (fun _ => false)).toArray) ∧ Touch [] w w' := by
 have hz := (zero_of_info (P := Try.prog) zero64).1
 have hsz := (zero_of_info (P := Try.prog) zero64).2
 have ht := ((Touch.refl [] w).alloc (.cells (Array.replicate 64 (.string ⟨#[]⟩)) 141)).alloc (.cells (Array.replicate 64 (.string ⟨#[]⟩)) 141)
 have hA := h.touch ht (by simp) (by simp)
 have c2 := hA.c2
 have hB1 := (Blk.newA w (Array.replicate 64 (.string ⟨#[]⟩)) (List.replicate 64 (.string ⟨#[]⟩)) 141 (by simp)).alloc (.cells (Array.replicate 64 (.string ⟨#[]⟩)) 141)
 have hB2 := Blk.newA (w.alloc (.cells (Array.replicate 64 (.string ⟨#[]⟩)) 141)) (Array.replicate 64 (.string ⟨#[]⟩)) (List.replicate 64 (.string ⟨#[]⟩)) 141 (by simp)
 rw [World.size_alloc] at hB2
 obtain ⟨⟨D, n, ho, hS⟩, hK, hm, hs1, hs16⟩ := hA.map
 have HS := toHid (And.intro hS (And.intro hK (And.intro hm hs16)))
 have HB := toHid (And.intro hB1 (And.intro hB2 (And.intro ht h.lt)))
 have HO := toHid ho
 clear hS hK hm hs1 hs16 hB1 hB2 ht hA ho h
 go_enter Try.func79, Try.ntmps79
 go_wp2_with (first
  | (at_range; refine wpList_range_own _ rfl _ 97 rfl 9 3 law9 Try.underlying97 _ x.b n D rfl HO.out ?_; intro w0 hrg0 hg0 hs0)
  | go_in)
 go_frame
 clear c2 hz
 have HR := toHid (And.intro hrg0 (And.intro hg0 hs0))
 have HI : Hid (∃ left cnt, w0.ranges Try.prog 9 (plainElem Try.prog 3) x.b (w.heap.size + 1 + 1) n D left cnt ∧ Blk w0 (w.heap.size + 1) (rowS x.l left) 141 ∧ Blk w0 w.heap.size (List.replicate 64 (.string ⟨#[]⟩)) 141 ∧ Touch [] w w0) := by
  have hT := Touch.of_grown0 HR.out.2.1
  refine ⟨Maps.has D, Maps.size D, ?_, ?_, hT.blk HB.out.1 (by simp), HB.out.2.2.1.trans hT (by simp)⟩
  ·have := HR.out.1
   simp only [World.size_alloc] at this
   exact this
  ·rw [rowS_start (fun i bs hi => has_true_of_atKey (HS.out.1.at_ i bs hi))]
   exact hT.blk HB.out.2.1 (by simp)
 clear hrg0 hg0 hs0 HR HO
 simp only [World.size_alloc]
 generalize hN : w.heap.size = N at *
 have HN := toHid hN
 go_loopw [4] (fun _ wr => Hid (∃ left cnt, wr.ranges Try.prog 9 (plainElem Try.prog 3) x.b (N + 1 + 1) n D left cnt ∧ Blk wr (N + 1) (rowS x.l left) 141 ∧ Blk wr N (List.replicate 64 (.string ⟨#[]⟩)) 141 ∧ Touch [] w wr)) (fun _ wr => wr.rangeLeft x.b (N + 1 + 1))
 case atStart => exact HI
 case round =>
  clear HI
  obtain ⟨left, cnt, hrg, hbK, hbR, ht⟩ := hrel.out
  have HX := toHid (And.intro hbK (And.intro hbR ht))
  have HG := toHid hrg
  clear hrel hbK hbR ht hrg
  go_wp2_with (first
   | (at_next; refine wpList_next_hm _ rfl _ rfl x.b (N + 1 + 1) n D left cnt rfl HG.out HS.out.1 HS.out.2.2.2 HS.out.2.1 ?_ ?_)
   | go_in)
  ·intro hl0
   have hE := rowS_end (l := x.l) hl0
   have hbK := HX.out.1
   rw [hE] at hbK
   go_wp2_with (first
    | (refine wpList_load_row rfl 141 _ rfl (N + 1) rfl 141 _ (0, 0) _ hbK Try.underlying141 rfl (by rw [hsz]; simp [rowS_len]) ?_)
    | (refine wpList_store_row rfl 141 _ _ rfl N _ rfl rfl 141 _ HX.out.2.1 (by rw [hsz]; simp [rowS_len]) (by simp [rowS_len]) (by simp [rowS, Value.oneCell']) ?_)
    | go_in)
   refine bodyPost_ret (v := .agg (rowS x.l fun _ => false).toArray) (results_cell_row (fn := Try.f79) Try.results79 _ _ N 141 _ (0, 0) _ (by rfl) (HX.out.2.1.setRow _) Try.underlying141 rfl (by rw [hsz]; simp [rowS_len])) rfl ⟨rfl, ?_⟩
   exact HX.out.2.2.setRow _ _ (Or.inr (by rw [HN.out]; omega))
  ·intro i bs w1 cnt1 hi hrg1 hlt ht1 hs1 hat hen
   have hi64 : i < 64 := by have := (List.getElem?_eq_some_iff.1 hi).1; have := HS.out.2.2.1; omega
   have hbK := ht1.blk HX.out.1 (by simp)
   have hbR := ht1.blk HX.out.2.1 (by simp; omega)
   have hlN := HB.out.2.2.2.2
   have hcc := hbK.cellN (i := i) (by rw [rowS_len]; exact hi64)
   have hfz := hbK.frozen i
   generalize hcv : (rowS x.l left)[i]'(by rw [rowS_len]; exact hi64) = cv at hcc
   have HN2 : Hid (∃ left' cnt', (w1.setCell ⟨N + 1, i, none⟩ (.string (strOfNums bs))).ranges Try.prog 9 (plainElem Try.prog 3) x.b (N + 1 + 1) n D left' cnt' ∧ Blk (w1.setCell ⟨N + 1, i, none⟩ (.string (strOfNums bs))) (N + 1) (rowS x.l left') 141 ∧ Blk (w1.setCell ⟨N + 1, i, none⟩ (.string (strOfNums bs))) N (List.replicate 64 (.string ⟨#[]⟩)) 141 ∧ Touch [] w (w1.setCell ⟨N + 1, i, none⟩ (.string (strOfNums bs))) ∧ cnt' < cnt) := by
    have hgs : w1.grownBy (w1.setCell ⟨N + 1, i, none⟩ (.string (strOfNums bs))) (some (N + 1)) := by
     have := (Touch.refl [N + 1] w1).setCell ⟨N + 1, i, none⟩ (.string (strOfNums bs)) (Or.inl (by simp))
     exact ⟨this.os, this.tape, this.output, this.size, fun k hk hn => this.block k hk (fun hx => hn (by simp at hx; rw [hx]))⟩
    refine ⟨_, cnt1, hrg1.kept hgs (fun e => by injection e with e; omega) (fun e => by injection e with e; omega), ?_, hbR.setCell_other _ _ (by show N ≠ N + 1; omega), ?_, hlt⟩
    ·rw [rowS_step HS.out.1 HS.out.2.1 hi]
     exact hbK.setCell i _
    ·exact (HX.out.2.2.trans ht1 (fun y hy => Or.inr (by simp at hy; rw [HN.out]; omega))).setCell _ _ (Or.inr (by show w.heap.size ≤ N + 1; rw [HN.out]; omega))
   generalize strOfNums bs = A at *
   clear hrg1 ht1 hs1 hat hbK hbR hcv hi hlN
   go_wp2
   obtain ⟨l', c', a1, a2, a3, a4, a5⟩ := HN2.out
   exact ⟨⟨l', c', a1, a2, a3, a4⟩, by rw [a1.left_eq, HG.out.left_eq]; exact a5⟩
end Go.Proofs.Ytmhhahmjkopjhaa
end
section
namespace Go.Proofs.Ytmhhahmjkopjhaa
open Go.RowKit Go.Maps
theorem free_some {l : List (Option (List Int))} {k : Nat} (h1 : ∀ j, j < k → (l.getD j none).isSome = true) (hk : k < l.length) (h2 : l.getD k none = none) : freeP l = some k := by
 unfold freeP
 rw [List.findIdx?_eq_some_iff_getElem]
 refine ⟨hk, ?_, fun j hj => ?_⟩
 ·rw [List.getD_eq_getElem?_getD, List.getElem?_eq_getElem hk] at h2
  simpa using h2
 ·have := h1 j hj
  rw [List.getD_eq_getElem?_getD, List.getElem?_eq_getElem (by omega)] at this
  intro e
  simp at e this
  rw [e] at this
  cases this
theorem free_none {l : List (Option (List Int))} (h1 : ∀ j, j < l.length → (l.getD j none).isSome = true) : freeP l = none := by
 unfold freeP
 rw [List.findIdx?_eq_none_iff]
 intro s hs
 obtain ⟨j, hj, rfl⟩ := List.getElem_of_mem hs
 have := h1 j hj
 rw [List.getD_eq_getElem?_getD, List.getElem?_eq_getElem hj] at this
 simpa using this
theorem free_get {l : List (Option (List Int))} {i : Nat} (h : freeP l = some i) : l[i]? = some none := by
 unfold freeP at h
 rw [List.findIdx?_eq_some_iff_getElem] at h
 obtain ⟨hi, h1, _⟩ := h
 rw [List.getElem?_eq_getElem hi]
 simpa using h1
theorem row_cell {l : List (Option (List Int))} {k : Nat} (hk : k < 64) : (rowS l (fun _ => false))[k]? = some (.string (slotS (fun _ => false) (l.getD k none))) := by
 simp [rowS, hk]
theorem str_full {bs : List Int} (h : 1 ≤ bs.length) : (strOfNums bs).toList.isEmpty = false := by
 rw [ByteArray.toList_eq, strOfNums_data]
 cases bs with
 | nil => simp at h
 | cons a bs => rfl
theorem free_any {w : World} {x : HX} (h : HAt w x) : Calls Try.prog 76 #[.pointer (some ⟨x.X, 0, none⟩)] w fun e w' => e = .returned (foundV (freeP x.l)) ∧ Touch [] w w' := by
 have hz := (zero_of_info (P := Try.prog) zero64).1
 have hsz := (zero_of_info (P := Try.prog) zero64).2
 have H1 := toHid (bySlot_any h)
 have HH := toHid h
 have hm1 := h.map.many
 generalize hM : x.l.length = m at *
 have HM := toHid hM
 clear h hM
 go_enter Try.func76, Try.ntmps76
 go_wp2_with fail
 refine Calls.mono H1.out ?_
 rintro e w2 ⟨rfl, ht2⟩
 have hB := Blk.newA w2 (Array.replicate 64 (.string ⟨#[]⟩)) (List.replicate 64 (.string ⟨#[]⟩)) 141 (by simp)
 have hT := (ht2.alloc (.cells (Array.replicate 64 (.string ⟨#[]⟩)) 141)).setRow w2.heap.size (rowS x.l fun _ => false).toArray (Or.inr ht2.size)
 have hR := hB.setRow (rowS x.l fun _ => false)
 have c1 := (HH.out.touch hT (by simp) (by simp)).c1
 rw [HM.out] at c1
 have HB := toHid hB
 have HT := toHid hT
 have HR := toHid hR
 clear hB hT hR H1 ht2
 go_wp2_with (first
  | (refine wpList_store_row rfl 141 _ _ rfl w2.heap.size _ rfl rfl 141 _ HB.out (by rw [hsz]; simp [rowS_len]) (by simp [rowS_len]) (by simp [rowS, Value.oneCell']) ?_)
  | go_in)
 generalize (w2.alloc (Obj.cells (Array.replicate 64 (Value.string { data := #[] })) 141)).setRow w2.heap.size (rowS x.l fun _ => false).toArray = w3 at *
 generalize w2.heap.size = N at *
 clear c1 HB hz hsz
 generalize hRS : (rowS x.l fun _ => false).toArray = rs at *
 clear hRS
 go_loop [12] (fun t => ∃ k : Nat, k ≤ m ∧ t = .int .i64 k ∧ Hid (∀ j, j < k → (x.l.getD j none).isSome = true)) (fun t => m - (intOf t).toNat)
 case atStart => exact ⟨0, by omega, rfl, fun j hj => absurd hj (by omega)⟩
 case round =>
  obtain ⟨k, hk, rfl, HI⟩ := hrel
  by_cases hlt : k < m
  ·have hcell := HR.out.cell (row_cell (l := x.l) (k := k) (by omega))
   have hkl : k < x.l.length := by rw [HM.out]; exact hlt
   have hk64 : k < 64 := by omega
   have hkm : (k : Int) < m := by omega
   cases hs : x.l.getD k none with
   | none =>
    rw [hs] at hcell
    unfold slotS at hcell
    have HF := toHid (free_some HI.out hkl hs)
    clear hs hkl HI
    go_wp2
    go_ret2
    exact ⟨by rw [HF.out]; rfl, HT.out⟩
   | some bs =>
    rw [hs] at hcell
    have hmem : some bs ∈ x.l := by
     rw [List.getD_eq_getElem?_getD, List.getElem?_eq_getElem hkl] at hs
     simp only [Option.getD_some] at hs
     rw [← hs]
     exact List.getElem_mem hkl
    have hfull := str_full (bs := bs) (by rw [(HH.out.map.keys bs hmem).2]; exact HH.out.map.s1)
    have hcell' : w3.cell? ⟨N, k, none⟩ = some (.string (strOfNums bs)) := hcell
    have HN : Hid (∀ j, j < k + 1 → (x.l.getD j none).isSome = true) := fun j hj => by
     by_cases hjk : j < k
     ·exact HI.out j hjk
     ·obtain rfl : j = k := by omega
      rw [hs]
      rfl
    generalize strOfNums bs = A at *
    clear hs hkl HI hcell hmem
    go_wp2
    exact ⟨⟨k + 1, by omega, by go_num, HN⟩, by simp [intOf]; omega⟩
  ·obtain rfl : k = m := by omega
   have HF := toHid (free_none (l := x.l) (fun j hj => HI.out j (by rw [← HM.out]; exact hj)))
   go_wp2
   go_ret2
   exact ⟨by rw [HF.out]; rfl, HT.out⟩
theorem again_any (w : World) (s fl : Int) : Calls Try.prog 77 #[.int .i64 s, .int .u64 fl] w fun e w' => e = .returned (.tuple #[.int .i64 (if fl = 1 then 0 else s), .bool false, .int .i64 (if fl = 1 then 70 else 0)]) ∧ w' = w := by
 by_cases h : fl = 1
 ·subst h
  go_enter Try.func77, Try.ntmps77
  go_wp2
  go_ret3
  exact ⟨rfl, rfl⟩
 ·rw [if_neg h, if_neg h]
  have h1 : (fl == 1) = false := by simpa using h
  clear h
  go_enter Try.func77, Try.ntmps77
  go_wp2
  go_ret3
  exact ⟨rfl, rfl⟩
def HX.find (x : HX) (bs : List Int) : Option Nat := if bs.length = x.size then sameP x.l bs else none
theorem find_any {w : World} {x : HX} (h : HAt w x) {sa : Option Addr} {sl : Nat} {bs : List Int} (hk : KeyAt w sa sl bs) (sc : Nat) :
  Calls Try.prog 73 #[.pointer (some ⟨x.X, 0, none⟩), .slice sa sl sc] w fun e w' => e = .returned (foundV (x.find bs)) ∧ Touch [] w w' := by
 have hl := hk.1
 have hb := hk.2.2.1
 have c0 := h.c0
 by_cases h4 : bs.length = x.size
 ·have hd := (Touch.refl [] w).drew
  have d2 := (h.touch hd (by simp) (by simp)).c2
  have hcv := (hk.touch hd).conv sc
  have hlk := (h.touch hd (by simp) (by simp)).map.look hk.2.1 h4
  rw [show x.find bs = sameP x.l bs from if_pos h4]
  obtain rfl : sl = x.size := by omega
  unfold foundV at *
  generalize idx0 (sameP x.l bs) = q at *
  generalize (sameP x.l bs).isSome = p at *
  generalize strOfNums bs = A at *
  clear h hk hl hb h4
  go_enter Try.func73, Try.ntmps73
  go_wp2_with fail
  go_region
  go_wp2
  go_ret2
  exact ⟨rfl, hd⟩
 ·have hs : ((sl : Int) != x.size) = true := by simp; omega
  rw [show x.find bs = none from if_neg h4]
  clear h hk hl h4
  go_enter Try.func73, Try.ntmps73
  go_wp2
  go_ret2
  exact ⟨rfl, Touch.refl _ _⟩
def HX.put (x : HX) (bs : List Int) (fl : Int) : (Int × Bool × Int) × List (Option (List Int)) :=
 if bs.length = x.size then
  if 2 < fl then ((0, false, 72), x.l)
  else match sameP x.l bs with
   | some i => if fl = 1 then ((0, false, 70), x.l) else (((i : Int), false, 0), x.l)
   | none => if fl = 2 then ((0, false, 14), x.l) else match freeP x.l with
    | some f => (((f : Int), true, 0), x.l.set f (some bs))
    | none => ((0, false, 71), x.l)
 else ((0, false, 2), x.l)
def HX.addP (x : HX) (bs : List Int) (fl : Int) : (Int × Bool × Int) × List (Option (List Int)) :=
 if fl = 2 then ((0, false, 14), x.l) else match freeP x.l with
  | some f => (((f : Int), true, 0), x.l.set f (some bs))
  | none => ((0, false, 71), x.l)
def HX.with (x : HX) (l : List (Option (List Int))) : HX := { x with l := l }
def HPutPost (w : World) (x : HX) (a : (Int × Bool × Int) × List (Option (List Int))) (e : Ending) (w' : World) : Prop :=
 e = .returned (.tuple #[.int .i64 a.1.1, .bool a.1.2.1, .int .i64 a.1.2.2]) ∧ HAt w' (x.with a.2) ∧ Touch [x.b] w w'
theorem HAt.turned {w w' : World} {x : HX} (h : HAt w x) (l : List (Option (List Int))) (hl : l.length = x.l.length) (hm : HM w' x.b x.size l) (ht : Touch [x.b] w w') : HAt w' (x.with l) :=
 ⟨by show Blk w' x.X [.int .i64 (x.size : Int), .int .i64 (l.length : Int), .map (some x.b)] 99; rw [hl]; exact ht.blk h.self (by simpa using h.ne), hm, by show 1 ≤ l.length; rw [hl]; exact h.m1, h.ne⟩
theorem add_any {w : World} {x : HX} (h : HAt w x) {sa : Option Addr} {sl : Nat} {bs : List Int} (hk : KeyAt w sa sl bs) (hs : bs.length = x.size) (hno : sameP x.l bs = none) (sc : Nat) (fl : Int) :
  Calls Try.prog 78 #[.pointer (some ⟨x.X, 0, none⟩), .slice sa sl sc, .int .u64 fl] w (HPutPost w x (x.addP bs fl)) := by
 unfold HX.addP
 by_cases h2 : fl = 2
 ·subst h2
  rw [if_pos rfl]
  have HH := toHid h
  clear h hk hs hno
  go_enter Try.func78, Try.ntmps78
  go_wp2
  go_ret3
  exact ⟨rfl, HH.out, Touch.refl _ _⟩
 ·rw [if_neg h2]
  have h2' : (fl == 2) = false := by simpa using h2
  have H1 := toHid (free_any h)
  have HH := toHid (And.intro h (And.intro hk (And.intro hs hno)))
  clear h hk hs hno h2
  cases hf : freeP x.l with
  | none =>
   rw [hf] at H1
   unfold foundV idx0 Option.isSome at H1
   clear hf
   go_enter Try.func78, Try.ntmps78
   go_wp2_with fail
   refine Calls.mono H1.out ?_
   rintro e w2 ⟨rfl, ht2⟩
   have HF : Hid (HPutPost w x ((0, false, 71), x.l) (.returned (.tuple #[.int .i64 0, .bool false, .int .i64 71])) w2) := ⟨rfl, HH.out.1.touch ht2 (by simp) (by simp), ht2.nil⟩
   clear ht2 H1
   go_wp2
   go_ret3
   exact HF.out
  | some f =>
   rw [hf] at H1
   have HG := toHid (free_get hf)
   unfold foundV idx0 Option.isSome at H1
   clear hf
   go_enter Try.func78, Try.ntmps78
   go_wp2_with fail
   refine Calls.mono H1.out ?_
   rintro e w2 ⟨rfl, ht2⟩
   have htd := ht2.drew
   have hA := HH.out.1.touch htd (by simp) (by simp)
   have d2 := hA.c2
   have hcv := (HH.out.2.1.touch htd).conv sc
   obtain ⟨w3, hst, hM, ht3⟩ := hA.map.store HH.out.2.1.2.1 HH.out.2.2.1 HG.out HH.out.2.2.2
   have HF : Hid (HPutPost w x (((f : Int), true, 0), x.l.set f (some bs)) (.returned (.tuple #[.int .i64 f, .bool true, .int .i64 0])) w3) := ⟨rfl, hA.turned _ (by simp) hM ht3, htd.nil.trans ht3 (fun y hy => Or.inl hy)⟩
   generalize strOfNums bs = A at *
   clear ht2 H1 hA htd hM ht3 HG
   go_wp2_with fail
   go_region
   go_wp2
   go_ret3
   exact HF.out
end Go.Proofs.Ytmhhahmjkopjhaa
end
section
namespace Go.Proofs.Ytmhhahmjkopjhaa
open Go.RowKit Go.Maps
theorem put_any {w : World} {x : HX} (h : HAt w x) {sa : Option Addr} {sl : Nat} {bs : List Int} (hk : KeyAt w sa sl bs) (sc : Nat) (fl : Int) (_f0 : 0 ≤ fl) :
  Calls Try.prog 75 #[.pointer (some ⟨x.X, 0, none⟩), .slice sa sl sc, .int .u64 fl] w (HPutPost w x (x.put bs fl)) := by
 have hl := hk.1
 have hb := hk.2.2.1
 have c0 := h.c0
 unfold HX.put
 by_cases h4 : bs.length = x.size
 ·rw [if_pos h4]
  obtain rfl : sl = x.size := by omega
  by_cases hf : 2 < fl
  ·rw [if_pos hf]
   have HH := toHid h
   clear h hk hl hb h4
   go_enter Try.func75, Try.ntmps75
   go_wp2
   go_ret3
   exact ⟨rfl, HH.out, Touch.refl _ _⟩
  ·rw [if_neg hf]
   have hd := (Touch.refl [] w).drew
   have hA := h.touch hd (by simp) (by simp)
   have d2 := hA.c2
   have hcv := (hk.touch hd).conv sc
   have hlk := hA.map.look hk.2.1 h4
   cases hsm : sameP x.l bs with
   | none =>
    rw [hsm] at hlk
    unfold foundV idx0 Option.isSome at hlk
    have H2 := toHid (add_any hA (hk.touch hd) h4 hsm sc fl)
    show Calls Try.prog 75 _ w (HPutPost w x (x.addP bs fl))
    generalize x.addP bs fl = pr at *
    have HD := toHid hd
    generalize strOfNums bs = A at *
    clear h hk hl hb h4 hsm hA hd
    go_enter Try.func75, Try.ntmps75
    go_wp2_with fail
    go_region
    go_wp2_with fail
    refine Calls.mono H2.out ?_
    rintro e w3 ⟨rfl, hA3, ht3⟩
    have HF : Hid (HPutPost w x pr (.returned (.tuple #[.int .i64 pr.1.1, .bool pr.1.2.1, .int .i64 pr.1.2.2])) w3) := ⟨rfl, hA3, HD.out.nil.trans ht3 (fun y hy => Or.inl hy)⟩
    clear hA3 ht3 H2
    go_wp2
    go_ret3
    exact HF.out
   | some i =>
    rw [hsm] at hlk
    unfold foundV idx0 Option.isSome at hlk
    have H2 := toHid (again_any w.drew (i : Int) fl)
    have hpr : (if fl = 1 then ((0, false, 70), x.l) else (((i : Int), false, 0), x.l) : (Int × Bool × Int) × List (Option (List Int))) = (((if fl = 1 then 0 else (i : Int)), false, (if fl = 1 then 70 else 0)), x.l) := by
     by_cases e : fl = 1 <;> simp [e]
    show Calls Try.prog 75 _ w (HPutPost w x (if fl = 1 then ((0, false, 70), x.l) else (((i : Int), false, 0), x.l)))
    rw [hpr]
    generalize (if fl = 1 then 0 else (i : Int)) = p at *
    generalize (if fl = 1 then (70 : Int) else 0) = q at *
    have HD := toHid (And.intro hd hA)
    generalize strOfNums bs = A at *
    clear h hk hl hb h4 hsm hA hd hpr
    go_enter Try.func75, Try.ntmps75
    go_wp2_with fail
    go_region
    go_wp2_with fail
    refine Calls.mono H2.out ?_
    rintro e w3 ⟨rfl, rfl⟩
    go_wp2
    go_ret3
    exact ⟨rfl, HD.out.2, HD.out.1.nil⟩
 ·have hs : ((sl : Int) != x.size) = true := by simp; omega
  rw [if_neg h4]
  have HH := toHid h
  clear h hk hl h4
  go_enter Try.func75, Try.ntmps75
  go_wp2
  go_ret3
  exact ⟨rfl, HH.out, Touch.refl _ _⟩
def HX.del (x : HX) (bs : List Int) : (Int × Int) × List (Option (List Int)) :=
 if bs.length = x.size then match sameP x.l bs with
  | some i => (((i : Int), 0), x.l.set i none)
  | none => ((0, 14), x.l)
 else ((0, 2), x.l)
def HDelPost (w : World) (x : HX) (a : (Int × Int) × List (Option (List Int))) (e : Ending) (w' : World) : Prop :=
 e = .returned (.tuple #[.int .i64 a.1.1, .int .i64 a.1.2]) ∧ HAt w' (x.with a.2) ∧ Touch [x.b] w w'
theorem del_any {w : World} {x : HX} (h : HAt w x) {sa : Option Addr} {sl : Nat} {bs : List Int} (hk : KeyAt w sa sl bs) (sc : Nat) :
  Calls Try.prog 72 #[.pointer (some ⟨x.X, 0, none⟩), .slice sa sl sc] w (HDelPost w x (x.del bs)) := by
 have hl := hk.1
 have hb := hk.2.2.1
 have c0 := h.c0
 unfold HX.del
 by_cases h4 : bs.length = x.size
 ·rw [if_pos h4]
  obtain rfl : sl = x.size := by omega
  have hd := (Touch.refl [] w).drew
  have hA := h.touch hd (by simp) (by simp)
  have d2 := hA.c2
  have hcv := (hk.touch hd).conv sc
  have hlk := hA.map.look hk.2.1 h4
  cases hsm : sameP x.l bs with
  | none =>
   rw [hsm] at hlk
   unfold foundV idx0 Option.isSome at hlk
   have HD := toHid (And.intro hd hA)
   generalize strOfNums bs = A at *
   clear h hk hl hb h4 hsm hA hd
   go_enter Try.func72, Try.ntmps72
   go_wp2_with fail
   go_region
   go_wp2
   go_ret2
   exact ⟨rfl, HD.out.2, HD.out.1.nil⟩
  | some i =>
   rw [hsm] at hlk
   unfold foundV idx0 Option.isSome at hlk
   have hd2 := hd.drew
   have hA2 := h.touch hd2 (by simp) (by simp)
   have e2 := hA2.c2
   have hcv2 := (hk.touch hd2).conv sc
   obtain ⟨w3, hdr, hM, ht3⟩ := hA2.map.drop (same_get hsm) 0
   have HF : Hid (HDelPost w x (((i : Int), 0), x.l.set i none) (.returned (.tuple #[.int .i64 i, .int .i64 0])) w3) := ⟨rfl, hA2.turned _ (by simp) hM ht3, hd2.nil.trans ht3 (fun y hy => Or.inl hy)⟩
   generalize strOfNums bs = A at *
   clear h hk hl hb h4 hsm hA hd hM ht3 hA2 hd2
   go_enter Try.func72, Try.ntmps72
   go_wp2_with fail
   go_region
   go_wp2_with fail
   clear hcv hlk d2
   go_region
   go_wp2
   go_ret2
   exact HF.out
 ·have hs : ((sl : Int) != x.size) = true := by simp; omega
  rw [if_neg h4]
  have HH := toHid h
  clear h hk hl h4
  go_enter Try.func72, Try.ntmps72
  go_wp2
  go_ret2
  exact ⟨rfl, HH.out, Touch.refl _ _⟩
def HNewPost (w : World) (size m : Nat) (e : Ending) (w' : World) : Prop := ∃ X b, e = .returned (.tuple #[.pointer (some ⟨X, 0, none⟩), .int .i64 0]) ∧ HAt w' ⟨X, b, size, List.replicate m none⟩ ∧ w.heap.size ≤ X ∧ w.heap.size ≤ b ∧ Touch [] w w'
theorem new_any (w : World) (size m : Nat) (s1 : 1 ≤ size) (s2 : size ≤ 16) (h1 : 1 ≤ m) (h2 : m ≤ 64) : Calls Try.prog 23 #[.int .i64 (size : Int), .int .i64 (m : Int)] w (HNewPost w size m) := by
 have hmm := @run_makeMap Try.prog
 have b1 := HM.made w s1 s2 h2
 have b2 := Blk.newA (w.alloc (.map #[] 0)) #[.int .i64 (size : Int), .int .i64 (m : Int), .map (some w.heap.size)] _ 99 rfl
 have HF : Hid (HNewPost w size m (.returned (.tuple #[.pointer (some ⟨w.heap.size + 1, 0, none⟩), .int .i64 0])) ((w.alloc (.map #[] 0)).alloc (.cells #[.int .i64 (size : Int), .int .i64 (m : Int), .map (some w.heap.size)] 99))) := by
  refine ⟨_, w.heap.size, rfl, ⟨?_, b1.touch ((Touch.refl [] _).alloc _) (by simp), by simpa using h1, by show w.heap.size + 1 ≠ w.heap.size; omega⟩, by omega, by omega, ((Touch.refl [] w).alloc _).alloc _⟩
  rw [World.size_alloc] at b2
  simpa using b2
 clear b1 b2
 go_enter Try.func23, Try.ntmps23
 go_wp2
 go_ret2
 exact HF.out
theorem new_bad (w : World) (size m : Int) (h1 : ¬ (1 ≤ m ∧ m ≤ 64 ∧ 1 ≤ size ∧ size ≤ 16)) : Calls Try.prog 23 #[.int .i64 size, .int .i64 m] w fun e w' => e = .returned (.tuple #[.pointer none, .int .i64 2]) ∧ w' = w := by
 by_cases a3 : size < 1
 ·clear h1
  go_enter Try.func23, Try.ntmps23
  go_wp2
  go_ret2
  exact ⟨rfl, rfl⟩
 ·by_cases a4 : 16 < size
  ·clear h1
   go_enter Try.func23, Try.ntmps23
   go_wp2
   go_ret2
   exact ⟨rfl, rfl⟩
  ·by_cases a1 : m < 1
   ·clear h1
    go_enter Try.func23, Try.ntmps23
    go_wp2
    go_ret2
    exact ⟨rfl, rfl⟩
   ·have a2 : 64 < m := by omega
    clear h1
    go_enter Try.func23, Try.ntmps23
    go_wp2
    go_ret2
    exact ⟨rfl, rfl⟩
end Go.Proofs.Ytmhhahmjkopjhaa
end
section
namespace Go.Proofs.Ytmhhahmjkopjhaa
open Go.RowKit Go.Maps
def HCopyPost (w : World) (x : HX) (e : Ending) (w' : World) : Prop := ∃ C cb, e = .returned (.pointer (some ⟨C, 0, none⟩)) ∧ HAt w' ⟨C, cb, x.size, x.l⟩ ∧ w.heap.size ≤ C ∧ w.heap.size ≤ cb ∧ Touch [] w w'
end Go.Proofs.Ytmhhahmjkopjhaa
end
section
namespace Go.Proofs.Ytmhhahmjkopjhaa
open Go.RowKit Go.Maps
attribute [local go_sem ↓] Go.wp_at_zero Go.wp_at_succ
def keysP (l : List (Option (List Int))) : List (List Int) := l.filterMap id
end Go.Proofs.Ytmhhahmjkopjhaa
end
section
namespace Go.Proofs.Ytmhhahmjkopjhaa
open Go.RowKit Go.Maps
def natV (n : Nat) : Value := .int .i64 (n : Int)
def OrdAt (w : World) (g : Option Nat) (cap : Nat) (l : List Nat) : Prop := RowAt w 3 1 g l.length cap (l.map natV)
theorem OrdAt.touch {S : List Nat} {w w' : World} {g : Option Nat} {cap : Nat} {l : List Nat} (h : OrdAt w g cap l) (ht : Touch S w w') (hg : ∀ b, g = some b → b ∉ S) : OrdAt w' g cap l := RowAt.touch h ht hg
theorem OrdAt.at_ {w : World} {g : Option Nat} {cap : Nat} {l : List Nat} (h : OrdAt w g cap l) {j : Nat} (hj : j < l.length) : ∃ b rest, g = some b ∧ Blk w b (l.map natV ++ rest) 3 ∧ cap ≤ l.length + rest.length := by
 obtain ⟨_, h2, _, h4⟩ := h
 cases g with
 | none =>
  have h4 : cap = 0 := h4
  omega
 | some b =>
  obtain ⟨rest, hB, hc⟩ := h4
  exact ⟨b, rest, rfl, hB, by simpa using hc⟩
theorem OrdAt.cell {w : World} {b cap : Nat} {l : List Nat} (h : OrdAt w (some b) cap l) {j : Nat} (hj : j < l.length) : w.cell? ⟨b, j, none⟩ = some (.int .i64 ((l.getD j 0 : Nat) : Int)) := by
 obtain ⟨_, _, _, rest, hB, _⟩ := h
 refine hB.cell ?_
 rw [List.getElem?_append_left (by simpa using hj), List.getElem?_map, List.getD_eq_getElem?_getD, List.getElem?_eq_getElem hj]
 rfl
theorem OrdAt.lt {w : World} {b cap : Nat} {l : List Nat} (h : OrdAt w (some b) cap l) : b < w.heap.size := by
 obtain ⟨_, _, _, rest, hB, _⟩ := h
 exact hB.lt
theorem pred_any (w : World) {c s : Nat} (v : Nat) (hc : w.cell? ⟨c, 0, none⟩ = some (.int .i64 (s : Int))) :
  Calls Try.prog 89 #[.int .i64 (v : Int), .pointer (some ⟨c, 0, none⟩)] w fun e w' => e = .returned (.bool (v == s)) ∧ w' = w := by
 by_cases h : v = s
 ·have h1 : ((v : Int) == (s : Int)) = true := by rw [h]; simp
  rw [show (v == s) = true from by simpa using h]
  clear h
  go_enter Try.func89, Try.ntmps89
  go_wp2
  go_ret
  exact ⟨rfl, rfl⟩
 ·have h1 : ((v : Int) == (s : Int)) = false := beq_false_of_ne (by omega)
  rw [show (v == s) = false from by simpa using h]
  clear h
  go_enter Try.func89, Try.ntmps89
  go_wp2
  go_ret
  exact ⟨rfl, rfl⟩
theorem find_from {l : List Nat} {s k : Nat} (h1 : ∀ j, j < k → l.getD j 0 ≠ s) (hk : k < l.length) (h2 : l.getD k 0 = s) : l.findIdx? (fun x => x == s) = some k := by
 rw [List.findIdx?_eq_some_iff_getElem]
 refine ⟨hk, ?_, fun j hj => ?_⟩
 ·rw [List.getD_eq_getElem?_getD, List.getElem?_eq_getElem hk] at h2
  simpa using h2
 ·have := h1 j hj
  rw [List.getD_eq_getElem?_getD, List.getElem?_eq_getElem (by omega)] at this
  simpa using this
theorem find_none {l : List Nat} {s : Nat} (h1 : ∀ j, j < l.length → l.getD j 0 ≠ s) : l.findIdx? (fun x => x == s) = none := by
 rw [List.findIdx?_eq_none_iff]
 intro x hx
 obtain ⟨j, hj, rfl⟩ := List.getElem_of_mem hx
 have := h1 j hj
 rw [List.getD_eq_getElem?_getD, List.getElem?_eq_getElem hj] at this
 simpa using this
theorem indexFunc_any {w : World} {g : Option Nat} {cap : Nat} {l : List Nat} (h : OrdAt w g cap l) {c s : Nat} (hc : w.cell? ⟨c, 0, none⟩ = some (.int .i64 (s : Int))) (hn : l.length ≤ 1000) :
  Calls Try.prog 90 #[slV g l.length cap, .func (.func 89) #[] #[.pointer (some ⟨c, 0, none⟩)]] w fun e w' => e = .returned (.int .i64 (idxI (l.findIdx? (fun x => x == s)))) ∧ w' = w := by
 have HH := toHid h
 have HC := toHid hc
 unfold slV
 generalize hsg : (g.map fun b => (⟨b, 0, none⟩ : Addr)) = sg at *
 generalize hln : l.length = n at *
 have HL := toHid (And.intro hln hsg)
 clear h hsg hln hc
 go_enter Try.func90, Try.ntmps90
 go_wp2_with fail
 go_loop [8] (fun t => ∃ k : Nat, k ≤ n ∧ t = .int .i64 k ∧ Hid (∀ j, j < k → l.getD j 0 ≠ s)) (fun t => n - (intOf t).toNat)
 case atStart => exact ⟨0, by omega, rfl, fun j hj => absurd hj (by omega)⟩
 case round =>
  obtain ⟨k, hk, rfl, HI⟩ := hrel
  by_cases hlt : k < n
  ·have hkl : k < l.length := by rw [HL.out.1]; exact hlt
   obtain ⟨b, rest, rfl, hB, _⟩ := HH.out.at_ hkl
   have hsg : some ⟨b, 0, none⟩ = sg := HL.out.2
   subst hsg
   have hcell := HH.out.cell hkl
   have H1 := toHid (pred_any w (l.getD k 0) HC.out)
   have HV : Hid (∃ z : Nat, l.getD k 0 = z) := ⟨_, rfl⟩
   generalize hz : l.getD k 0 = z at *
   have HZ := toHid hz
   clear hz hB HV
   go_wp2_with fail
   refine Calls.mono H1.out ?_
   rintro e w2 ⟨rfl, rfl⟩
   cases hq : (z == s) with
   | true =>
    have HR := toHid (find_from HI.out hkl (by rw [HZ.out]; simpa using hq))
    clear hq hkl
    go_wp2
    go_ret
    exact ⟨by rw [HR.out]; rfl, rfl⟩
   | false =>
    have HN : Hid (∀ j, j < k + 1 → l.getD j 0 ≠ s) := fun j hj => by
     by_cases hjk : j < k
     ·exact HI.out j hjk
     ·obtain rfl : j = k := by omega
      rw [HZ.out]
      simpa using hq
    clear hq hkl
    go_wp2
    exact ⟨⟨k + 1, by omega, by go_num, HN⟩, by simp [intOf]; omega⟩
  ·obtain rfl : k = n := by omega
   have HR := toHid (find_none (fun j hj => HI.out j (by rw [← HL.out.1]; exact hj)))
   go_wp2
   go_ret
   exact ⟨by rw [HR.out]; rfl, rfl⟩
theorem Blk.cleared {b : Nat} {t : TypeId} : ∀ (vs : List Value) (o : Nat) (w : World) (cs : List Value), Blk w b cs t → ∃ cs', Blk (w.setCells b o vs) b cs' t ∧ cs'.length = cs.length ∧ cs'.take o = cs.take o ∧ Touch [b] w (w.setCells b o vs)
 | [], _, w, cs, h => ⟨cs, h, rfl, rfl, Touch.refl _ _⟩
 | v :: vs, o, w, cs, h => by
  obtain ⟨cs', h1, h2, h3, h4⟩ := Blk.cleared vs (o + 1) _ _ (h.setCell o v)
  refine ⟨cs', h1, by rw [h2]; simp, ?_, ((Touch.refl [b] w).setCell ⟨b, o, none⟩ v (Or.inl (by simp))).trans h4 (fun y hy => Or.inl hy)⟩
  have h5 := congrArg (List.take o) h3
  rw [List.take_take, List.take_take, Nat.min_eq_left (by omega)] at h5
  rw [h5, List.take_set_of_le (by omega)]
theorem filter_step {l : List Nat} {s j : Nat} (hj : j < l.length) : (l.take (j + 1)).filter (fun x => x != s) = (l.take j).filter (fun x => x != s) ++ (if l.getD j 0 = s then [] else [l.getD j 0]) := by
 rw [List.take_add_one, List.filter_append, List.getD_eq_getElem?_getD, List.getElem?_eq_getElem hj]
 simp only [Option.toList_some, Option.getD_some]
 by_cases e : l[j] = s
 ·rw [if_pos e]
  simp [e]
 ·rw [if_neg e]
  simp [e]
theorem filter_all {l : List Nat} {s : Nat} (h : ∀ x ∈ l, x ≠ s) : l.filter (fun x => x != s) = l := by
 rw [List.filter_eq_self]
 intro x hx
 simpa using h x hx
theorem filter_start {l : List Nat} {s k : Nat} (h : l.findIdx? (fun x => x == s) = some k) : k < l.length ∧ (l.take (k + 1)).filter (fun x => x != s) = l.take k := by
 rw [List.findIdx?_eq_some_iff_getElem] at h
 obtain ⟨hk, h1, h2⟩ := h
 refine ⟨hk, ?_⟩
 rw [filter_step hk, List.getD_eq_getElem?_getD, List.getElem?_eq_getElem hk]
 simp only [Option.getD_some]
 rw [if_pos (by simpa using h1), List.append_nil]
 refine filter_all fun x hx => ?_
 obtain ⟨j, hj, rfl⟩ := List.getElem_of_mem hx
 rw [List.length_take] at hj
 rw [List.getElem_take]
 have := h2 j (by omega)
 simpa using this
def DelFPost (w : World) (g : Option Nat) (cap : Nat) (l : List Nat) (e : Ending) (w' : World) : Prop := e = .returned (slV g l.length cap) ∧ OrdAt w' g cap l ∧ Touch g.toList w w'
theorem deleteFunc_any {w : World} {g : Option Nat} {cap : Nat} {l : List Nat} (h : OrdAt w g cap l) {c s : Nat} (hc : w.cell? ⟨c, 0, none⟩ = some (.int .i64 (s : Int))) (hcg : ∀ b, g = some b → c ≠ b) (hn : l.length ≤ 1000) :
  Calls Try.prog 88 #[slV g l.length cap, .func (.func 89) #[] #[.pointer (some ⟨c, 0, none⟩)]] w (DelFPost w g cap (l.filter (fun x => x != s))) := by
 have H1 := toHid (indexFunc_any h hc hn)
 cases hf : l.findIdx? (fun x => x == s) with
 | none =>
  have HF : Hid (DelFPost w g cap (l.filter (fun x => x != s)) (.returned (slV g l.length cap)) w) := by
   rw [filter_all (fun x hx => by rw [List.findIdx?_eq_none_iff] at hf; simpa using hf x hx)]
   exact ⟨rfl, h, Touch.refl _ _⟩
  rw [hf] at H1
  unfold idxI at H1
  clear h hc hcg hf
  generalize slV g l.length cap = v at *
  go_enter Try.func88, Try.ntmps88
  go_wp2_with fail
  refine Calls.mono H1.out ?_
  rintro e w2 ⟨rfl, rfl⟩
  go_wp2
  go_ret
  exact HF.out
 | some k0 =>
  rw [hf] at H1
  obtain ⟨hk0, hst⟩ := filter_start hf
  obtain ⟨b, rest, rfl, hB, hcp⟩ := h.at_ hk0
  have hcap : l.length ≤ cap := h.2.1
  have hrow := h
  unfold idxI at H1
  unfold slV at *
  simp only [Option.map_some] at *
  have hne1 : ((k0 : Int) == -1) = false := beq_eq_false_iff_ne.2 (by omega)
  have HI0 : Hid (∃ cs, Blk w b (cs ++ rest) 3 ∧ cs.length = l.length ∧ cs.take k0 = ((l.take (k0 + 1)).filter (fun x => x != s)).map natV ∧ k0 = ((l.take (k0 + 1)).filter (fun x => x != s)).length ∧ cs.drop (k0 + 1) = (l.drop (k0 + 1)).map natV ∧ k0 < k0 + 1 ∧ Touch [b] w w) := by
   refine ⟨l.map natV, hB, by simp, ?_, ?_, ?_, by omega, Touch.refl _ _⟩
   ·rw [hst, List.map_take]
   ·rw [hst, List.length_take]; omega
   ·rw [List.map_drop]
  have HC := toHid (And.intro hc (And.intro (hcg b rfl) (And.intro hrow hcp)))
  generalize hln : l.length = n at *
  have HL := toHid hln
  clear h hc hcg hf hB hst hrow hln hcp
  go_enter Try.func88, Try.ntmps88
  go_wp2_with fail
  refine Calls.mono H1.out ?_
  rintro e w2 ⟨rfl, rfl⟩
  go_wp2_with fail
  go_loopw [5, 6, 7] (fun a j7 _ wr => ∃ i j : Nat, a = .int .i64 i ∧ j7 = .int .i64 j ∧ j ≤ n ∧ Hid (∃ cs, Blk wr b (cs ++ rest) 3 ∧ cs.length = n ∧ cs.take i = ((l.take j).filter (fun x => x != s)).map natV ∧ i = ((l.take j).filter (fun x => x != s)).length ∧ cs.drop j = (l.drop j).map natV ∧ i < j ∧ Touch [b] w2 wr)) (fun _ j7 _ _ => n - (intOf j7).toNat)
  case atStart => exact ⟨k0, k0 + 1, rfl, by go_num, by omega, HI0⟩
  case round =>
   clear HI0 H1
   obtain ⟨i, j, rfl, rfl, hjn, HI⟩ := hrel
   obtain ⟨cs, hB, hcl, htk, hil, hdr, hij, ht⟩ := HI.out
   by_cases hlt : j < n
   ·have hjl : j < l.length := by rw [HL.out]; exact hlt
    have hcj : wr.cell? ⟨b, j, none⟩ = some (.int .i64 ((l.getD j 0 : Nat) : Int)) := by
     refine hB.cell ?_
     rw [List.getElem?_append_left (by omega)]
     have := congrArg (fun x => x[0]?) hdr
     simp only [List.getElem?_drop, List.getElem?_map, Nat.add_zero] at this
     rw [this, List.getElem?_eq_getElem hjl, List.getD_eq_getElem?_getD, List.getElem?_eq_getElem hjl]
     rfl
    have hci := hB.cellN (i := i) (by rw [List.length_append]; omega)
    have hfi := hB.frozen i
    have hcc := ht.cell HC.out.1 (by simp; exact HC.out.2.1)
    have H2 := toHid (pred_any wr (l.getD j 0) hcc)
    have hfs := filter_step (s := s) hjl
    generalize hold : (cs ++ rest)[i]'(by rw [List.length_append]; omega) = old at hci
    by_cases hq : l.getD j 0 = s
    ·rw [if_pos hq, List.append_nil] at hfs
     have HN : Hid (∃ cs, Blk wr b (cs ++ rest) 3 ∧ cs.length = n ∧ cs.take i = ((l.take (j + 1)).filter (fun x => x != s)).map natV ∧ i = ((l.take (j + 1)).filter (fun x => x != s)).length ∧ cs.drop (j + 1) = (l.drop (j + 1)).map natV ∧ i < j + 1 ∧ Touch [b] w2 wr) := by
      refine ⟨cs, hB, hcl, by rw [hfs]; exact htk, by rw [hfs]; exact hil, ?_, by omega, ht⟩
      rw [← List.drop_drop, hdr, ← List.map_drop, List.drop_drop]
     have hqb : (l.getD j 0 == s) = true := by simpa using hq
     rw [hqb] at H2
     generalize l.getD j 0 = z at *
     clear hfs hold hB hcl htk hil hdr ht HI hq hqb hcc hjl hci hfi
     go_wp2_with fail
     refine Calls.mono H2.out ?_
     rintro e w3 ⟨rfl, rfl⟩
     go_wp2
     go_roundw
     case rel => exact ⟨i, j + 1, rfl, by go_num, by omega, HN⟩
     case measure => simp [intOf]; omega
    ·rw [if_neg hq] at hfs
     have HN : Hid (∃ cs', Blk (wr.setCell ⟨b, i, none⟩ (.int .i64 ((l.getD j 0 : Nat) : Int))) b (cs' ++ rest) 3 ∧ cs'.length = n ∧ cs'.take (i + 1) = ((l.take (j + 1)).filter (fun x => x != s)).map natV ∧ i + 1 = ((l.take (j + 1)).filter (fun x => x != s)).length ∧ cs'.drop (j + 1) = (l.drop (j + 1)).map natV ∧ i + 1 < j + 1 ∧ Touch [b] w2 (wr.setCell ⟨b, i, none⟩ (.int .i64 ((l.getD j 0 : Nat) : Int)))) := by
      refine ⟨cs.set i (.int .i64 ((l.getD j 0 : Nat) : Int)), ?_, by simpa using hcl, ?_, ?_, ?_, by omega, ht.setCell _ _ (Or.inl (by simp))⟩
      ·have := hB.setCell i (.int .i64 ((l.getD j 0 : Nat) : Int))
       rw [List.set_append_left _ _ (by omega)] at this
       exact this
      ·rw [hfs, List.map_append, ← htk, List.take_add_one, List.take_set_of_le (by omega), List.getElem?_set_self (by omega)]
       rfl
      ·rw [hfs, List.length_append, ← hil]
       rfl
      ·rw [List.drop_set_of_lt (by omega), ← List.drop_drop, hdr, ← List.map_drop, List.drop_drop]
     have hqb : (l.getD j 0 == s) = false := by simpa using hq
     rw [hqb] at H2
     generalize l.getD j 0 = z at *
     clear hfs hold hB hcl htk hil hdr ht HI hq hqb hcc hjl
     go_wp2_with fail
     refine Calls.mono H2.out ?_
     rintro e w3 ⟨rfl, rfl⟩
     go_wp2
     go_roundw
     case rel => exact ⟨i + 1, j + 1, by go_num, by go_num, by omega, HN⟩
     case measure => simp [intOf]; omega
   ·obtain rfl : j = n := by omega
    have hfl : (l.take j).filter (fun x => x != s) = l.filter (fun x => x != s) := by rw [List.take_of_length_le (by rw [HL.out]; exact Nat.le_refl _)]
    rw [hfl] at htk hil
    have hcl0 : ∀ ty, (Builtin.clear_ #[100] ty #[.slice (some ⟨b, i, none⟩) (j - i) (cap - i)]).run Try.prog wr = .ok (.tuple #[]) (wr.setCells b i (List.replicate (j - i) (.int .i64 0))) :=
     fun ty => Lib.run_clear_slice wr 100 3 ty (.int .i64 0) Try.underlying100 zero3 rfl rfl b i (j - i) _ (by omega) (fun t ht => by rw [hB.cellN (i := i + t) (by rw [List.length_append]; omega)]; rfl) (fun t _ => hB.frozen _)
    obtain ⟨cs', q1, q2, q3, q4⟩ := Blk.cleared (List.replicate (j - i) (.int .i64 0)) i wr _ hB
    have HF : Hid (DelFPost w2 (some b) cap (l.filter (fun x => x != s)) (.returned (.slice (some ⟨b, 0, none⟩) i cap)) (wr.setCells b i (List.replicate (j - i) (.int .i64 0)))) := by
     refine ⟨by rw [hil]; rfl, ⟨by simp, by rw [← hil]; omega, HC.out.2.2.1.2.2.1, cs'.drop i, ?_, ?_⟩, ht.trans q4 (fun y hy => Or.inl hy)⟩
     ·rw [← htk, show cs.take i = cs'.take i from by rw [q3, List.take_append_of_le_length (by omega)], List.take_append_drop]
      exact q1
     ·rw [List.length_append, List.length_map, ← hil, List.length_drop, q2]
      have := HC.out.2.2.2
      rw [List.length_append]
      have h9 := HL.out
      omega
    have hii : (i : Int) ≤ j := by omega
    clear hfl hB hcl htk hil hdr ht HI q1 q2 q3 q4
    go_wp2
    go_ret
    exact HF.out
end Go.Proofs.Ytmhhahmjkopjhaa
end
section
namespace Go.Proofs.Ytmhhahmjkopjhaa
open Go.RowKit Go.Maps
structure LX where
 X : Nat
 b : Nat
 size : Nat
 l : List (Option (List Int))
 g : Option Nat
 cap : Nat
 ord : List Nat
def LX.own (x : LX) : List Nat := x.X :: x.b :: x.g.toList
theorem LX.mem_g {x : LX} {b : Nat} (h : x.g = some b) : b ∈ x.own := by simp [LX.own, h]
theorem LX.mem_X (x : LX) : x.X ∈ x.own := by simp [LX.own]
theorem LX.mem_b (x : LX) : x.b ∈ x.own := by simp [LX.own]
structure LAt (w : World) (x : LX) : Prop where
 self : Blk w x.X [.int .i64 (x.size : Int), .int .i64 (x.l.length : Int), .map (some x.b), slV x.g x.ord.length x.cap] 102
 map : HM w x.b x.size x.l
 row : OrdAt w x.g x.cap x.ord
 m1 : 1 ≤ x.l.length
 few : x.ord.length ≤ 64
 apart : x.own.Nodup
theorem LAt.touch {S : List Nat} {w w' : World} {x : LX} (h : LAt w x) (ht : Touch S w w') (hS : ∀ y ∈ x.own, y ∉ S) : LAt w' x :=
 ⟨ht.blk h.self (hS _ x.mem_X), h.map.touch ht (hS _ x.mem_b), h.row.touch ht (fun _b hb => hS _ (LX.mem_g hb)), h.m1, h.few, h.apart⟩
theorem LAt.still {w w' : World} {x : LX} (h : LAt w x) (ht : Touch [] w w') : LAt w' x := h.touch ht (by simp)
theorem LAt.c0 {w : World} {x : LX} (h : LAt w x) : w.cell? ⟨x.X, 0, none⟩ = some (.int .i64 (x.size : Int)) := h.self.cell rfl
theorem LAt.c1 {w : World} {x : LX} (h : LAt w x) : w.cell? ⟨x.X, 1, none⟩ = some (.int .i64 (x.l.length : Int)) := h.self.cell rfl
theorem LAt.c2 {w : World} {x : LX} (h : LAt w x) : w.cell? ⟨x.X, 2, none⟩ = some (.map (some x.b)) := h.self.cell rfl
theorem LAt.c3 {w : World} {x : LX} (h : LAt w x) : w.cell? ⟨x.X, 3, none⟩ = some (slV x.g x.ord.length x.cap) := h.self.cell rfl
theorem LAt.lt {w : World} {x : LX} (h : LAt w x) : ∀ y ∈ x.own, y < w.heap.size := by
 intro y hy
 simp only [LX.own, List.mem_cons, Option.mem_toList] at hy
 rcases hy with rfl | rfl | hy
 ·exact h.self.lt
 ·exact h.map.lt
 ·have := h.row
  rw [hy] at this
  exact this.lt
theorem LAt.Xb {w : World} {x : LX} (h : LAt w x) : x.X ≠ x.b := fun e => by
 have := h.apart
 simp [LX.own, e] at this
theorem LAt.Xg {w : World} {x : LX} (h : LAt w x) {c : Nat} (hc : x.g = some c) : x.X ≠ c ∧ x.b ≠ c := by
 have := h.apart
 simp [LX.own, hc] at this
 exact ⟨this.1.2, this.2⟩
theorem LAt.turned {w w' : World} {x : LX} (h : LAt w x) (g : Option Nat) (cap : Nat) (ord : List Nat) (ho : OrdAt w' g cap ord) (hf : ord.length ≤ 64) (ht : Touch x.g.toList w w') (hg : ∀ b, g = some b → b ∈ x.g.toList ∨ w.heap.size ≤ b) :
  LAt (w'.setCell ⟨x.X, 3, none⟩ (slV g ord.length cap)) { x with g := g, cap := cap, ord := ord } ∧ Touch (x.X :: x.g.toList) w (w'.setCell ⟨x.X, 3, none⟩ (slV g ord.length cap)) := by
 have hXg : x.X ∉ x.g.toList := fun hx => (h.Xg (by simpa using hx)).1 rfl
 have hbg : x.b ∉ x.g.toList := fun hx => (h.Xg (by simpa using hx)).2 rfl
 have hX := (ht.blk h.self hXg).setCell 3 (slV g ord.length cap)
 have htX : Touch [x.X] w' (w'.setCell ⟨x.X, 3, none⟩ (slV g ord.length cap)) := (Touch.refl _ w').setCell _ _ (Or.inl (by simp))
 have hgl : ∀ b, g = some b → x.X ≠ b ∧ x.b ≠ b := fun b hb => by
  rcases hg b hb with h1 | h1
  ·exact h.Xg (by simpa using h1)
  ·have h2 := h.lt _ x.mem_X
   have h3 := h.lt _ x.mem_b
   omega
 refine ⟨⟨hX, (h.map.touch ht hbg).touch htX (by simpa using h.Xb.symm), ho.touch htX (fun b hb => by simpa using (hgl b hb).1.symm), h.m1, hf, ?_⟩, (ht.mono (fun y hy => Or.inl (by simp [Option.mem_toList.1 hy]))).trans (htX.mono (S' := x.X :: x.g.toList) (fun y hy => Or.inl (by simp at hy; simp [hy]))) (fun y hy => Or.inl hy)⟩
 have := h.Xb
 show (x.X :: x.b :: g.toList).Nodup
 cases g with
 | none => simp [this]
 | some c =>
  have := hgl c rfl
  simp [*]
def TakePost (w : World) (x : LX) (ord : List Nat) (e : Ending) (w' : World) : Prop := e = .returned (.tuple #[]) ∧ LAt w' { x with ord := ord } ∧ Touch (x.X :: x.g.toList) w w'
theorem take_any {w : World} {x : LX} (h : LAt w x) (s : Nat) :
  Calls Try.prog 85 #[.pointer (some ⟨x.X, 0, none⟩), .int .i64 (s : Int)] w (TakePost w x (x.ord.filter (fun y => y != s))) := by
 have hmf : ∀ (fn : Fn) (first cap : Array Value) (w : World), (Instr.makeFunc fn first cap).run Try.prog w = .ok (.func fn first cap) w := fun _ _ _ _ => rfl
 have hta := (Touch.refl [] w).alloc (.cells #[.int .i64 (s : Int)] 3)
 have hA := h.still hta
 have hB := Blk.newA w #[.int .i64 (s : Int)] _ 3 rfl
 have c3 := hA.c3
 have H1 := toHid (deleteFunc_any hA.row (hB.cell (i := 0) rfl) (fun b hb e => by have := h.lt _ (LX.mem_g hb); omega) (by have := h.few; omega))
 have HH := toHid (And.intro h hta)
 have hlen : (x.ord.filter (fun y => y != s)).length ≤ 64 := Nat.le_trans (List.length_filter_le _ _) h.few
 have HL := toHid hlen
 generalize hOO : x.ord.filter (fun y => y != s) = oo at *
 generalize hSV : slV x.g x.ord.length x.cap = sv at *
 clear h hA hB hta hlen hOO hSV
 go_enter Try.func85, Try.ntmps85
 go_wp2_with fail
 refine Calls.mono H1.out ?_
 rintro e w2 ⟨rfl, ho2, ht2⟩
 have hT := HH.out.1.turned x.g x.cap oo ho2 HL.out (HH.out.2.nil.trans ht2 (fun y hy => Or.inl hy)) (fun b hb => Or.inl (by simp [hb]))
 have hX2 := ht2.blk (HH.out.2.blk HH.out.1.self (by simp)) (fun hx => (HH.out.1.Xg (by simpa using hx)).1 rfl)
 have c3' := hX2.cell (i := 3) rfl
 have f3 := hX2.frozen 3
 have HF : Hid (TakePost w x oo (.returned (.tuple #[])) (w2.setCell ⟨x.X, 3, none⟩ (slV x.g oo.length x.cap))) := ⟨rfl, hT.1, hT.2⟩
 clear hT hX2 ho2 ht2 H1 c3
 generalize slV x.g x.ord.length x.cap = sv2 at *
 unfold slV at *
 generalize (x.g.map fun b => (⟨b, 0, none⟩ : Addr)) = sg at *
 go_wp2
 go_end0
 exact HF.out
def touchL (l : List Nat) (s : Nat) : List Nat := l.filter (fun y => y != s) ++ [s]
def LTouchPost (w : World) (x : LX) (ord : List Nat) (e : Ending) (w' : World) : Prop := e = .returned (.tuple #[]) ∧ ∃ g cap, LAt w' { x with g := g, cap := cap, ord := ord } ∧ Touch (x.X :: x.g.toList) w w' ∧ ∀ b, g = some b → b ∈ x.g.toList ∨ w.heap.size ≤ b
theorem ord_push {w : World} {g : Option Nat} {cap : Nat} {l : List Nat} (h : OrdAt w g cap l) (hl : l.length ≤ 1000) (s : Nat) :
  ∃ g' cap' w', (Builtin.append_ #[100, 100] 100 #[slV g l.length cap, .slice (some ⟨w.heap.size, 0, none⟩) 1 1]).run Try.prog (w.alloc (.cells #[.int .i64 (s : Int)] 3)) = .ok (slV g' (l.length + 1) cap') w' ∧ OrdAt w' g' cap' (l ++ [s]) ∧ Touch g.toList w w' ∧ ∀ b, g' = some b → b ∈ g.toList ∨ w.heap.size ≤ b := by
 obtain ⟨i, hi0, hz, hs, hb⟩ := info_of info3
 have hta := (Touch.refl [] w).alloc (.cells #[.int .i64 (s : Int)] 3)
 have hB := Blk.newA w #[.int .i64 (s : Int)] _ 3 rfl
 have hgl : ∀ b, g = some b → b < w.heap.size := fun b hb => by
  rw [hb] at h
  exact h.lt
 obtain ⟨g', cap', w', hr, h2, h3, h4, _⟩ := run_append_row (P := Try.prog) (w.alloc (.cells #[.int .i64 (s : Int)] 3)) 100 100 3 i (.int .i64 0) 1 Try.underlying100 hi0 hz hs rfl (by omega) g l.length cap (l.map natV) (h.touch hta (by simp)) ⟨w.heap.size, 0, none⟩ 1 1 [.int .i64 (s : Int)] (by simp)
  (fun j v hj => by
   rw [Addr.add_lit]
   have hjl := (List.getElem?_eq_some_iff.1 hj).1
   simp at hjl
   subst hjl
   simp only [List.getElem?_cons_zero, Option.some.injEq] at hj
   subst hj
   exact hB.cell rfl)
  (fun u hu => by
   simp at hu
   subst hu
   rfl) (by rw [hb]; omega) (by omega)
 refine ⟨g', cap', w', hr, ?_, hta.nil.trans h3 (fun y hy => Or.inl hy), fun b hb2 => ?_⟩
 ·have e : (l ++ [s]).map natV = l.map natV ++ [.int .i64 (s : Int)] := by rw [List.map_append]; rfl
  show RowAt w' 3 1 g' (l ++ [s]).length cap' ((l ++ [s]).map natV)
  rw [e, List.length_append]
  exact h2
 ·rcases h4 with h4 | h4
  ·left
   rw [← h4, hb2]
   simp
  ·right
   rw [h4] at hb2
   injection hb2 with hb2
   rw [← hb2, World.size_alloc]
   omega
theorem ltouch_any {w : World} {x : LX} (h : LAt w x) (s : Nat) (hf : (touchL x.ord s).length ≤ 64) :
  Calls Try.prog 86 #[.pointer (some ⟨x.X, 0, none⟩), .int .i64 (s : Int)] w (LTouchPost w x (touchL x.ord s)) := by
 have H1 := toHid (take_any h s)
 unfold touchL at *
 generalize x.ord.filter (fun y => y != s) = oo at *
 have HH := toHid (And.intro h hf)
 clear h hf
 go_enter Try.func86, Try.ntmps86
 go_wp2_with fail
 refine Calls.mono H1.out ?_
 rintro e w2 ⟨rfl, hA2, ht2⟩
 have hmm := hA2.few
 obtain ⟨g', cap', w3, hr, ho, ht3, hg3⟩ := ord_push hA2.row (Nat.le_trans hmm (by omega)) s
 have hXg : x.X ∉ x.g.toList := fun hx => (HH.out.1.Xg (by simpa using hx)).1 rfl
 have c3 := hA2.c3
 have hT := hA2.turned g' cap' (oo ++ [s]) ho HH.out.2 ht3 hg3
 have hX3 := ht3.blk hA2.self hXg
 have c3' := hX3.cell (i := 3) rfl
 have f3 := hX3.frozen 3
 have HF : Hid (LTouchPost w x (oo ++ [s]) (.returned (.tuple #[])) (w3.setCell ⟨x.X, 3, none⟩ (slV g' (oo.length + 1) cap'))) := by
  refine ⟨rfl, g', cap', ?_, ?_, fun b hb => ?_⟩
  ·have := hT.1
   rw [List.length_append] at this
   exact this
  ·have := ht2.trans hT.2 (fun y hy => Or.inl hy)
   rw [List.length_append] at this
   exact this
  ·rcases hg3 b hb with h1 | h1
   ·exact Or.inl h1
   ·exact Or.inr (Nat.le_trans ht2.size h1)
 clear hT hX3 ho ht3 hg3 hA2 ht2 H1 hmm hXg
 simp only at c3 c3'
 unfold slV at *
 generalize (g'.map fun b => (⟨b, 0, none⟩ : Addr)) = sg at *
 generalize (x.g.map fun b => (⟨b, 0, none⟩ : Addr)) = sg0 at *
 have HR := toHid hr
 clear hr
 go_wp2_with (first | (at_builtin; refine Lib.wpList_append_run _ rfl _ _ _ _ rfl _ _ rfl rfl _ _ HR.out ?_))
 go_end0
 exact HF.out
end Go.Proofs.Ytmhhahmjkopjhaa
end
section
namespace Go.Proofs.Ytmhhahmjkopjhaa
open Go.RowKit Go.Maps
theorem lbySlot_any {w : World} {x : LX} (h : LAt w x) : Calls Try.prog 87 #[.pointer (some ⟨x.X, 0, none⟩)] w fun e w' => e = .returned (.agg (rowS x.l (fun _ => false)).toArray) ∧ Touch [] w w' := by
 have hz := (zero_of_info (P := Try.prog) zero64).1
 have hsz := (zero_of_info (P := Try.prog) zero64).2
 have ht := ((Touch.refl [] w).alloc (.cells (Array.replicate 64 (.string ⟨#[]⟩)) 141)).alloc (.cells (Array.replicate 64 (.string ⟨#[]⟩)) 141)
 have hA := h.still ht
 have c2 := hA.c2
 have hB1 := (Blk.newA w (Array.replicate 64 (.string ⟨#[]⟩)) (List.replicate 64 (.string ⟨#[]⟩)) 141 (by simp)).alloc (.cells (Array.replicate 64 (.string ⟨#[]⟩)) 141)
 have hB2 := Blk.newA (w.alloc (.cells (Array.replicate 64 (.string ⟨#[]⟩)) 141)) (Array.replicate 64 (.string ⟨#[]⟩)) (List.replicate 64 (.string ⟨#[]⟩)) 141 (by simp)
 rw [World.size_alloc] at hB2
 obtain ⟨⟨D, n, ho, hS⟩, hK, hm, hs1, hs16⟩ := hA.map
 have HS := toHid (And.intro hS (And.intro hK (And.intro hm hs16)))
 have HB := toHid (And.intro hB1 (And.intro hB2 (And.intro ht (And.intro (h.lt _ x.mem_X) (h.lt _ x.mem_b)))))
 have HO := toHid ho
 clear hS hK hm hs1 hs16 hB1 hB2 ht hA ho h
 go_enter Try.func87, Try.ntmps87
 go_wp2_with (first
  | (at_range; refine wpList_range_own _ rfl _ 97 rfl 9 3 law9 Try.underlying97 _ x.b n D rfl HO.out ?_; intro w0 hrg0 hg0 hs0)
  | go_in)
 go_frame
 clear c2 hz
 have HR := toHid (And.intro hrg0 (And.intro hg0 hs0))
 have HI : Hid (∃ left cnt, w0.ranges Try.prog 9 (plainElem Try.prog 3) x.b (w.heap.size + 1 + 1) n D left cnt ∧ Blk w0 (w.heap.size + 1) (rowS x.l left) 141 ∧ Blk w0 w.heap.size (List.replicate 64 (.string ⟨#[]⟩)) 141 ∧ Touch [] w w0) := by
  have hT := Touch.of_grown0 HR.out.2.1
  refine ⟨Maps.has D, Maps.size D, ?_, ?_, hT.blk HB.out.1 (by simp), HB.out.2.2.1.trans hT (by simp)⟩
  ·have := HR.out.1
   simp only [World.size_alloc] at this
   exact this
  ·rw [rowS_start (fun i bs hi => has_true_of_atKey (HS.out.1.at_ i bs hi))]
   exact hT.blk HB.out.2.1 (by simp)
 clear hrg0 hg0 hs0 HR HO
 simp only [World.size_alloc]
 generalize hN : w.heap.size = N at *
 have HN := toHid hN
 go_loopw [4] (fun _ wr => Hid (∃ left cnt, wr.ranges Try.prog 9 (plainElem Try.prog 3) x.b (N + 1 + 1) n D left cnt ∧ Blk wr (N + 1) (rowS x.l left) 141 ∧ Blk wr N (List.replicate 64 (.string ⟨#[]⟩)) 141 ∧ Touch [] w wr)) (fun _ wr => wr.rangeLeft x.b (N + 1 + 1))
 case atStart => exact HI
 case round =>
  clear HI
  obtain ⟨left, cnt, hrg, hbK, hbR, ht⟩ := hrel.out
  have HX := toHid (And.intro hbK (And.intro hbR ht))
  have HG := toHid hrg
  clear hrel hbK hbR ht hrg
  go_wp2_with (first
   | (at_next; refine wpList_next_hm _ rfl _ rfl x.b (N + 1 + 1) n D left cnt rfl HG.out HS.out.1 HS.out.2.2.2 HS.out.2.1 ?_ ?_)
   | go_in)
  ·intro hl0
   have hE := rowS_end (l := x.l) hl0
   have hbK := HX.out.1
   rw [hE] at hbK
   go_wp2_with (first
    | (refine wpList_load_row rfl 141 _ rfl (N + 1) rfl 141 _ (0, 0) _ hbK Try.underlying141 rfl (by rw [hsz]; simp [rowS_len]) ?_)
    | (refine wpList_store_row rfl 141 _ _ rfl N _ rfl rfl 141 _ HX.out.2.1 (by rw [hsz]; simp [rowS_len]) (by simp [rowS_len]) (by simp [rowS, Value.oneCell']) ?_)
    | go_in)
   refine bodyPost_ret (v := .agg (rowS x.l fun _ => false).toArray) (results_cell_row (fn := Try.f87) Try.results87 _ _ N 141 _ (0, 0) _ (by rfl) (HX.out.2.1.setRow _) Try.underlying141 rfl (by rw [hsz]; simp [rowS_len])) rfl ⟨rfl, ?_⟩
   exact HX.out.2.2.setRow _ _ (Or.inr (by rw [HN.out]; omega))
  ·intro i bs w1 cnt1 hi hrg1 hlt ht1 hs1 hat hen
   have hi64 : i < 64 := by have := (List.getElem?_eq_some_iff.1 hi).1; have := HS.out.2.2.1; omega
   have hbK := ht1.blk HX.out.1 (by simp)
   have hbR := ht1.blk HX.out.2.1 (by simp; omega)
   have hlN := HB.out.2.2.2.2
   have hcc := hbK.cellN (i := i) (by rw [rowS_len]; exact hi64)
   have hfz := hbK.frozen i
   generalize hcv : (rowS x.l left)[i]'(by rw [rowS_len]; exact hi64) = cv at hcc
   have HN2 : Hid (∃ left' cnt', (w1.setCell ⟨N + 1, i, none⟩ (.string (strOfNums bs))).ranges Try.prog 9 (plainElem Try.prog 3) x.b (N + 1 + 1) n D left' cnt' ∧ Blk (w1.setCell ⟨N + 1, i, none⟩ (.string (strOfNums bs))) (N + 1) (rowS x.l left') 141 ∧ Blk (w1.setCell ⟨N + 1, i, none⟩ (.string (strOfNums bs))) N (List.replicate 64 (.string ⟨#[]⟩)) 141 ∧ Touch [] w (w1.setCell ⟨N + 1, i, none⟩ (.string (strOfNums bs))) ∧ cnt' < cnt) := by
    have hgs : w1.grownBy (w1.setCell ⟨N + 1, i, none⟩ (.string (strOfNums bs))) (some (N + 1)) := by
     have := (Touch.refl [N + 1] w1).setCell ⟨N + 1, i, none⟩ (.string (strOfNums bs)) (Or.inl (by simp))
     exact ⟨this.os, this.tape, this.output, this.size, fun k hk hn => this.block k hk (fun hx => hn (by simp at hx; rw [hx]))⟩
    refine ⟨_, cnt1, hrg1.kept hgs (fun e => by injection e with e; omega) (fun e => by injection e with e; omega), ?_, hbR.setCell_other _ _ (by show N ≠ N + 1; omega), ?_, hlt⟩
    ·rw [rowS_step HS.out.1 HS.out.2.1 hi]
     exact hbK.setCell i _
    ·exact (HX.out.2.2.trans ht1 (fun y hy => Or.inr (by simp at hy; rw [HN.out]; omega))).setCell _ _ (Or.inr (by show w.heap.size ≤ N + 1; rw [HN.out]; omega))
   generalize strOfNums bs = A at *
   clear hrg1 ht1 hs1 hat hbK hbR hcv hi hlN
   go_wp2
   obtain ⟨l', c', a1, a2, a3, a4, a5⟩ := HN2.out
   exact ⟨⟨l', c', a1, a2, a3, a4⟩, by rw [a1.left_eq, HG.out.left_eq]; exact a5⟩
def roomN (l : List (Option (List Int))) (ord : List Nat) : Nat := match freeP l with
 | some f => f
 | none => ord.headD 0
def roomL (l : List (Option (List Int))) (ord : List Nat) : List (Option (List Int)) := match freeP l with
 | some _ => l
 | none => l.set (ord.headD 0) none
theorem LAt.mapped {w w' : World} {x : LX} (h : LAt w x) (l : List (Option (List Int))) (hl : l.length = x.l.length) (hm : HM w' x.b x.size l) (ht : Touch [x.b] w w') : LAt w' { x with l := l } :=
 ⟨by show Blk w' x.X [.int .i64 (x.size : Int), .int .i64 (l.length : Int), .map (some x.b), slV x.g x.ord.length x.cap] 102; rw [hl]; exact ht.blk h.self (by simpa using h.Xb), hm, h.row.touch ht (fun c hc hx => by simp at hx; exact (h.Xg hc).2 hx.symm), by show 1 ≤ l.length; rw [hl]; exact h.m1, h.few, h.apart⟩
def RoomPost (w : World) (x : LX) (e : Ending) (w' : World) : Prop := e = .returned (.int .i64 (roomN x.l x.ord : Int)) ∧ LAt w' { x with l := roomL x.l x.ord } ∧ Touch x.own w w'
theorem room_any {w : World} {x : LX} (h : LAt w x) (hok : freeP x.l = none → ∃ o bs, x.ord.head? = some o ∧ x.l[o]? = some (some bs)) : Calls Try.prog 84 #[.pointer (some ⟨x.X, 0, none⟩)] w (RoomPost w x) := by
 have hz := (zero_of_info (P := Try.prog) zero64).1
 have hsz := (zero_of_info (P := Try.prog) zero64).2
 have H1 := toHid (lbySlot_any h)
 have HH := toHid h
 have hm1 := h.map.many
 generalize hM : x.l.length = m at *
 have HM := toHid hM
 have HOK := toHid hok
 clear h hM hok
 go_enter Try.func84, Try.ntmps84
 go_wp2_with fail
 refine Calls.mono H1.out ?_
 rintro e w2 ⟨rfl, ht2⟩
 have hB := Blk.newA w2 (Array.replicate 64 (.string ⟨#[]⟩)) (List.replicate 64 (.string ⟨#[]⟩)) 141 (by simp)
 have hT := (ht2.alloc (.cells (Array.replicate 64 (.string ⟨#[]⟩)) 141)).setRow w2.heap.size (rowS x.l fun _ => false).toArray (Or.inr ht2.size)
 have hR := hB.setRow (rowS x.l fun _ => false)
 have c1 := (HH.out.still hT).c1
 rw [HM.out] at c1
 have HB := toHid hB
 have HT := toHid hT
 have HR := toHid hR
 clear hB hT hR H1 ht2
 go_wp2_with (first
  | (refine wpList_store_row rfl 141 _ _ rfl w2.heap.size _ rfl rfl 141 _ HB.out (by rw [hsz]; simp [rowS_len]) (by simp [rowS_len]) (by simp [rowS, Value.oneCell']) ?_)
  | go_in)
 generalize (w2.alloc (Obj.cells (Array.replicate 64 (Value.string { data := #[] })) 141)).setRow w2.heap.size (rowS x.l fun _ => false).toArray = w3 at *
 generalize w2.heap.size = N at *
 clear c1 HB hz hsz
 generalize hRS : (rowS x.l fun _ => false).toArray = rs at *
 clear hRS
 go_loop [12] (fun t => ∃ k : Nat, k ≤ m ∧ t = .int .i64 k ∧ Hid (∀ j, j < k → (x.l.getD j none).isSome = true)) (fun t => m - (intOf t).toNat)
 case atStart => exact ⟨0, by omega, rfl, fun j hj => absurd hj (by omega)⟩
 case round =>
  obtain ⟨k, hk, rfl, HI⟩ := hrel
  by_cases hlt : k < m
  ·have hcell := HR.out.cell (row_cell (l := x.l) (k := k) (by omega))
   have hkl : k < x.l.length := by rw [HM.out]; exact hlt
   have hk64 : k < 64 := by omega
   have hkm : (k : Int) < m := by omega
   cases hs : x.l.getD k none with
   | none =>
    rw [hs] at hcell
    unfold slotS at hcell
    have HF := toHid (free_some HI.out hkl hs)
    clear hs hkl HI
    go_wp2
    go_ret
    refine ⟨?_, ?_, HT.out.nil⟩
    ·unfold roomN
     rw [HF.out]
     rfl
    ·unfold roomL
     rw [HF.out]
     exact HH.out.still HT.out
   | some bs =>
    rw [hs] at hcell
    have hmem : some bs ∈ x.l := by
     rw [List.getD_eq_getElem?_getD, List.getElem?_eq_getElem hkl] at hs
     simp only [Option.getD_some] at hs
     rw [← hs]
     exact List.getElem_mem hkl
    have hfull := str_full (bs := bs) (by rw [(HH.out.map.keys bs hmem).2]; exact HH.out.map.s1)
    have hcell' : w3.cell? ⟨N, k, none⟩ = some (.string (strOfNums bs)) := hcell
    have HN : Hid (∀ j, j < k + 1 → (x.l.getD j none).isSome = true) := fun j hj => by
     by_cases hjk : j < k
     ·exact HI.out j hjk
     ·obtain rfl : j = k := by omega
      rw [hs]
      rfl
    generalize strOfNums bs = A at *
    clear hs hkl HI hcell hmem
    go_wp2
    exact ⟨⟨k + 1, by omega, by go_num, HN⟩, by simp [intOf]; omega⟩
  ·obtain rfl : k = m := by omega
   have hfr := free_none (l := x.l) (fun j hj => HI.out j (by rw [← HM.out]; exact hj))
   obtain ⟨o, bs, hhd, hg⟩ := HOK.out hfr
   have hA3 := HH.out.still HT.out
   have hol : o < x.l.length := (List.getElem?_eq_some_iff.1 hg).1
   have hlen : 0 < x.ord.length := by
    cases ho : x.ord with
    | nil => rw [ho] at hhd; cases hhd
    | cons a r => simp
   have hod : x.ord.getD 0 0 = o := by
    cases ho : x.ord with
    | nil => rw [ho] at hhd; cases hhd
    | cons a r => rw [ho] at hhd; simpa using hhd
   have hoh : x.ord.headD 0 = o := by
    cases ho : x.ord with
    | nil => rw [ho] at hhd; cases hhd
    | cons a r => rw [ho] at hhd; simpa using hhd
   obtain ⟨cb, rest, hgc, hB, _⟩ := hA3.row.at_ hlen
   have hrow := hA3.row
   rw [hgc] at hrow
   have hcell := hrow.cell hlen
   rw [hod] at hcell
   have c3 := hA3.c3
   have hkey := HR.out.cell (row_cell (l := x.l) (k := o) (by have := HM.out; omega))
   rw [List.getD_eq_getElem?_getD, hg] at hkey
   have hkey' : w3.cell? ⟨N, o, none⟩ = some (.string (strOfNums bs)) := hkey
   have hd := (Touch.refl [] w3).drew
   have d2 := (hA3.still hd).c2
   obtain ⟨w4, hdr, hM4, ht4⟩ := (hA3.still hd).map.drop hg 0
   have HF : Hid (RoomPost w x (.returned (.int .i64 (o : Int))) w4) := by
    have hrn : roomN x.l x.ord = o := by unfold roomN; rw [hfr]; exact hoh
    have hrl : roomL x.l x.ord = x.l.set o none := by unfold roomL; rw [hfr, ← hoh]
    refine ⟨by rw [hrn], ?_, (HT.out.trans hd (by simp)).nil.trans (ht4.mono (S' := x.own) (fun y hy => Or.inl (by simp at hy; rw [hy]; exact x.mem_b))) (fun y hy => Or.inl hy)⟩
    rw [hrl]
    exact (hA3.still hd).mapped _ (by simp) hM4 ht4
   have hoi : (o : Int) < 64 := by have := HM.out; omega
   have hli : (0 : Int) < x.ord.length := by omega
   rw [hgc] at c3
   unfold slV at c3
   simp only [Option.map_some] at c3
   generalize strOfNums bs = A at *
   generalize x.ord.length = ol at *
   clear hfr hhd hg hA3 hol hod hoh hB hrow hgc hM4 ht4 hkey HI HR hd
   go_wp2_with fail
   go_region
   go_wp2
   go_ret
   exact HF.out
end Go.Proofs.Ytmhhahmjkopjhaa
end
section
namespace Go.Proofs.Ytmhhahmjkopjhaa
open Go.RowKit Go.Maps
theorem nodup_below : ∀ (n : Nat) (l : List Nat), l.Nodup → (∀ x ∈ l, x < n) → l.length ≤ n
 | 0, l, _, h => by
  cases l with
  | nil => simp
  | cons a r => have := h a (by simp); omega
 | n + 1, l, hn, h => by
  have h1 := nodup_below n (l.erase n) (hn.erase n) (fun x hx => by
   have h2 := (hn.mem_erase_iff).1 hx
   have := h x h2.2
   have := h2.1
   omega)
  rw [List.length_erase] at h1
  split at h1 <;> omega
def heldAt (l : List (Option (List Int))) (i : Nat) : Prop := ∃ bs, l[i]? = some (some bs)
structure OrdOk (l : List (Option (List Int))) (ord : List Nat) : Prop where
 nodup : ord.Nodup
 mem : ∀ i, i ∈ ord ↔ heldAt l i
theorem heldAt.lt {l : List (Option (List Int))} {i : Nat} (h : heldAt l i) : i < l.length := by
 obtain ⟨bs, h⟩ := h
 exact (List.getElem?_eq_some_iff.1 h).1
theorem OrdOk.len {l : List (Option (List Int))} {ord : List Nat} (h : OrdOk l ord) : ord.length ≤ l.length := nodup_below _ _ h.nodup (fun x hx => ((h.mem x).1 hx).lt)
theorem OrdOk.start (m : Nat) : OrdOk (List.replicate m none) [] := ⟨List.nodup_nil, fun i => ⟨fun hx => (by cases hx), fun ⟨bs, h⟩ => by
 have := List.mem_of_getElem? h
 simp at this⟩⟩
theorem mem_touchL {ord : List Nat} {s i : Nat} : i ∈ touchL ord s ↔ i = s ∨ i ∈ ord := by
 unfold touchL
 simp only [List.mem_append, List.mem_filter, List.mem_singleton, bne_iff_ne, ne_eq]
 constructor
 ·rintro (⟨h, _⟩ | h)
  ·exact Or.inr h
  ·exact Or.inl h
 ·rintro (h | h)
  ·exact Or.inr h
  ·by_cases e : i = s
   ·exact Or.inr e
   ·exact Or.inl ⟨h, e⟩
theorem nodup_touchL {ord : List Nat} (h : ord.Nodup) (s : Nat) : (touchL ord s).Nodup := by
 unfold touchL
 rw [List.nodup_append]
 refine ⟨h.filter _, by simp, fun a ha b hb e => ?_⟩
 simp at hb
 subst hb
 subst e
 simp at ha
theorem OrdOk.touched {l : List (Option (List Int))} {ord : List Nat} (h : OrdOk l ord) {i : Nat} (hi : heldAt l i) : OrdOk l (touchL ord i) :=
 ⟨nodup_touchL h.nodup i, fun j => by
  rw [mem_touchL, h.mem]
  constructor
  ·rintro (rfl | h)
   ·exact hi
   ·exact h
  ·exact Or.inr⟩
theorem OrdOk.laid {l : List (Option (List Int))} {ord : List Nat} (h : OrdOk l ord) {i : Nat} (hi : i < l.length) (bs : List Int) : OrdOk (l.set i (some bs)) (touchL ord i) :=
 ⟨nodup_touchL h.nodup i, fun j => by
  rw [mem_touchL, h.mem]
  by_cases e : i = j
  ·subst e
   exact ⟨fun _ => ⟨bs, List.getElem?_set_self hi⟩, fun _ => Or.inl rfl⟩
  ·unfold heldAt
   rw [List.getElem?_set_ne e]
   exact ⟨fun h1 => h1.resolve_left (fun e2 => e e2.symm), Or.inr⟩⟩
theorem OrdOk.dropped {l : List (Option (List Int))} {ord : List Nat} (h : OrdOk l ord) {i : Nat} (hi : i < l.length) : OrdOk (l.set i none) (ord.filter (fun y => y != i)) :=
 ⟨h.nodup.filter _, fun j => by
  rw [List.mem_filter, h.mem]
  by_cases e : i = j
  ·subst e
   refine ⟨fun h1 => ?_, fun ⟨bs, h1⟩ => ?_⟩
   ·have := h1.2
    simp at this
   ·rw [List.getElem?_set_self hi] at h1
    cases h1
  ·unfold heldAt
   rw [List.getElem?_set_ne e]
   refine ⟨fun h1 => h1.1, fun h1 => ⟨h1, ?_⟩⟩
   simp
   exact fun e2 => e e2.symm⟩
theorem free_full {l : List (Option (List Int))} (h : freeP l = none) {i : Nat} (hi : i < l.length) : heldAt l i := by
 unfold freeP at h
 rw [List.findIdx?_eq_none_iff] at h
 have := h l[i] (List.getElem_mem hi)
 cases hq : l[i] with
 | none => rw [hq] at this; simp at this
 | some bs => exact ⟨bs, by rw [List.getElem?_eq_getElem hi, hq]⟩
theorem OrdOk.old {l : List (Option (List Int))} {ord : List Nat} (h : OrdOk l ord) (h1 : 1 ≤ l.length) (hf : freeP l = none) : ∃ o bs, ord.head? = some o ∧ l[o]? = some (some bs) := by
 have h0 := (h.mem 0).2 (free_full hf (by omega))
 cases ord with
 | nil => cases h0
 | cons o r =>
  obtain ⟨bs, hb⟩ := (h.mem o).1 (by simp)
  exact ⟨o, bs, rfl, hb⟩
theorem roomN_lt {l : List (Option (List Int))} {ord : List Nat} (h : OrdOk l ord) (h1 : 1 ≤ l.length) : roomN l ord < l.length := by
 unfold roomN
 cases hf : freeP l with
 | some f => exact freeP_lt hf
 | none =>
  obtain ⟨o, bs, ho, hb⟩ := h.old h1 hf
  cases ord with
  | nil => cases ho
  | cons a r =>
   simp only [List.head?_cons, Option.some.injEq] at ho
   subst ho
   exact (List.getElem?_eq_some_iff.1 hb).1
theorem roomL_get {l : List (Option (List Int))} {ord : List Nat} (h : OrdOk l ord) (h1 : 1 ≤ l.length) : (roomL l ord)[roomN l ord]? = some none := by
 have hlt := roomN_lt h h1
 unfold roomL roomN at *
 cases hf : freeP l with
 | some f => exact free_get hf
 | none =>
  rw [hf] at hlt
  exact List.getElem?_set_self hlt
theorem roomL_same {l : List (Option (List Int))} {ord : List Nat} {bs : List Int} (hs : sameP l bs = none) : sameP (roomL l ord) bs = none := by
 unfold roomL
 cases hf : freeP l with
 | some f => exact hs
 | none =>
  unfold sameP at *
  rw [List.findIdx?_eq_none_iff] at *
  intro s hx
  rcases List.mem_or_eq_of_mem_set hx with hx | hx
  ·exact hs s hx
  ·subst hx
   rfl
theorem roomL_set {l : List (Option (List Int))} {ord : List Nat} (bs : List Int) : (roomL l ord).set (roomN l ord) (some bs) = l.set (roomN l ord) (some bs) := by
 unfold roomL roomN
 cases hf : freeP l with
 | some f => rfl
 | none => simp
end Go.Proofs.Ytmhhahmjkopjhaa
end
section
namespace Go.Proofs.Ytmhhahmjkopjhaa
open Go.RowKit Go.Maps
def LStep (w : World) (x : LX) (l : List (Option (List Int))) (ord : List Nat) (w' : World) : Prop := ∃ g cap, LAt w' { x with l := l, g := g, cap := cap, ord := ord } ∧ Touch x.own w w' ∧ ∀ b, g = some b → b ∈ x.own ∨ w.heap.size ≤ b
theorem LStep.same {w w' : World} {x : LX} (h : LAt w' x) (ht : Touch [] w w') : LStep w x x.l x.ord w' := ⟨x.g, x.cap, h, ht.nil, fun _b hb => Or.inl (LX.mem_g hb)⟩
theorem own_sub {x : LX} {y : Nat} (hy : y ∈ x.X :: x.g.toList) : y ∈ x.own := by
 simp only [List.mem_cons, LX.own] at *
 rcases hy with hy | hy
 ·exact Or.inl hy
 ·exact Or.inr (Or.inr hy)
theorem LStep.of_touch {w w1 w' : World} {x : LX} {l : List (Option (List Int))} {ord : List Nat} {e : Ending} (h : LTouchPost w1 { x with l := l } ord e w') (ht : Touch x.own w w1) : LStep w x l ord w' := by
 obtain ⟨_, g, cap, hA, ht2, hg⟩ := h
 refine ⟨g, cap, hA, ht.trans (ht2.mono (S' := x.own) (fun y hy => Or.inl (own_sub hy))) (fun y hy => Or.inl hy), fun b hb => ?_⟩
 rcases hg b hb with h1 | h1
 ·exact Or.inl (own_sub (List.mem_cons_of_mem _ h1))
 ·exact Or.inr (Nat.le_trans ht.size h1)
def LX.find (x : LX) (bs : List Int) : Option Nat × List Nat :=
 if bs.length = x.size then match sameP x.l bs with
  | some i => (some i, touchL x.ord i)
  | none => (none, x.ord)
 else (none, x.ord)
def LFindPost (w : World) (x : LX) (a : Option Nat × List Nat) (e : Ending) (w' : World) : Prop := e = .returned (foundV a.1) ∧ LStep w x x.l a.2 w'
theorem lfind_any {w : World} {x : LX} (h : LAt w x) (ho : OrdOk x.l x.ord) {sa : Option Addr} {sl : Nat} {bs : List Int} (hk : KeyAt w sa sl bs) (sc : Nat) :
  Calls Try.prog 81 #[.pointer (some ⟨x.X, 0, none⟩), .slice sa sl sc] w (LFindPost w x (x.find bs)) := by
 have hl := hk.1
 have hb := hk.2.2.1
 have c0 := h.c0
 unfold LX.find
 by_cases h4 : bs.length = x.size
 ·have hd := (Touch.refl [] w).drew
  have hA := h.still hd
  have d2 := hA.c2
  have hcv := (hk.touch hd).conv sc
  have hlk := hA.map.look hk.2.1 h4
  rw [if_pos h4]
  obtain rfl : sl = x.size := by omega
  cases hsm : sameP x.l bs with
  | none =>
   have HF : Hid (LFindPost w x (none, x.ord) (.returned (.tuple #[.int .i64 0, .bool false])) w.drew) := ⟨rfl, LStep.same hA hd⟩
   rw [hsm] at hlk
   unfold foundV idx0 Option.isSome at hlk
   generalize strOfNums bs = A at *
   clear h hk hl hb h4 hsm hA hd ho
   go_enter Try.func81, Try.ntmps81
   go_wp2_with fail
   go_region
   go_wp2
   go_ret2
   exact HF.out
  | some i =>
   have hok := ho.touched (i := i) ⟨bs, same_get hsm⟩
   have H1 := toHid (ltouch_any hA i (Nat.le_trans hok.len h.map.many))
   have HT := toHid hd
   rw [hsm] at hlk
   unfold foundV idx0 Option.isSome at hlk
   generalize strOfNums bs = A at *
   clear h hk hl hb h4 hsm hA hd ho hok
   go_enter Try.func81, Try.ntmps81
   go_wp2_with fail
   go_region
   go_wp2_with fail
   refine Calls.mono H1.out ?_
   intro e w3 hp
   have HF : Hid (LFindPost w x (some i, touchL x.ord i) (.returned (.tuple #[.int .i64 i, .bool true])) w3) := ⟨rfl, LStep.of_touch (x := x) (l := x.l) hp HT.out.nil⟩
   have he := hp.1
   subst he
   clear hp H1
   go_wp2
   go_ret2
   exact HF.out
 ·have hs : ((sl : Int) != x.size) = true := by simp; omega
  have HF : Hid (LFindPost w x (none, x.ord) (.returned (.tuple #[.int .i64 0, .bool false])) w) := ⟨rfl, LStep.same h (Touch.refl _ _)⟩
  rw [if_neg h4]
  clear h hk hl h4
  go_enter Try.func81, Try.ntmps81
  go_wp2
  go_ret2
  exact HF.out
def LX.put (x : LX) (bs : List Int) (fl : Int) : (Int × Bool × Int) × List (Option (List Int)) × List Nat :=
 if bs.length = x.size then
  if 2 < fl then ((0, false, 72), x.l, x.ord)
  else match sameP x.l bs with
   | some i => if fl = 1 then ((0, false, 70), x.l, x.ord) else (((i : Int), false, 0), x.l, touchL x.ord i)
   | none => if fl = 2 then ((0, false, 14), x.l, x.ord) else (((roomN x.l x.ord : Int), true, 0), x.l.set (roomN x.l x.ord) (some bs), touchL x.ord (roomN x.l x.ord))
 else ((0, false, 2), x.l, x.ord)
def LPutPost (w : World) (x : LX) (a : (Int × Bool × Int) × List (Option (List Int)) × List Nat) (e : Ending) (w' : World) : Prop :=
 e = .returned (.tuple #[.int .i64 a.1.1, .bool a.1.2.1, .int .i64 a.1.2.2]) ∧ LStep w x a.2.1 a.2.2 w'
theorem lput_any {w : World} {x : LX} (h : LAt w x) (ho : OrdOk x.l x.ord) {sa : Option Addr} {sl : Nat} {bs : List Int} (hkk : ∀ w', Touch x.own w w' → KeyAt w' sa sl bs) (sc : Nat) (fl : Int) (_f0 : 0 ≤ fl) :
  Calls Try.prog 83 #[.pointer (some ⟨x.X, 0, none⟩), .slice sa sl sc, .int .u64 fl] w (LPutPost w x (x.put bs fl)) := by
 have HKK := toHid hkk
 have hk := hkk w (Touch.refl _ _)
 clear hkk
 have hl := hk.1
 have hb := hk.2.2.1
 have c0 := h.c0
 unfold LX.put
 by_cases h4 : bs.length = x.size
 ·rw [if_pos h4]
  obtain rfl : sl = x.size := by omega
  by_cases hf : 2 < fl
  ·rw [if_pos hf]
   have HF : Hid (LPutPost w x ((0, false, 72), x.l, x.ord) (.returned (.tuple #[.int .i64 0, .bool false, .int .i64 72])) w) := ⟨rfl, LStep.same h (Touch.refl _ _)⟩
   clear h hk hl hb h4 ho
   go_enter Try.func83, Try.ntmps83
   go_wp2
   go_ret3
   exact HF.out
  ·rw [if_neg hf]
   have hd := (Touch.refl [] w).drew
   have hA := h.still hd
   have d2 := hA.c2
   have hcv := (hk.touch hd).conv sc
   have hlk := hA.map.look hk.2.1 h4
   cases hsm : sameP x.l bs with
   | none =>
    rw [hsm] at hlk
    unfold foundV idx0 Option.isSome at hlk
    by_cases h2 : fl = 2
    ·subst h2
     rw [if_pos rfl]
     have HF : Hid (LPutPost w x ((0, false, 14), x.l, x.ord) (.returned (.tuple #[.int .i64 0, .bool false, .int .i64 14])) w.drew) := ⟨rfl, LStep.same hA hd⟩
     generalize strOfNums bs = A at *
     clear h hk hl hb h4 hsm hA hd ho
     go_enter Try.func83, Try.ntmps83
     go_wp2_with fail
     go_region
     go_wp2
     go_ret3
     exact HF.out
    ·rw [if_neg h2]
     have h2' : (fl == 2) = false := by simpa using h2
     have H1 := toHid (room_any hA (fun hfr => ho.old h.m1 hfr))
     have hok := ho.laid (roomN_lt ho h.m1) bs
     have HH := toHid (And.intro h (And.intro ho (And.intro hk (And.intro hsm (And.intro h4 (And.intro hd hok))))))
     clear h hk hl hb h4 hsm hA ho hok
     generalize hSS : strOfNums bs = A at *
     have HSS := toHid hSS
     clear hSS hd
     go_enter Try.func83, Try.ntmps83
     go_wp2_with fail
     go_region
     go_wp2_with fail
     refine Calls.mono H1.out ?_
     rintro e w3 ⟨rfl, hA3, ht3⟩
     obtain ⟨h, ho, hk, hsm, h4, hd, hok⟩ := HH.out
     have htw : Touch x.own w w3 := hd.nil.trans ht3 (fun y hy => Or.inl hy)
     have hd3 := (Touch.refl [] w3).drew
     have hA4 := hA3.still hd3
     have e2 := hA4.c2
     have hcv3 := (HKK.out _ (htw.trans hd3 (by simp))).conv sc
     rw [HSS.out] at hcv3
     obtain ⟨w4, hst, hM4, ht4⟩ := hA4.map.store hk.2.1 h4 (roomL_get ho h.m1) (roomL_same hsm)
     rw [HSS.out] at hst
     have hA5 := hA4.mapped _ (by simp) hM4 ht4
     have hlw : ({ { x with l := roomL x.l x.ord } with l := (roomL x.l x.ord).set (roomN x.l x.ord) (some bs) } : LX) = { x with l := x.l.set (roomN x.l x.ord) (some bs) } := by rw [← roomL_set]
     have hA6 : LAt w4 { x with l := x.l.set (roomN x.l x.ord) (some bs) } := by
      rw [← hlw]
      exact hA5
     have htw4 : Touch x.own w w4 := (htw.trans hd3 (by simp)).trans (ht4.mono (S' := x.own) (fun y hy => Or.inl (by simp at hy; rw [hy]; exact x.mem_b))) (fun y hy => Or.inl hy)
     have H5 := toHid (ltouch_any hA6 (roomN x.l x.ord) (Nat.le_trans hok.len hA6.map.many))
     have HT4 := toHid htw4
     generalize hrn : roomN x.l x.ord = r at *
     have HRN := toHid hrn
     clear h ho hk hsm h4 hd hok htw hd3 hA4 hM4 ht4 hA5 hlw hA6 htw4 hA3 ht3 H1 hrn d2 hcv hlk
     simp only at e2
     go_wp2_with fail
     go_region
     go_wp2_with fail
     refine Calls.mono H5.out ?_
     intro e w5 hp
     have HF : Hid (LPutPost w x ((((r : Nat) : Int), true, 0), x.l.set r (some bs), touchL x.ord r) (.returned (.tuple #[.int .i64 r, .bool true, .int .i64 0])) w5) := ⟨rfl, LStep.of_touch (x := x) (l := x.l.set r (some bs)) hp HT4.out⟩
     have he := hp.1
     subst he
     clear hp H5
     go_wp2
     go_ret3
     exact HF.out
   | some i =>
    dsimp only
    rw [hsm] at hlk
    unfold foundV idx0 Option.isSome at hlk
    by_cases h1 : fl = 1
    ·subst h1
     rw [if_pos rfl]
     have HF : Hid (LPutPost w x ((0, false, 70), x.l, x.ord) (.returned (.tuple #[.int .i64 0, .bool false, .int .i64 70])) w.drew) := ⟨rfl, LStep.same hA hd⟩
     generalize strOfNums bs = A at *
     clear h hk hl hb h4 hsm hA hd ho
     go_enter Try.func83, Try.ntmps83
     go_wp2_with fail
     go_region
     go_wp2
     go_ret3
     exact HF.out
    ·rw [if_neg h1]
     have h1' : (fl == 1) = false := by simpa using h1
     have hok := ho.touched (i := i) ⟨bs, same_get hsm⟩
     have H1 := toHid (ltouch_any hA i (Nat.le_trans hok.len h.map.many))
     have HT := toHid hd
     generalize strOfNums bs = A at *
     clear h hk hl hb h4 hsm hA hd ho hok
     go_enter Try.func83, Try.ntmps83
     go_wp2_with fail
     go_region
     go_wp2_with fail
     refine Calls.mono H1.out ?_
     intro e w3 hp
     have HF : Hid (LPutPost w x (((i : Int), false, 0), x.l, touchL x.ord i) (.returned (.tuple #[.int .i64 i, .bool false, .int .i64 0])) w3) := ⟨rfl, LStep.of_touch (x := x) (l := x.l) hp HT.out.nil⟩
     have he := hp.1
     subst he
     clear hp H1
     go_wp2
     go_ret3
     exact HF.out
 ·have hs : ((sl : Int) != x.size) = true := by simp; omega
  rw [if_neg h4]
  have HF : Hid (LPutPost w x ((0, false, 2), x.l, x.ord) (.returned (.tuple #[.int .i64 0, .bool false, .int .i64 2])) w) := ⟨rfl, LStep.same h (Touch.refl _ _)⟩
  clear h hk hl h4 ho
  go_enter Try.func83, Try.ntmps83
  go_wp2
  go_ret3
  exact HF.out
end Go.Proofs.Ytmhhahmjkopjhaa
end
section
namespace Go.Proofs.Ytmhhahmjkopjhaa
open Go.RowKit Go.Maps
def LX.del (x : LX) (bs : List Int) : (Int × Int) × List (Option (List Int)) × List Nat :=
 if bs.length = x.size then match sameP x.l bs with
  | some i => (((i : Int), 0), x.l.set i none, x.ord.filter (fun y => y != i))
  | none => ((0, 14), x.l, x.ord)
 else ((0, 2), x.l, x.ord)
def LDelPost (w : World) (x : LX) (a : (Int × Int) × List (Option (List Int)) × List Nat) (e : Ending) (w' : World) : Prop :=
 e = .returned (.tuple #[.int .i64 a.1.1, .int .i64 a.1.2]) ∧ LStep w x a.2.1 a.2.2 w'
theorem ldel_any {w : World} {x : LX} (h : LAt w x) {sa : Option Addr} {sl : Nat} {bs : List Int} (hk : KeyAt w sa sl bs) (sc : Nat) :
  Calls Try.prog 80 #[.pointer (some ⟨x.X, 0, none⟩), .slice sa sl sc] w (LDelPost w x (x.del bs)) := by
 have hl := hk.1
 have hb := hk.2.2.1
 have c0 := h.c0
 unfold LX.del
 by_cases h4 : bs.length = x.size
 ·rw [if_pos h4]
  obtain rfl : sl = x.size := by omega
  have hd := (Touch.refl [] w).drew
  have hA := h.still hd
  have d2 := hA.c2
  have hcv := (hk.touch hd).conv sc
  have hlk := hA.map.look hk.2.1 h4
  cases hsm : sameP x.l bs with
  | none =>
   rw [hsm] at hlk
   unfold foundV idx0 Option.isSome at hlk
   have HF : Hid (LDelPost w x ((0, 14), x.l, x.ord) (.returned (.tuple #[.int .i64 0, .int .i64 14])) w.drew) := ⟨rfl, LStep.same hA hd⟩
   generalize strOfNums bs = A at *
   clear h hk hl hb h4 hsm hA hd
   go_enter Try.func80, Try.ntmps80
   go_wp2_with fail
   go_region
   go_wp2
   go_ret2
   exact HF.out
  | some i =>
   rw [hsm] at hlk
   unfold foundV idx0 Option.isSome at hlk
   have hd2 := hd.drew
   have hA2 := h.still hd2
   have e2 := hA2.c2
   have hcv2 := (hk.touch hd2).conv sc
   obtain ⟨w3, hdr, hM, ht3⟩ := hA2.map.drop (same_get hsm) 0
   have hA3 := hA2.mapped _ (by simp) hM ht3
   have htw : Touch x.own w w3 := hd2.nil.trans (ht3.mono (S' := x.own) (fun y hy => Or.inl (by simp at hy; rw [hy]; exact x.mem_b))) (fun y hy => Or.inl hy)
   have H1 := toHid (take_any hA3 i)
   have HT := toHid htw
   generalize strOfNums bs = A at *
   clear h hk hl hb h4 hsm hA hd hM ht3 hA2 hd2 hA3 htw
   go_enter Try.func80, Try.ntmps80
   go_wp2_with fail
   go_region
   go_wp2_with fail
   clear hcv hlk d2
   go_region
   go_wp2_with fail
   refine Calls.mono H1.out ?_
   rintro e w4 ⟨rfl, hA4, ht4⟩
   have HF : Hid (LDelPost w x (((i : Int), 0), x.l.set i none, x.ord.filter (fun y => y != i)) (.returned (.tuple #[.int .i64 i, .int .i64 0])) w4) :=
    ⟨rfl, x.g, x.cap, hA4, HT.out.trans (ht4.mono (S' := x.own) (fun y hy => Or.inl (own_sub hy))) (fun y hy => Or.inl hy), fun b hb => Or.inl (LX.mem_g hb)⟩
   clear hA4 ht4 H1
   go_wp2
   go_ret2
   exact HF.out
 ·have hs : ((sl : Int) != x.size) = true := by simp; omega
  rw [if_neg h4]
  have HF : Hid (LDelPost w x ((0, 2), x.l, x.ord) (.returned (.tuple #[.int .i64 0, .int .i64 2])) w) := ⟨rfl, LStep.same h (Touch.refl _ _)⟩
  clear h hk hl h4
  go_enter Try.func80, Try.ntmps80
  go_wp2
  go_ret2
  exact HF.out
def LNewPost (w : World) (size m : Nat) (e : Ending) (w' : World) : Prop := ∃ X b, e = .returned (.tuple #[.pointer (some ⟨X, 0, none⟩), .int .i64 0]) ∧ LAt w' ⟨X, b, size, List.replicate m none, none, 0, []⟩ ∧ w.heap.size ≤ X ∧ w.heap.size ≤ b ∧ Touch [] w w'
theorem lnew_any (w : World) (size m : Nat) (s1 : 1 ≤ size) (s2 : size ≤ 16) (h1 : 1 ≤ m) (h2 : m ≤ 64) : Calls Try.prog 24 #[.int .i64 (size : Int), .int .i64 (m : Int)] w (LNewPost w size m) := by
 have hmm := @run_makeMap Try.prog
 have b1 := HM.made w s1 s2 h2
 have b2 := Blk.newA (w.alloc (.map #[] 0)) #[.int .i64 (size : Int), .int .i64 (m : Int), .map (some w.heap.size), .slice none 0 0] _ 102 rfl
 have HF : Hid (LNewPost w size m (.returned (.tuple #[.pointer (some ⟨w.heap.size + 1, 0, none⟩), .int .i64 0])) ((w.alloc (.map #[] 0)).alloc (.cells #[.int .i64 (size : Int), .int .i64 (m : Int), .map (some w.heap.size), .slice none 0 0] 102))) := by
  refine ⟨_, w.heap.size, rfl, ⟨?_, b1.touch ((Touch.refl [] _).alloc _) (by simp), ⟨rfl, Nat.le_refl _, (Nat.zero_le _ : 0 ≤ maxLen), rfl⟩, by simpa using h1, by simp, by simp [LX.own]⟩, by omega, by omega, ((Touch.refl [] w).alloc _).alloc _⟩
  rw [World.size_alloc] at b2
  simpa [slV] using b2
 clear b1 b2
 go_enter Try.func24, Try.ntmps24
 go_wp2
 go_ret2
 exact HF.out
theorem lnew_bad (w : World) (size m : Int) (h1 : ¬ (1 ≤ m ∧ m ≤ 64 ∧ 1 ≤ size ∧ size ≤ 16)) : Calls Try.prog 24 #[.int .i64 size, .int .i64 m] w fun e w' => e = .returned (.tuple #[.pointer none, .int .i64 2]) ∧ w' = w := by
 by_cases a3 : size < 1
 ·clear h1
  go_enter Try.func24, Try.ntmps24
  go_wp2
  go_ret2
  exact ⟨rfl, rfl⟩
 ·by_cases a4 : 16 < size
  ·clear h1
   go_enter Try.func24, Try.ntmps24
   go_wp2
   go_ret2
   exact ⟨rfl, rfl⟩
  ·by_cases a1 : m < 1
   ·clear h1
    go_enter Try.func24, Try.ntmps24
    go_wp2
    go_ret2
    exact ⟨rfl, rfl⟩
   ·have a2 : 64 < m := by omega
    clear h1
    go_enter Try.func24, Try.ntmps24
    go_wp2
    go_ret2
    exact ⟨rfl, rfl⟩
end Go.Proofs.Ytmhhahmjkopjhaa
end
section
namespace Go.Proofs.Ytmhhahmjkopjhaa
open Go.RowKit Go.Maps
attribute [local go_sem ↓] Go.wp_at_zero Go.wp_at_succ
end Go.Proofs.Ytmhhahmjkopjhaa
end
section
namespace Go.Proofs.Ytmhhahmjkopjhaa
open Go.RowKit Go.Maps
structure LOwn (w0 w : World) (x : LX) : Prop where
 idx : LAt w x
 ok : OrdOk x.l x.ord
 own : ∀ y ∈ x.own, w0.heap.size ≤ y
 touch : Touch [] w0 w
end Go.Proofs.Ytmhhahmjkopjhaa
end
section
namespace Go.Proofs.Ytmhhahmjkopjhaa
open Go.RowKit Go.Maps
theorem getD_set (ws : List Int) (i j : Nat) (v : Int) : (ws.set i v).getD j 0 = if i = j ∧ i < ws.length then v else ws.getD j 0 := by
 simp only [List.getD_eq_getElem?_getD, List.getElem?_set]
 by_cases e : i = j
 ·subst e
  by_cases h : i < ws.length
  ·simp [h]
  ·simp [h]
 ·simp [e]
structure Tied (l : List (Option (List Int))) (ord : List Nat) (q : PX) : Prop where
 kind : q.kind = 2
 slots : q.slots = l
 lens : q.whens.length = l.length
 past : ∀ i, q.whens.getD i 0 ≤ q.clock
 asc : ord.Pairwise (fun a b => q.whens.getD a 0 < q.whens.getD b 0)
 ok : OrdOk l ord
theorem asc_touch {ws : List Int} {c : Int} {ord : List Nat} (h : ord.Pairwise (fun a b => ws.getD a 0 < ws.getD b 0)) (hp : ∀ i, ws.getD i 0 ≤ c) {i : Nat} (hi : i < ws.length) :
  (touchL ord i).Pairwise (fun a b => (ws.set i (c + 1)).getD a 0 < (ws.set i (c + 1)).getD b 0) := by
 unfold touchL
 rw [List.pairwise_append]
 refine ⟨?_, by simp, fun a ha b hb => ?_⟩
 ·refine (h.filter _).imp_of_mem fun {a b} ha hb hab => ?_
  have h1 : a ≠ i := by simpa using (List.mem_filter.1 ha).2
  have h2 : b ≠ i := by simpa using (List.mem_filter.1 hb).2
  rw [getD_set, getD_set, if_neg (fun e => h1 e.1.symm), if_neg (fun e => h2 e.1.symm)]
  exact hab
 ·simp only [List.mem_singleton] at hb
  subst hb
  have h1 : a ≠ b := by simpa using (List.mem_filter.1 ha).2
  rw [getD_set, getD_set, if_neg (fun e => h1 e.1.symm), if_pos ⟨rfl, hi⟩]
  have := hp a
  omega
theorem past_touch {ws : List Int} {c : Int} (hp : ∀ i, ws.getD i 0 ≤ c) (i : Nat) : ∀ j, (ws.set i (c + 1)).getD j 0 ≤ c + 1 := fun j => by
 rw [getD_set]
 split
 ·omega
 ·have := hp j
  omega
theorem Tied.touched {l : List (Option (List Int))} {ord : List Nat} {q : PX} (h : Tied l ord q) {i : Nat} (hi : heldAt l i) : Tied l (touchL ord i) (q.touch (some i)) :=
 ⟨h.kind, h.slots, by show (q.whens.set i (q.clock + 1)).length = _; rw [List.length_set]; exact h.lens, past_touch h.past i, asc_touch h.asc h.past (by rw [h.lens]; exact hi.lt), h.ok.touched hi⟩
theorem Tied.missed {l : List (Option (List Int))} {ord : List Nat} {q : PX} (h : Tied l ord q) : Tied l ord (q.touch none) :=
 ⟨h.kind, h.slots, h.lens, fun i => by have := h.past i; show q.whens.getD i 0 ≤ q.clock + 1; omega, h.asc, h.ok⟩
theorem Tied.laid {l : List (Option (List Int))} {ord : List Nat} {q : PX} (h : Tied l ord q) {i : Nat} (hi : i < l.length) (bs : List Int) : Tied (l.set i (some bs)) (touchL ord i) (q.laid i bs) :=
 ⟨h.kind, by show q.slots.set i (some bs) = _; rw [h.slots], by show (q.whens.set i (q.clock + 1)).length = _; rw [List.length_set, List.length_set]; exact h.lens, past_touch h.past i, asc_touch h.asc h.past (by rw [h.lens]; exact hi), h.ok.laid hi bs⟩
theorem Tied.dropped {l : List (Option (List Int))} {ord : List Nat} {q : PX} (h : Tied l ord q) {i : Nat} (hi : i < l.length) : Tied (l.set i none) (ord.filter (fun y => y != i)) { q with slots := q.slots.set i none } :=
 ⟨h.kind, by show q.slots.set i none = _; rw [h.slots], by rw [List.length_set]; exact h.lens, h.past, h.asc.filter _, h.ok.dropped hi⟩
theorem oldFrom_spec (ws : List Int) : ∀ (n a : Nat), n ≤ ws.length → (oldFrom ws n a = a ∨ oldFrom ws n a < ws.length) ∧ ws.getD (oldFrom ws n a) 0 ≤ ws.getD a 0 ∧ ∀ j, ws.length - n ≤ j → j < ws.length → ws.getD (oldFrom ws n a) 0 ≤ ws.getD j 0
 | 0, a, _ => ⟨Or.inl rfl, Int.le_refl _, fun j h1 h2 => absurd h1 (by omega)⟩
 | n + 1, a, hn => by
  rw [oldFrom_succ]
  have ih := oldFrom_spec ws n (if ws.getD (ws.length - (n + 1)) 0 < ws.getD a 0 then ws.length - (n + 1) else a) (by omega)
  generalize oldFrom ws n _ = r at ih ⊢
  obtain ⟨h1, h2, h3⟩ := ih
  by_cases e : ws.getD (ws.length - (n + 1)) 0 < ws.getD a 0
  ·rw [if_pos e] at h1 h2
   refine ⟨Or.inr (by omega), by omega, fun j hj1 hj2 => ?_⟩
   by_cases ej : j = ws.length - (n + 1)
   ·subst ej
    exact h2
   ·exact h3 j (by omega) hj2
  ·rw [if_neg e] at h1 h2
   refine ⟨h1, h2, fun j hj1 hj2 => ?_⟩
   by_cases ej : j = ws.length - (n + 1)
   ·subst ej
    omega
   ·exact h3 j (by omega) hj2
theorem Tied.old {l : List (Option (List Int))} {ord : List Nat} {q : PX} (h : Tied l ord q) (h1 : 1 ≤ l.length) (hf : freeP l = none) : oldP q.whens = ord.headD 0 := by
 obtain ⟨e1, e2, e3⟩ := oldFrom_spec q.whens q.whens.length 0 (Nat.le_refl _)
 have hlt : oldP q.whens < l.length := by
  have hl := h.lens
  unfold oldP
  rcases e1 with e1 | e1 <;> omega
 have hm := (h.ok.mem _).2 (free_full hf hlt)
 obtain ⟨o, bs, ho, hb⟩ := h.ok.old h1 hf
 cases hord : ord with
 | nil => rw [hord] at ho; cases ho
 | cons a r =>
  show _ = a
  rw [hord] at hm
  rcases List.mem_cons.1 hm with hm | hm
  ·exact hm
  ·exfalso
   have hasc := h.asc
   rw [hord, List.pairwise_cons] at hasc
   have h2 := hasc.1 _ hm
   have hal : a < q.whens.length := by
    rw [h.lens]
    exact ((h.ok.mem a).1 (by rw [hord]; simp)).lt
   have h3 := e3 a (by omega) hal
   unfold oldP at h2
   omega
theorem Tied.room {l : List (Option (List Int))} {ord : List Nat} {q : PX} (h : Tied l ord q) (h1 : 1 ≤ l.length) : q.room = some (roomN l ord) := by
 unfold PX.room roomN
 rw [h.slots]
 cases hf : freeP l with
 | some f => rfl
 | none =>
  simp only
  rw [if_pos h.kind, h.old h1 hf]
theorem Tied.find {x : LX} {q : PX} (h : Tied x.l x.ord q) (hs : q.size = x.size) (bs : List Int) : (q.find bs).1 = (x.find bs).1 ∧ Tied x.l (x.find bs).2 (q.find bs).2 ∧ (q.find bs).2.size = q.size ∧ q.clock ≤ (q.find bs).2.clock ∧ (q.find bs).2.clock ≤ q.clock + 1 := by
 unfold PX.find LX.find
 by_cases e : bs.length = x.size
 ·rw [if_pos e, if_pos (by rw [hs, e]), h.slots]
  cases hsm : sameP x.l bs with
  | none => exact ⟨rfl, h.missed, rfl, by show q.clock ≤ q.clock + 1; omega, by show q.clock + 1 ≤ q.clock + 1; omega⟩
  | some i => exact ⟨rfl, h.touched ⟨bs, same_get hsm⟩, rfl, by show q.clock ≤ q.clock + 1; omega, by show q.clock + 1 ≤ q.clock + 1; omega⟩
 ·rw [if_neg e, if_neg (by rw [hs]; omega)]
  exact ⟨rfl, h, rfl, Int.le_refl _, by show q.clock ≤ q.clock + 1; omega⟩
theorem Tied.put {x : LX} {q : PX} (h : Tied x.l x.ord q) (hs : q.size = x.size) (h1 : 1 ≤ x.l.length) (bs : List Int) (fl : Int) : (q.put bs fl).1 = (x.put bs fl).1 ∧ Tied (x.put bs fl).2.1 (x.put bs fl).2.2 (q.put bs fl).2 ∧ (q.put bs fl).2.size = q.size ∧ q.clock ≤ (q.put bs fl).2.clock ∧ (q.put bs fl).2.clock ≤ q.clock + 1 := by
 unfold PX.put LX.put
 have hst : Tied x.l x.ord q ∧ q.size = q.size ∧ q.clock ≤ q.clock ∧ q.clock ≤ q.clock + 1 := ⟨h, rfl, Int.le_refl _, by omega⟩
 by_cases e : bs.length = x.size
 ·rw [if_pos e, if_pos (by rw [hs, e])]
  by_cases h2 : 2 < fl
  ·rw [if_pos h2, if_pos h2]
   exact ⟨rfl, hst⟩
  ·rw [if_neg h2, if_neg h2, h.slots]
   cases hsm : sameP x.l bs with
   | some i =>
    by_cases h1 : fl = 1
    ·simp only [if_pos h1]
     exact ⟨by trivial, h, by trivial, Int.le_refl _, by omega⟩
    ·simp only [if_neg h1]
     exact ⟨by trivial, h.touched ⟨bs, same_get hsm⟩, rfl, by show q.clock ≤ q.clock + 1; omega, by show q.clock + 1 ≤ q.clock + 1; omega⟩
   | none =>
    have hk0 : ¬ q.kind = 0 := by rw [h.kind]; decide
    simp only [if_neg hk0]
    by_cases h3 : fl = 2
    ·simp only [if_pos h3]
     exact ⟨by trivial, h, by trivial, Int.le_refl _, by omega⟩
    ·simp only [if_neg h3]
     rw [h.room h1]
     exact ⟨rfl, h.laid (roomN_lt h.ok h1) bs, rfl, by show q.clock ≤ q.clock + 1; omega, by show q.clock + 1 ≤ q.clock + 1; omega⟩
 ·rw [if_neg e, if_neg (by rw [hs]; omega)]
  exact ⟨rfl, hst⟩
theorem Tied.del {x : LX} {q : PX} (h : Tied x.l x.ord q) (hs : q.size = x.size) (bs : List Int) : (q.del bs).1 = (x.del bs).1 ∧ Tied (x.del bs).2.1 (x.del bs).2.2 (q.del bs).2 ∧ (q.del bs).2.size = q.size ∧ q.clock ≤ (q.del bs).2.clock ∧ (q.del bs).2.clock ≤ q.clock + 1 := by
 unfold PX.del LX.del
 have hst : Tied x.l x.ord q ∧ q.size = q.size ∧ q.clock ≤ q.clock ∧ q.clock ≤ q.clock + 1 := ⟨h, rfl, Int.le_refl _, by omega⟩
 rw [if_neg (show ¬ q.kind = 0 by rw [h.kind]; decide)]
 by_cases e : bs.length = x.size
 ·rw [if_pos e, if_pos (by rw [hs, e]), h.slots]
  cases hsm : sameP x.l bs with
  | none => exact ⟨by trivial, hst⟩
  | some i =>
   have := h.dropped (sameP_lt hsm)
   rw [h.slots] at this
   exact ⟨rfl, this, rfl, Int.le_refl _, by show q.clock ≤ q.clock + 1; omega⟩
 ·rw [if_neg e, if_neg (by rw [hs]; omega)]
  exact ⟨by trivial, hst⟩
end Go.Proofs.Ytmhhahmjkopjhaa
end
section
namespace Go.Proofs.Ytmhhahmjkopjhaa
open Go.RowKit Go.Maps
def ClonePost (w : World) (l : List Nat) (e : Ending) (w' : World) : Prop := ∃ g cap, e = .returned (slV g l.length cap) ∧ OrdAt w' g cap l ∧ Touch [] w w' ∧ ∀ b, g = some b → w.heap.size ≤ b
end Go.Proofs.Ytmhhahmjkopjhaa
end
section
namespace Go.Proofs.Ytmhhahmjkopjhaa
open Go.RowKit Go.Maps
def LCopyPost (w : World) (x : LX) (e : Ending) (w' : World) : Prop := ∃ C cb, e = .returned (.pointer (some ⟨C, 0, none⟩)) ∧ ∃ g cap, LAt w' ⟨C, cb, x.size, x.l, g, cap, x.ord⟩ ∧ (∀ y ∈ (⟨C, cb, x.size, x.l, g, cap, x.ord⟩ : LX).own, w.heap.size ≤ y) ∧ Touch [] w w'
end Go.Proofs.Ytmhhahmjkopjhaa
end
section
namespace Go.Proofs.Ytmhhahmjkopjhaa.Lpm
open Go.RowKit
def bI (b : Bool) : Int := if b = true then 1 else 0
theorem bI_bd (b : Bool) : 0 ≤ bI b ∧ bI b ≤ 1 := by cases b <;> simp [bI]
theorem bI_of {x : Int} (h : 0 ≤ x ∧ x ≤ 1) : bI (decide (x = 1)) = x := by
 by_cases e : x = 1
 ·rw [e]; rfl
 ·obtain rfl : x = 0 := by omega
  rfl
def accB (f : Nat → Bool) : Nat → Int
 | 0 => 0
 | k + 1 => accB f k * 2 + bI (f k)
theorem accB_bd (f : Nat → Bool) : ∀ n, 0 ≤ accB f n ∧ accB f n < 2 ^ n
 | 0 => by simp [accB]
 | n + 1 => by
  have h1 := accB_bd f n
  have h2 := bI_bd (f n)
  unfold accB
  rw [Int.pow_succ]
  omega
theorem accB_div (f : Nat → Bool) (m : Nat) : ∀ d, accB f (m + d) / 2 ^ d = accB f m
 | 0 => by simp
 | d + 1 => by
  rw [← Nat.add_assoc, Int.pow_succ, Int.mul_comm, ← Int.ediv_ediv_of_nonneg (by omega)]
  have : accB f (m + d + 1) / 2 = accB f (m + d) := by
   show (accB f (m + d) * 2 + bI (f (m + d))) / 2 = _
   have := bI_bd (f (m + d))
   omega
  rw [this]
  exact accB_div f m d
theorem accB_bit (f : Nat → Bool) {m n : Nat} (h : m < n) : accB f n / 2 ^ (n - 1 - m) % 2 = bI (f m) := by
 have h1 := accB_div f (m + 1) (n - 1 - m)
 rw [show m + 1 + (n - 1 - m) = n by omega] at h1
 rw [h1]
 show (accB f m * 2 + bI (f m)) % 2 = _
 have := bI_bd (f m)
 omega
def byteB (p : List Bool) (i : Nat) : Int := accB (fun k => p.getD (8 * i + k) false) 8
theorem byteB_bd (p : List Bool) (i : Nat) : 0 ≤ byteB p i ∧ byteB p i ≤ 255 := by
 have := accB_bd (fun k => p.getD (8 * i + k) false) 8
 unfold byteB
 omega
def bytesP (p : List Bool) (n : Nat) : List Int := (List.range n).map (byteB p)
theorem bytesP_len (p : List Bool) (n : Nat) : (bytesP p n).length = n := by simp [bytesP]
theorem bytesP_get (p : List Bool) {n i : Nat} (h : i < n) : (bytesP p n).getD i 0 = byteB p i := by
 rw [List.getD_eq_getElem?_getD, bytesP, List.getElem?_map, List.getElem?_range h]
 rfl
def keyP (p : List Bool) (n : Nat) : List Int := le4 (p.length : Int) ++ bytesP p n
theorem keyP_len (p : List Bool) (n : Nat) : (keyP p n).length = n + 4 := by
 unfold keyP
 rw [List.length_append, le4_len, bytesP_len]
 omega
theorem keyP_bd (p : List Bool) (n : Nat) : ∀ x ∈ keyP p n, 0 ≤ x ∧ x ≤ 255 := by
 intro x hx
 rcases List.mem_append.1 hx with hx | hx
 ·exact le4_bd _ x hx
 ·obtain ⟨i, _, rfl⟩ := List.mem_map.1 hx
  exact byteB_bd p i
theorem keyP_get (p : List Bool) {n i : Nat} (h : i < n) : (keyP p n).getD (4 + i) 0 = byteB p i := by
 rw [List.getD_eq_getElem?_getD, keyP, List.getElem?_append_right (by rw [le4_len]; omega), le4_len, show 4 + i - 4 = i by omega, ← List.getD_eq_getElem?_getD]
 exact bytesP_get p h
def pathP (bs : List Int) : List Bool := (List.range (keyNum bs).toNat).map fun i => decide (bitP bs i = 1)
theorem pathP_len (bs : List Int) : (pathP bs).length = (keyNum bs).toNat := by simp [pathP]
theorem pathP_get (bs : List Int) (i : Nat) : (pathP bs).getD i false = (decide (i < (keyNum bs).toNat) && decide (bitP bs i = 1)) := by
 rw [List.getD_eq_getElem?_getD, pathP, List.getElem?_map]
 by_cases h : i < (keyNum bs).toNat
 ·rw [List.getElem?_range h]
  simp [h]
 ·rw [List.getElem?_eq_none (by simpa using h)]
  simp [h]
theorem cutAcc_acc (bs : List Int) (i : Nat) : ∀ k, cutAcc bs i k = accB (fun k => (pathP bs).getD (8 * i + k) false) k
 | 0 => rfl
 | k + 1 => by
  unfold cutAcc accB
  rw [cutAcc_acc bs i k, pathP_get]
  by_cases h : ((8 * i + k : Nat) : Int) < keyNum bs
  ·rw [if_pos h, decide_eq_true (show 8 * i + k < (keyNum bs).toNat by omega), Bool.true_and, bI_of (bitP_bd bs (8 * i + k))]
  ·rw [if_neg h, decide_eq_false (show ¬ 8 * i + k < (keyNum bs).toNat by omega), Bool.false_and]
   rfl
theorem four_eq (x0 x1 x2 x3 : Int) (h0 : 0 ≤ x0 ∧ x0 ≤ 255) (h1 : 0 ≤ x1 ∧ x1 ≤ 255) (h2 : 0 ≤ x2 ∧ x2 ≤ 255) (h3 : 0 ≤ x3 ∧ x3 ≤ 255) (bs : List Int) :
  keyNum (x0 :: x1 :: x2 :: x3 :: bs) = x0 + x1 * 256 + x2 * 65536 + x3 * 16777216 ∧ le4 (x0 + x1 * 256 + x2 * 65536 + x3 * 16777216) = [x0, x1, x2, x3] := by
 refine ⟨?_, ?_⟩
 ·simp [keyNum, num]
 ·rw [le4_eq]
  unfold byteOf
  simp only [List.cons.injEq, and_true]
  refine ⟨?_, ?_, ?_, ?_⟩ <;> omega
theorem le4_take {bs : List Int} (h4 : 4 ≤ bs.length) (h : ∀ x ∈ bs, 0 ≤ x ∧ x ≤ 255) : le4 (keyNum bs) = bs.take 4 := by
 match bs, h4 with
 | x0 :: x1 :: x2 :: x3 :: r, _ =>
  obtain ⟨e1, e2⟩ := four_eq x0 x1 x2 x3 (h _ (by simp)) (h _ (by simp)) (h _ (by simp)) (h _ (by simp)) r
  rw [e1, e2]
  rfl
theorem keyNum_le4 (v : Int) (h0 : 0 ≤ v) (h1 : v ≤ 4294967295) (l : List Int) : keyNum (le4 v ++ l) = v := by
 rw [le4_eq]
 have h := (four_eq (byteOf v 0) (byteOf v 1) (byteOf v 2) (byteOf v 3) (byteOf_bd v 0) (byteOf_bd v 1) (byteOf_bd v 2) (byteOf_bd v 3) l).1
 show keyNum (byteOf v 0 :: byteOf v 1 :: byteOf v 2 :: byteOf v 3 :: l) = v
 rw [h]
 unfold byteOf
 omega
theorem keyNum_bd {bs : List Int} (h : ∀ x ∈ bs, 0 ≤ x ∧ x ≤ 255) : 0 ≤ keyNum bs ∧ keyNum bs ≤ 4294967295 := by
 have := num_bd (fun j => bs.getD j 0) 4 (fun j _ => getD_bd h j)
 unfold keyNum
 omega
theorem keyNum_key (p : List Bool) (n : Nat) (h : p.length ≤ 1000) : keyNum (keyP p n) = p.length := keyNum_le4 _ (by omega) (by omega) _
theorem cutP_key {bs : List Int} (h4 : 4 ≤ bs.length) (h : ∀ x ∈ bs, 0 ≤ x ∧ x ≤ 255) : cutP bs = keyP (pathP bs) (bs.length - 4) := by
 unfold cutP cutTo keyP bytesP
 rw [pathP_len, Int.toNat_of_nonneg (keyNum_bd h).1, le4_take h4 h]
 congr 1
 refine List.map_congr_left fun i _ => ?_
 exact cutAcc_acc bs i 8
theorem bitP_key (p : List Bool) (n : Nat) {i : Nat} (h : i / 8 < n) : bitP (keyP p n) i = bI (p.getD i false) := by
 unfold bitP
 rw [keyP_get p h, byteB]
 have := accB_bit (fun k => p.getD (8 * (i / 8) + k) false) (m := i % 8) (n := 8) (by omega)
 rw [show 8 - 1 - i % 8 = 7 - i % 8 by omega] at this
 rw [this, show 8 * (i / 8) + i % 8 = i by omega]
theorem bI_one (b : Bool) : decide (bI b = 1) = b := by cases b <;> simp [bI]
theorem pathP_key (p : List Bool) {n : Nat} (h : p.length ≤ 8 * n) (hn : n ≤ 100) : pathP (keyP p n) = p := by
 refine List.ext_getElem? fun i => ?_
 unfold pathP
 rw [keyNum_key p n (by omega), Int.toNat_natCast, List.getElem?_map]
 by_cases hi : i < p.length
 ·rw [List.getElem?_range hi, Option.map_some, bitP_key p n (by omega), bI_one, List.getD_eq_getElem?_getD, List.getElem?_eq_getElem hi]
  rfl
 ·rw [List.getElem?_eq_none (by simpa using hi), List.getElem?_eq_none (by omega)]
  rfl
theorem keyP_inj {p q : List Bool} {n : Nat} (hp : p.length ≤ 8 * n) (hq : q.length ≤ 8 * n) (hn : n ≤ 100) (h : keyP p n = keyP q n) : p = q := by
 rw [← pathP_key p hp hn, h, pathP_key q hq hn]
def bitsP (bs : List Int) (n : Nat) : List Bool := (List.range n).map fun i => decide (bitP bs i = 1)
theorem pathP_take (bs : List Int) {n : Nat} (h : (keyNum bs).toNat ≤ n) : pathP bs = (bitsP bs n).take (keyNum bs).toNat := by
 unfold pathP bitsP
 rw [← List.map_take, List.take_range, Nat.min_eq_left h]
theorem bitP_drop (bs cs : List Int) (h : cs.drop 4 = bs.drop 4) (i : Nat) : bitP cs i = bitP bs i := by
 unfold bitP
 have e : ∀ l : List Int, l.getD (4 + i / 8) 0 = (l.drop 4).getD (i / 8) 0 := fun l => by
  rw [List.getD_eq_getElem?_getD, List.getD_eq_getElem?_getD, List.getElem?_drop]
 rw [e, e, h]
theorem begins_iff {p : List Bool} {bs : List Int} {n : Nat} (hl : bs.length = n + 4) (h : ∀ x ∈ bs, 0 ≤ x ∧ x ≤ 255) (hp : p.length ≤ (keyNum bs).toNat) (hn : n ≤ 100) (hk : keyNum bs ≤ 8 * (n : Int)) :
  cutP ((keyP p n).take 4 ++ bs.drop 4) = keyP p n ↔ p = (pathP bs).take p.length := by
 have ht : (keyP p n).take 4 = le4 (p.length : Int) := by
  unfold keyP
  rw [List.take_append_of_le_length (by rw [le4_len]; omega), List.take_of_length_le (by rw [le4_len]; omega)]
 rw [ht]
 generalize hc : le4 (p.length : Int) ++ bs.drop 4 = cs
 have hcl : cs.length = n + 4 := by
  rw [← hc, List.length_append, le4_len, List.length_drop]
  omega
 have hcb : ∀ x ∈ cs, 0 ≤ x ∧ x ≤ 255 := by
  intro x hx
  rw [← hc] at hx
  rcases List.mem_append.1 hx with hx | hx
  ·exact le4_bd _ x hx
  ·exact h x (List.mem_of_mem_drop hx)
 have hcd : cs.drop 4 = bs.drop 4 := by
  rw [← hc, List.drop_append_of_le_length (by rw [le4_len]; omega), List.drop_of_length_le (by rw [le4_len]; omega)]
  rfl
 have hkb := keyNum_bd h
 have hkc : keyNum cs = p.length := by
  rw [← hc]
  exact keyNum_le4 _ (by omega) (by omega) _
 rw [cutP_key (by omega) hcb, hcl, Nat.add_sub_cancel]
 have e1 : pathP cs = (pathP bs).take p.length := by
  rw [pathP_take bs (Nat.le_refl _), List.take_take, Nat.min_eq_left (by omega), pathP_take cs (n := (keyNum bs).toNat) (by omega), hkc, Int.toNat_natCast]
  congr 1
  unfold bitsP
  refine List.map_congr_left fun i _ => ?_
  rw [bitP_drop bs cs hcd i]
 constructor
 ·intro e
  rw [← e1]
  have : (pathP cs).length ≤ 8 * n := by
   rw [pathP_len, hkc]
   omega
  exact (keyP_inj this (by omega) hn e).symm
 ·intro e
  rw [e1, ← e]
end Go.Proofs.Ytmhhahmjkopjhaa.Lpm
end
section
namespace Go.Proofs.Ytmhhahmjkopjhaa.Lpm
open Go.RowKit Go.Deep
abbrev Tr := BT (Bool × Nat)
def adT : Tr → Option Addr
 | .nil => none
 | .node b o _ _ _ => some ⟨b, o, none⟩
theorem ptr_ad (T : Tr) : T.ptr = .pointer (adT T) := by cases T <;> rfl
def bsT : Tr → List Nat
 | .nil => []
 | .node b _ _ l r => b :: (bsT l ++ bsT r)
def TrAt (w : World) : Tr → Prop
 | .nil => True
 | .node b o a l r => o = 0 ∧ Blk w b [l.ptr, r.ptr, .bool a.1, .int .i64 (a.2 : Int)] 153 ∧ TrAt w l ∧ TrAt w r
def okT : Tr → Prop
 | .nil => True
 | .node _ _ a l r => (a.1 = false → a.2 = 0) ∧ okT l ∧ okT r
def depT : Tr → Nat
 | .nil => 0
 | .node _ _ _ l r => 1 + max (depT l) (depT r)
def heldT (a : Bool × Nat) : Option Nat := if a.1 = true then some a.2 else none
def atT : Tr → List Bool → Option Nat
 | .nil, _ => none
 | .node _ _ a _ _, [] => heldT a
 | .node _ _ _ l _, false :: p => atT l p
 | .node _ _ _ _ r, true :: p => atT r p
def longT : Tr → List Bool → Option Nat
 | .nil, _ => none
 | .node _ _ a _ _, [] => heldT a
 | .node _ _ a l _, false :: p => (longT l p).or (heldT a)
 | .node _ _ a _ r, true :: p => (longT r p).or (heldT a)
theorem TrAt.touch {S : List Nat} {w w' : World} : ∀ {T : Tr}, TrAt w T → Touch S w w' → (∀ x ∈ bsT T, x ∉ S) → TrAt w' T
 | .nil, _, _, _ => trivial
 | .node b o a l r, h, ht, hn => ⟨h.1, ht.blk h.2.1 (hn b (by simp [bsT])), TrAt.touch h.2.2.1 ht (fun x hx => hn x (by simp [bsT, hx])), TrAt.touch h.2.2.2 ht (fun x hx => hn x (by simp [bsT, hx]))⟩
theorem TrAt.lt {w : World} : ∀ {T : Tr}, TrAt w T → ∀ x ∈ bsT T, x < w.heap.size
 | .nil, _, x, hx => by cases hx
 | .node b o a l r, h, x, hx => by
  simp only [bsT, List.mem_cons, List.mem_append] at hx
  rcases hx with rfl | hx | hx
  ·exact h.2.1.lt
  ·exact TrAt.lt h.2.2.1 x hx
  ·exact TrAt.lt h.2.2.2 x hx
def PathAt (w : World) (sa : Option Addr) (p : List Bool) : Prop := p.length ≤ 1000 ∧ (1 ≤ p.length → ∃ b off, sa = some ⟨b, off, none⟩ ∧ ∀ j, j < p.length → w.cell? ⟨b, off + j, none⟩ = some (.int .i64 (bI (p.getD j false))))
theorem PathAt.drewN {w : World} {sa : Option Addr} {p : List Bool} (h : PathAt w sa p) (n : Nat) : PathAt (w.drewN n) sa p := h
theorem PathAt.still {w w' : World} {sa : Option Addr} {p : List Bool} (h : PathAt w sa p) (ht : Touch [] w w') : PathAt w' sa p := by
 refine ⟨h.1, fun hl => ?_⟩
 obtain ⟨b, off, e, hc⟩ := h.2 hl
 exact ⟨b, off, e, fun j hj => ht.cell (hc j hj) (by simp)⟩
theorem PathAt.tail {w : World} {b off : Nat} {c x : Bool} {p : List Bool} (h : PathAt w (some ⟨b, off, none⟩) (c :: x :: p)) : PathAt w (some ⟨b, off + 1, none⟩) (x :: p) := by
 refine ⟨by have := h.1; simp at this ⊢; omega, fun _ => ?_⟩
 obtain ⟨b', off', e, hc⟩ := h.2 (by simp)
 injection e with e
 injection e with e1 e2
 subst e1 e2
 refine ⟨b, off + 1, rfl, fun j hj => ?_⟩
 have := hc (j + 1) (by simp at hj ⊢; omega)
 rw [show off + 1 + j = off + (j + 1) by omega, this]
 simp
theorem PathAt.last {w : World} (sa : Option Addr) : PathAt w sa [] := ⟨by simp, fun h => absurd h (by simp)⟩
theorem PathAt.head {w : World} {sa : Option Addr} {c : Bool} {p : List Bool} (h : PathAt w sa (c :: p)) : ∃ b off, sa = some ⟨b, off, none⟩ ∧ w.cell? ⟨b, off, none⟩ = some (.int .i64 (bI c)) := by
 obtain ⟨b, off, e, hc⟩ := h.2 (by simp)
 exact ⟨b, off, e, by simpa using hc 0 (by simp)⟩
def fV (o : Option Nat) : Value := .tuple #[.int .i64 ((o.getD 0 : Nat) : Int), .bool o.isSome]
theorem fV_held {a : Bool × Nat} (h : a.1 = false → a.2 = 0) : fV (heldT a) = .tuple #[.int .i64 (a.2 : Int), .bool a.1] := by
 unfold heldT fV
 cases ha : a.1 with
 | false => simp [h ha]
 | true => simp
theorem at_any : ∀ (p : List Bool) (T : Tr) (w : World) (sa : Option Addr), TrAt w T → okT T → PathAt w sa p →
  Calls Try.prog 97 #[T.ptr, .slice sa p.length p.length] w fun e w' => e = .returned (fV (atT T p)) ∧ ∃ n, w' = w.drewN n := by
 intro p
 induction p with
 | nil =>
  intro T w sa hT hok hp
  match T, hT, hok with
  | .nil, _, _ =>
   show Calls Try.prog 97 #[.pointer none, .slice sa 0 0] w _
   clear hp
   go_enter Try.func97, Try.ntmps97
   go_wp2
   go_ret2
   exact ⟨rfl, 0, rfl⟩
  | .node b o a l r, hT, hok =>
   obtain ⟨rfl, hB, _, _⟩ := hT
   have c2 := hB.cell (i := 2) rfl
   have c3 := hB.cell (i := 3) rfl
   show Calls Try.prog 97 #[.pointer (some ⟨b, 0, none⟩), .slice sa 0 0] w fun e w' => e = .returned (fV (heldT a)) ∧ ∃ n, w' = w.drewN n
   rw [fV_held hok.1]
   clear hok hB hp
   go_enter Try.func97, Try.ntmps97
   go_wp2_with fail
   go_quiet (fail)
   go_wp2
   go_ret2
   exact ⟨rfl, nq, rfl⟩
 | cons c p ih =>
  intro T w sa hT hok hp
  obtain ⟨pb, off, rfl, hc0⟩ := hp.head
  match T, hT, hok with
  | .nil, _, _ =>
   show Calls Try.prog 97 #[.pointer none, .slice (some ⟨pb, off, none⟩) (p.length + 1) (p.length + 1)] w _
   clear hp hc0
   go_enter Try.func97, Try.ntmps97
   go_wp2
   go_ret2
   exact ⟨rfl, 0, rfl⟩
  | .node b o a l r, hT, hok =>
   obtain ⟨rfl, hB, hl, hr⟩ := hT
   have c0 := hB.cell (i := 0) rfl
   have c1 := hB.cell (i := 1) rfl
   have HD : ∀ (C : Tr), TrAt w C → ∀ n, TrAt (w.drewN n) C := fun C hC n => hC.touch ((Touch.refl [] w).drewN n) (by simp)
   cases c with
   | false =>
    match p, hp, ih with
    | [], hp, ih =>
     have H1 := toHid (fun n => ih l (w.drewN n) (some ⟨pb, off, none⟩) (HD l hl n) hok.2.1 (PathAt.drewN (PathAt.last _) n))
     show Calls Try.prog 97 #[.pointer (some ⟨b, 0, none⟩), .slice (some ⟨pb, off, none⟩) 1 1] w fun e w' => e = .returned (fV (atT l ([]))) ∧ ∃ n, w' = w.drewN n
     simp only [List.length_nil] at H1
     have hc : w.cell? ⟨pb, off, none⟩ = some (.int .i64 0) := hc0
     unfold fV at *
     generalize l.ptr = cv at *
     generalize (atT l ([])) = fo at *
     generalize hfo : ((fo.getD 0 : Nat) : Int) = fi at *
     clear hp hc0 hB hok hl hr ih HD hfo
     go_enter Try.func97, Try.ntmps97
     go_wp2_with fail
     go_quiet (first | (go_at_call 97; refine Calls.quiet_of (H1.out _)))
     go_wp2
     go_ret2
     exact ⟨rfl, nq, rfl⟩
    | x :: p, hp, ih =>
     have H1 := toHid (fun n => ih l (w.drewN n) (some ⟨pb, off + 1, none⟩) (HD l hl n) hok.2.1 (PathAt.drewN (hp.tail) n))
     show Calls Try.prog 97 #[.pointer (some ⟨b, 0, none⟩), .slice (some ⟨pb, off, none⟩) (p.length + 1 + 1) (p.length + 1 + 1)] w fun e w' => e = .returned (fV (atT l (x :: p))) ∧ ∃ n, w' = w.drewN n
     simp only [List.length_cons] at H1
     have hc : w.cell? ⟨pb, off, none⟩ = some (.int .i64 0) := hc0
     unfold fV at *
     generalize l.ptr = cv at *
     generalize (atT l (x :: p)) = fo at *
     generalize hfo : ((fo.getD 0 : Nat) : Int) = fi at *
     clear hp hc0 hB hok hl hr ih HD hfo
     go_enter Try.func97, Try.ntmps97
     go_wp2_with fail
     go_quiet (first | (go_at_call 97; refine Calls.quiet_of (H1.out _)))
     go_wp2
     go_ret2
     exact ⟨rfl, nq, rfl⟩
   | true =>
    match p, hp, ih with
    | [], hp, ih =>
     have H1 := toHid (fun n => ih r (w.drewN n) (some ⟨pb, off, none⟩) (HD r hr n) hok.2.2 (PathAt.drewN (PathAt.last _) n))
     show Calls Try.prog 97 #[.pointer (some ⟨b, 0, none⟩), .slice (some ⟨pb, off, none⟩) 1 1] w fun e w' => e = .returned (fV (atT r ([]))) ∧ ∃ n, w' = w.drewN n
     simp only [List.length_nil] at H1
     have hc : w.cell? ⟨pb, off, none⟩ = some (.int .i64 1) := hc0
     unfold fV at *
     generalize r.ptr = cv at *
     generalize (atT r ([])) = fo at *
     generalize hfo : ((fo.getD 0 : Nat) : Int) = fi at *
     clear hp hc0 hB hok hl hr ih HD hfo
     go_enter Try.func97, Try.ntmps97
     go_wp2_with fail
     go_quiet (first | (go_at_call 97; refine Calls.quiet_of (H1.out _)))
     go_wp2
     go_ret2
     exact ⟨rfl, nq, rfl⟩
    | x :: p, hp, ih =>
     have H1 := toHid (fun n => ih r (w.drewN n) (some ⟨pb, off + 1, none⟩) (HD r hr n) hok.2.2 (PathAt.drewN (hp.tail) n))
     show Calls Try.prog 97 #[.pointer (some ⟨b, 0, none⟩), .slice (some ⟨pb, off, none⟩) (p.length + 1 + 1) (p.length + 1 + 1)] w fun e w' => e = .returned (fV (atT r (x :: p))) ∧ ∃ n, w' = w.drewN n
     simp only [List.length_cons] at H1
     have hc : w.cell? ⟨pb, off, none⟩ = some (.int .i64 1) := hc0
     unfold fV at *
     generalize r.ptr = cv at *
     generalize (atT r (x :: p)) = fo at *
     generalize hfo : ((fo.getD 0 : Nat) : Int) = fi at *
     clear hp hc0 hB hok hl hr ih HD hfo
     go_enter Try.func97, Try.ntmps97
     go_wp2_with fail
     go_quiet (first | (go_at_call 97; refine Calls.quiet_of (H1.out _)))
     go_wp2
     go_ret2
     exact ⟨rfl, nq, rfl⟩
theorem longest_any : ∀ (p : List Bool) (T : Tr) (w : World) (sa : Option Addr), TrAt w T → okT T → PathAt w sa p →
  Calls Try.prog 99 #[T.ptr, .slice sa p.length p.length] w fun e w' => e = .returned (fV (longT T p)) ∧ ∃ n, w' = w.drewN n := by
 intro p
 induction p with
 | nil =>
  intro T w sa hT hok hp
  match T, hT, hok with
  | .nil, _, _ =>
   show Calls Try.prog 99 #[.pointer none, .slice sa 0 0] w _
   clear hp
   go_enter Try.func99, Try.ntmps99
   go_wp2
   go_ret2
   exact ⟨rfl, 0, rfl⟩
  | .node b o a l r, hT, hok =>
   obtain ⟨rfl, hB, _, _⟩ := hT
   have c2 := hB.cell (i := 2) rfl
   have c3 := hB.cell (i := 3) rfl
   show Calls Try.prog 99 #[.pointer (some ⟨b, 0, none⟩), .slice sa 0 0] w fun e w' => e = .returned (fV (heldT a)) ∧ ∃ n, w' = w.drewN n
   rw [fV_held hok.1]
   clear hok hB hp
   go_enter Try.func99, Try.ntmps99
   go_wp2_with fail
   go_quiet (fail)
   go_wp2
   go_ret2
   exact ⟨rfl, nq, rfl⟩
 | cons c p ih =>
  intro T w sa hT hok hp
  obtain ⟨pb, off, rfl, hc0⟩ := hp.head
  match T, hT, hok with
  | .nil, _, _ =>
   show Calls Try.prog 99 #[.pointer none, .slice (some ⟨pb, off, none⟩) (p.length + 1) (p.length + 1)] w _
   clear hp hc0
   go_enter Try.func99, Try.ntmps99
   go_wp2
   go_ret2
   exact ⟨rfl, 0, rfl⟩
  | .node b o a l r, hT, hok =>
   obtain ⟨rfl, hB, hl, hr⟩ := hT
   have HFH := toHid (fV_held hok.1)
   have c0 := hB.cell (i := 0) rfl
   have c1 := hB.cell (i := 1) rfl
   have c2 := hB.cell (i := 2) rfl
   have c3 := hB.cell (i := 3) rfl
   have HD : ∀ (C : Tr), TrAt w C → ∀ n, TrAt (w.drewN n) C := fun C hC n => hC.touch ((Touch.refl [] w).drewN n) (by simp)
   cases c with
   | false =>
    match p, hp, ih with
    | [], hp, ih =>
     have H1 := toHid (fun n => ih l (w.drewN n) (some ⟨pb, off, none⟩) (HD l hl n) hok.2.1 (PathAt.drewN (PathAt.last _) n))
     show Calls Try.prog 99 #[.pointer (some ⟨b, 0, none⟩), .slice (some ⟨pb, off, none⟩) 1 1] w fun e w' => e = .returned (fV ((longT l ([])).or (heldT a))) ∧ ∃ n, w' = w.drewN n
     simp only [List.length_nil] at H1
     have hc : w.cell? ⟨pb, off, none⟩ = some (.int .i64 0) := hc0
     generalize l.ptr = cv at *
     generalize (longT l ([])) = fo at *
     clear hp hc0 hB hok hl hr ih HD
     cases fo with
     | none =>
      simp only [Option.none_or]
      rw [HFH.out]
      unfold fV Option.getD Option.isSome at H1
      clear HFH
      go_enter Try.func99, Try.ntmps99
      go_wp2_with fail
      go_quiet (first | (go_at_call 99; refine Calls.quiet_of (H1.out _)))
      go_wp2_with fail
      have HQ : Hid (∃ m, w.drewN nq = w.drewN m) := ⟨nq, rfl⟩
      obtain ⟨wr, hwr⟩ : ∃ wr, wr = w.drewN nq := ⟨_, rfl⟩
      have d2 : wr.cell? ⟨b, 2, none⟩ = some (.bool a.1) := by rw [hwr]; exact c2
      have d3 : wr.cell? ⟨b, 3, none⟩ = some (.int .i64 (a.2 : Int)) := by rw [hwr]; exact c3
      rw [← hwr] at HQ ⊢
      clear hwr c0 c1 c2 c3 hc H1
      go_wp2_with fail
      go_quiet (fail)
      go_wp2
      go_ret2
      refine ⟨rfl, ?_⟩
      obtain ⟨m, rfl⟩ := HQ.out
      exact ⟨m + nq, World.drewN_drewN _ _ _⟩
     | some s =>
      simp only [Option.some_or]
      unfold fV Option.getD Option.isSome at *
      clear HFH
      go_enter Try.func99, Try.ntmps99
      go_wp2_with fail
      go_quiet (first | (go_at_call 99; refine Calls.quiet_of (H1.out _)))
      go_wp2
      go_ret2
      exact ⟨rfl, nq, rfl⟩
    | x :: p, hp, ih =>
     have H1 := toHid (fun n => ih l (w.drewN n) (some ⟨pb, off + 1, none⟩) (HD l hl n) hok.2.1 (PathAt.drewN (hp.tail) n))
     show Calls Try.prog 99 #[.pointer (some ⟨b, 0, none⟩), .slice (some ⟨pb, off, none⟩) (p.length + 1 + 1) (p.length + 1 + 1)] w fun e w' => e = .returned (fV ((longT l (x :: p)).or (heldT a))) ∧ ∃ n, w' = w.drewN n
     simp only [List.length_cons] at H1
     have hc : w.cell? ⟨pb, off, none⟩ = some (.int .i64 0) := hc0
     generalize l.ptr = cv at *
     generalize (longT l (x :: p)) = fo at *
     clear hp hc0 hB hok hl hr ih HD
     cases fo with
     | none =>
      simp only [Option.none_or]
      rw [HFH.out]
      unfold fV Option.getD Option.isSome at H1
      clear HFH
      go_enter Try.func99, Try.ntmps99
      go_wp2_with fail
      go_quiet (first | (go_at_call 99; refine Calls.quiet_of (H1.out _)))
      go_wp2_with fail
      have HQ : Hid (∃ m, w.drewN nq = w.drewN m) := ⟨nq, rfl⟩
      obtain ⟨wr, hwr⟩ : ∃ wr, wr = w.drewN nq := ⟨_, rfl⟩
      have d2 : wr.cell? ⟨b, 2, none⟩ = some (.bool a.1) := by rw [hwr]; exact c2
      have d3 : wr.cell? ⟨b, 3, none⟩ = some (.int .i64 (a.2 : Int)) := by rw [hwr]; exact c3
      rw [← hwr] at HQ ⊢
      clear hwr c0 c1 c2 c3 hc H1
      go_wp2_with fail
      go_quiet (fail)
      go_wp2
      go_ret2
      refine ⟨rfl, ?_⟩
      obtain ⟨m, rfl⟩ := HQ.out
      exact ⟨m + nq, World.drewN_drewN _ _ _⟩
     | some s =>
      simp only [Option.some_or]
      unfold fV Option.getD Option.isSome at *
      clear HFH
      go_enter Try.func99, Try.ntmps99
      go_wp2_with fail
      go_quiet (first | (go_at_call 99; refine Calls.quiet_of (H1.out _)))
      go_wp2
      go_ret2
      exact ⟨rfl, nq, rfl⟩
   | true =>
    match p, hp, ih with
    | [], hp, ih =>
     have H1 := toHid (fun n => ih r (w.drewN n) (some ⟨pb, off, none⟩) (HD r hr n) hok.2.2 (PathAt.drewN (PathAt.last _) n))
     show Calls Try.prog 99 #[.pointer (some ⟨b, 0, none⟩), .slice (some ⟨pb, off, none⟩) 1 1] w fun e w' => e = .returned (fV ((longT r ([])).or (heldT a))) ∧ ∃ n, w' = w.drewN n
     simp only [List.length_nil] at H1
     have hc : w.cell? ⟨pb, off, none⟩ = some (.int .i64 1) := hc0
     generalize r.ptr = cv at *
     generalize (longT r ([])) = fo at *
     clear hp hc0 hB hok hl hr ih HD
     cases fo with
     | none =>
      simp only [Option.none_or]
      rw [HFH.out]
      unfold fV Option.getD Option.isSome at H1
      clear HFH
      go_enter Try.func99, Try.ntmps99
      go_wp2_with fail
      go_quiet (first | (go_at_call 99; refine Calls.quiet_of (H1.out _)))
      go_wp2_with fail
      have HQ : Hid (∃ m, w.drewN nq = w.drewN m) := ⟨nq, rfl⟩
      obtain ⟨wr, hwr⟩ : ∃ wr, wr = w.drewN nq := ⟨_, rfl⟩
      have d2 : wr.cell? ⟨b, 2, none⟩ = some (.bool a.1) := by rw [hwr]; exact c2
      have d3 : wr.cell? ⟨b, 3, none⟩ = some (.int .i64 (a.2 : Int)) := by rw [hwr]; exact c3
      rw [← hwr] at HQ ⊢
      clear hwr c0 c1 c2 c3 hc H1
      go_wp2_with fail
      go_quiet (fail)
      go_wp2
      go_ret2
      refine ⟨rfl, ?_⟩
      obtain ⟨m, rfl⟩ := HQ.out
      exact ⟨m + nq, World.drewN_drewN _ _ _⟩
     | some s =>
      simp only [Option.some_or]
      unfold fV Option.getD Option.isSome at *
      clear HFH
      go_enter Try.func99, Try.ntmps99
      go_wp2_with fail
      go_quiet (first | (go_at_call 99; refine Calls.quiet_of (H1.out _)))
      go_wp2
      go_ret2
      exact ⟨rfl, nq, rfl⟩
    | x :: p, hp, ih =>
     have H1 := toHid (fun n => ih r (w.drewN n) (some ⟨pb, off + 1, none⟩) (HD r hr n) hok.2.2 (PathAt.drewN (hp.tail) n))
     show Calls Try.prog 99 #[.pointer (some ⟨b, 0, none⟩), .slice (some ⟨pb, off, none⟩) (p.length + 1 + 1) (p.length + 1 + 1)] w fun e w' => e = .returned (fV ((longT r (x :: p)).or (heldT a))) ∧ ∃ n, w' = w.drewN n
     simp only [List.length_cons] at H1
     have hc : w.cell? ⟨pb, off, none⟩ = some (.int .i64 1) := hc0
     generalize r.ptr = cv at *
     generalize (longT r (x :: p)) = fo at *
     clear hp hc0 hB hok hl hr ih HD
     cases fo with
     | none =>
      simp only [Option.none_or]
      rw [HFH.out]
      unfold fV Option.getD Option.isSome at H1
      clear HFH
      go_enter Try.func99, Try.ntmps99
      go_wp2_with fail
      go_quiet (first | (go_at_call 99; refine Calls.quiet_of (H1.out _)))
      go_wp2_with fail
      have HQ : Hid (∃ m, w.drewN nq = w.drewN m) := ⟨nq, rfl⟩
      obtain ⟨wr, hwr⟩ : ∃ wr, wr = w.drewN nq := ⟨_, rfl⟩
      have d2 : wr.cell? ⟨b, 2, none⟩ = some (.bool a.1) := by rw [hwr]; exact c2
      have d3 : wr.cell? ⟨b, 3, none⟩ = some (.int .i64 (a.2 : Int)) := by rw [hwr]; exact c3
      rw [← hwr] at HQ ⊢
      clear hwr c0 c1 c2 c3 hc H1
      go_wp2_with fail
      go_quiet (fail)
      go_wp2
      go_ret2
      refine ⟨rfl, ?_⟩
      obtain ⟨m, rfl⟩ := HQ.out
      exact ⟨m + nq, World.drewN_drewN _ _ _⟩
     | some s =>
      simp only [Option.some_or]
      unfold fV Option.getD Option.isSome at *
      clear HFH
      go_enter Try.func99, Try.ntmps99
      go_wp2_with fail
      go_quiet (first | (go_at_call 99; refine Calls.quiet_of (H1.out _)))
      go_wp2
      go_ret2
      exact ⟨rfl, nq, rfl⟩
end Go.Proofs.Ytmhhahmjkopjhaa.Lpm
end
section
namespace Go.Proofs.Ytmhhahmjkopjhaa.Lpm
open Go.RowKit Go.Deep
structure WKept (w : World) (T : Tr) (p : List Bool) (s : Nat) (T' : Tr) (w' : World) : Prop where
 at_ : TrAt w' T'
 ok : okT T'
 nd : (bsT T').Nodup
 get : ∀ q, atT T' q = if q = p then some s else atT T q
 blocks : ∀ b ∈ bsT T', b ∈ bsT T ∨ w.heap.size ≤ b
 touch : Touch (bsT T) w w'
 dep : depT T' ≤ max (depT T) (p.length + 1)
def WPost (w : World) (T : Tr) (p : List Bool) (s : Nat) (e : Ending) (w' : World) : Prop := ∃ T', e = .returned T'.ptr ∧ WKept w T p s T' w'
theorem nd_node {b o : Nat} {a : Bool × Nat} {l r : Tr} (h : (bsT (.node b o a l r)).Nodup) : b ∉ bsT l ∧ b ∉ bsT r ∧ (bsT l).Nodup ∧ (bsT r).Nodup ∧ ∀ x ∈ bsT l, x ∉ bsT r := by
 simp only [bsT, List.nodup_cons, List.mem_append, List.nodup_append, not_or] at h
 exact ⟨h.1.1, h.1.2, h.2.1, h.2.2.1, fun x hx hy => h.2.2.2 x hx x hy rfl⟩
theorem nd_mk {b o : Nat} {a : Bool × Nat} {l r : Tr} (h1 : b ∉ bsT l) (h2 : b ∉ bsT r) (h3 : (bsT l).Nodup) (h4 : (bsT r).Nodup) (h5 : ∀ x ∈ bsT l, x ∉ bsT r) : (bsT (.node b o a l r)).Nodup := by
 simp only [bsT, List.nodup_cons, List.mem_append, List.nodup_append, not_or]
 exact ⟨⟨h1, h2⟩, h3, h4, fun x hx y hy e => h5 x hx (e ▸ hy)⟩
theorem with_here {w : World} {b : Nat} {a : Bool × Nat} {l r : Tr} (h : TrAt w (.node b 0 a l r)) (ok : okT (.node b 0 a l r)) (nd : (bsT (.node b 0 a l r)).Nodup) (s : Nat) :
  WKept w (.node b 0 a l r) [] s (.node b 0 (true, s) l r) ((w.setCell ⟨b, 2, none⟩ (.bool true)).setCell ⟨b, 3, none⟩ (.int .i64 (s : Int))) := by
 obtain ⟨n1, n2, n3, n4, n5⟩ := nd_node nd
 have ht : Touch [b] w ((w.setCell ⟨b, 2, none⟩ (.bool true)).setCell ⟨b, 3, none⟩ (.int .i64 (s : Int))) := ((Touch.refl [b] w).setCell _ _ (Or.inl (by simp))).setCell _ _ (Or.inl (by simp))
 refine ⟨⟨rfl, (h.2.1.setCell 2 (.bool true)).setCell 3 (.int .i64 (s : Int)), h.2.2.1.touch ht (fun x hx hy => ?_), h.2.2.2.touch ht (fun x hx hy => ?_)⟩, ⟨fun e => absurd e (by simp), ok.2⟩, nd, fun q => ?_, fun x hx => Or.inl hx, ht.mono (fun x hx => Or.inl (by simp at hx; simp [bsT, hx])), (by simp only [depT]; omega)⟩
 ·simp at hy; subst hy; exact n1 hx
 ·simp at hy; subst hy; exact n2 hx
 ·match q with
  | [] => rfl
  | false :: q => simp [atT]
  | true :: q => simp [atT]
theorem with_left {w w0 w2 : World} {b : Nat} {a : Bool × Nat} {l r C : Tr} {p : List Bool} {s : Nat} (h : TrAt w (.node b 0 a l r)) (ok : okT (.node b 0 a l r)) (nd : (bsT (.node b 0 a l r)).Nodup) (h0 : Touch [] w w0) (k : WKept w0 l p s C w2) :
  WKept w (.node b 0 a l r) (false :: p) s (.node b 0 a C r) (w2.setCell ⟨b, 0, none⟩ C.ptr) := by
 obtain ⟨n1, n2, n3, n4, n5⟩ := nd_node nd
 have ht : Touch (bsT l) w w2 := (Touch.nil h0).trans k.touch (fun y hy => Or.inl hy)
 have hsz := h0.size
 have hb : b ∉ bsT C := fun hx => by
  rcases k.blocks b hx with hx | hx
  ·exact n1 hx
  ·have := h.2.1.lt
   omega
 have hap : ∀ x ∈ bsT C, x ∉ bsT r := fun x hx hy => by
  rcases k.blocks x hx with hx | hx
  ·exact n5 x hx hy
  ·have := TrAt.lt h.2.2.2 x hy
   omega
 have hts : Touch [b] w2 (w2.setCell ⟨b, 0, none⟩ C.ptr) := (Touch.refl [b] w2).setCell _ _ (Or.inl (by simp))
 have hsib : TrAt (w2.setCell ⟨b, 0, none⟩ C.ptr) r := (h.2.2.2.touch ht (fun x hx hy => n5 x hy hx)).touch hts (fun x hx hy => by simp at hy; subst hy; exact n2 hx)
 have hch : TrAt (w2.setCell ⟨b, 0, none⟩ C.ptr) C := k.at_.touch hts (fun x hx hy => by simp at hy; subst hy; exact hb hx)
 have hB : Blk w2 b [l.ptr, r.ptr, .bool a.1, .int .i64 (a.2 : Int)] 153 := ht.blk h.2.1 n1
 have hB2 : Blk (w2.setCell ⟨b, 0, none⟩ C.ptr) b [C.ptr, r.ptr, .bool a.1, .int .i64 (a.2 : Int)] 153 := hB.setCell 0 C.ptr
 refine ⟨⟨rfl, hB2, hch, hsib⟩, ⟨ok.1, k.ok, ok.2.2⟩, nd_mk hb n2 k.nd n4 hap, fun q => ?_, fun x hx => ?_, ?_, (by have := k.dep; simp only [depT, List.length_cons]; omega)⟩
 ·match q with
  | [] => simp [atT]
  | false :: q => simp [atT, k.get q]
  | true :: q => simp [atT]
 ·simp only [bsT, List.mem_cons, List.mem_append] at hx ⊢
  rcases hx with hx | hx | hx
  ·exact Or.inl (Or.inl hx)
  ·rcases k.blocks x hx with hx | hx
   ·exact Or.inl (Or.inr (Or.inl hx))
   ·exact Or.inr (by omega)
  ·exact Or.inl (Or.inr (Or.inr hx))
 ·exact (ht.mono (S' := bsT (.node b 0 a l r)) (fun x hx => Or.inl (by simp [bsT, hx]))).trans hts (fun x hx => Or.inl (by simp at hx; simp [bsT, hx]))
theorem with_right {w w0 w2 : World} {b : Nat} {a : Bool × Nat} {l r C : Tr} {p : List Bool} {s : Nat} (h : TrAt w (.node b 0 a l r)) (ok : okT (.node b 0 a l r)) (nd : (bsT (.node b 0 a l r)).Nodup) (h0 : Touch [] w w0) (k : WKept w0 r p s C w2) :
  WKept w (.node b 0 a l r) (true :: p) s (.node b 0 a l C) (w2.setCell ⟨b, 1, none⟩ C.ptr) := by
 obtain ⟨n1, n2, n3, n4, n5⟩ := nd_node nd
 have ht : Touch (bsT r) w w2 := (Touch.nil h0).trans k.touch (fun y hy => Or.inl hy)
 have hsz := h0.size
 have hb : b ∉ bsT C := fun hx => by
  rcases k.blocks b hx with hx | hx
  ·exact n2 hx
  ·have := h.2.1.lt
   omega
 have hap : ∀ x ∈ bsT C, x ∉ bsT l := fun x hx hy => by
  rcases k.blocks x hx with hx | hx
  ·exact n5 x hy hx
  ·have := TrAt.lt h.2.2.1 x hy
   omega
 have hts : Touch [b] w2 (w2.setCell ⟨b, 1, none⟩ C.ptr) := (Touch.refl [b] w2).setCell _ _ (Or.inl (by simp))
 have hsib : TrAt (w2.setCell ⟨b, 1, none⟩ C.ptr) l := (h.2.2.1.touch ht (fun x hx hy => n5 x hx hy)).touch hts (fun x hx hy => by simp at hy; subst hy; exact n1 hx)
 have hch : TrAt (w2.setCell ⟨b, 1, none⟩ C.ptr) C := k.at_.touch hts (fun x hx hy => by simp at hy; subst hy; exact hb hx)
 have hB : Blk w2 b [l.ptr, r.ptr, .bool a.1, .int .i64 (a.2 : Int)] 153 := ht.blk h.2.1 n2
 have hB2 : Blk (w2.setCell ⟨b, 1, none⟩ C.ptr) b [l.ptr, C.ptr, .bool a.1, .int .i64 (a.2 : Int)] 153 := hB.setCell 1 C.ptr
 refine ⟨⟨rfl, hB2, hsib, hch⟩, ⟨ok.1, ok.2.1, k.ok⟩, nd_mk n1 hb n3 k.nd (fun x hx hy => hap x hy hx), fun q => ?_, fun x hx => ?_, ?_, (by have := k.dep; simp only [depT, List.length_cons]; omega)⟩
 ·match q with
  | [] => simp [atT]
  | false :: q => simp [atT]
  | true :: q => simp [atT, k.get q]
 ·simp only [bsT, List.mem_cons, List.mem_append] at hx ⊢
  rcases hx with hx | hx | hx
  ·exact Or.inl (Or.inl hx)
  ·exact Or.inl (Or.inr (Or.inl hx))
  ·rcases k.blocks x hx with hx | hx
   ·exact Or.inl (Or.inr (Or.inr hx))
   ·exact Or.inr (by omega)
 ·exact (ht.mono (S' := bsT (.node b 0 a l r)) (fun x hx => Or.inl (by simp [bsT, hx]))).trans hts (fun x hx => Or.inl (by simp at hx; simp [bsT, hx]))
theorem with_new {w : World} {p : List Bool} {s : Nat} {T' : Tr} {w' : World} (k : WKept (w.alloc (.cells #[.pointer none, .pointer none, .bool false, .int .i64 0] 153)) (.node w.heap.size 0 (false, 0) .nil .nil) p s T' w') : WKept w .nil p s T' w' := by
 refine ⟨k.at_, k.ok, k.nd, fun q => ?_, fun b hb => Or.inr ?_, ((Touch.refl [] w).alloc _).trans k.touch (fun y hy => Or.inr ?_), (by have := k.dep; simp only [depT] at this ⊢; omega)⟩
 ·rw [k.get q]
  have : atT (.node w.heap.size 0 (false, 0) .nil .nil) q = none := by
   match q with
   | [] => rfl
   | false :: q => rfl
   | true :: q => rfl
  rw [this]
  rfl
 ·rcases k.blocks b hb with hb | hb
  ·simp [bsT] at hb
   omega
  ·rw [World.size_alloc] at hb
   omega
 ·simp [bsT] at hy
  omega
theorem new_at (w : World) : TrAt (w.alloc (.cells #[.pointer none, .pointer none, .bool false, .int .i64 0] 153)) (.node w.heap.size 0 (false, 0) .nil .nil) := ⟨rfl, Blk.newA w #[.pointer none, .pointer none, .bool false, .int .i64 0] _ 153 rfl, trivial, trivial⟩
theorem with_one (w : World) (s : Nat) : WPost w .nil [] s (.returned (.pointer (some ⟨w.heap.size, 0, none⟩))) (w.alloc (.cells #[.pointer none, .pointer none, .bool true, .int .i64 (s : Int)] 153)) := by
 refine ⟨.node w.heap.size 0 (true, s) .nil .nil, rfl, ⟨rfl, Blk.newA w #[.pointer none, .pointer none, .bool true, .int .i64 (s : Int)] _ 153 rfl, trivial, trivial⟩, ⟨fun e => absurd e (by simp), trivial, trivial⟩, by simp [bsT], fun q => ?_, fun b hb => Or.inr (by simp [bsT] at hb; omega), (Touch.refl _ w).alloc _, (by simp [depT])⟩
 match q with
 | [] => rfl
 | false :: q => simp [atT]
 | true :: q => simp [atT]
theorem with_any (s : Nat) : ∀ (p : List Bool) (T : Tr) (w : World) (sa : Option Addr), TrAt w T → okT T → (bsT T).Nodup → PathAt w sa p → (∀ b off, sa = some ⟨b, off, none⟩ → b ∉ bsT T) →
  Calls Try.prog 103 #[T.ptr, .slice sa p.length p.length, .int .i64 (s : Int)] w (WPost w T p s) := by
 intro p
 induction p with
 | nil =>
  intro T w sa hT hok hnd hp hout
  match T, hT, hok, hnd with
  | .nil, _, _, _ =>
   show Calls Try.prog 103 #[.pointer none, .slice sa 0 0, .int .i64 (s : Int)] w _
   have HF : Hid (WPost w .nil [] s (.returned (.pointer (some ⟨w.heap.size, 0, none⟩))) (w.alloc (.cells #[.pointer none, .pointer none, .bool true, .int .i64 (s : Int)] 153))) := with_one w s
   clear hp hout
   go_enter Try.func103, Try.ntmps103
   go_wp2
   go_ret
   exact HF.out
  | .node b o a l r, hT, hok, hnd =>
   obtain ⟨rfl, hrest⟩ := hT
   have hT : TrAt w (.node b 0 a l r) := ⟨rfl, hrest⟩
   have hB := hT.2.1
   have c2 := hB.cell (i := 2) rfl
   have c3 := (hB.setCell 2 (.bool true)).cell (i := 3) rfl
   have f2 := hB.frozen 2
   have f3 := (hB.setCell 2 (.bool true)).frozen 3
   show Calls Try.prog 103 #[.pointer (some ⟨b, 0, none⟩), .slice sa 0 0, .int .i64 (s : Int)] w _
   have HF : Hid (WPost w (.node b 0 a l r) [] s (.returned (.pointer (some ⟨b, 0, none⟩))) ((w.setCell ⟨b, 2, none⟩ (.bool true)).setCell ⟨b, 3, none⟩ (.int .i64 (s : Int)))) := ⟨_, rfl, with_here hT hok hnd s⟩
   clear hp hout hB hT hrest hok hnd
   go_enter Try.func103, Try.ntmps103
   go_wp2
   go_ret
   exact HF.out
 | cons c p ih =>
  intro T w sa hT hok hnd hp hout
  obtain ⟨pb, off, rfl, hc0⟩ := hp.head
  have hpb := hout pb off rfl
  have HC0 := toHid hc0
  have hplt : pb < w.heap.size := World.block_lt_of_cell? _ _ hc0
  match T, hT, hok, hnd with
  | .nil, hT, hok, hnd =>
   have hT1 := new_at w
   have hta : Touch [] w (w.alloc (.cells #[.pointer none, .pointer none, .bool false, .int .i64 0] 153)) := (Touch.refl [] w).alloc _
   have hB := hT1.2.1
   have c0 := hB.cell (i := 0) rfl
   have c1 := hB.cell (i := 1) rfl
   have hc1 := hta.cell hc0 (by simp)
   have hp1 := hp.still hta
   have HNE : Hid (pb ≠ w.heap.size) := fun e => by omega
   have HT := toHid (And.intro hT1 hB)
   have hd : Touch [] (w.alloc (.cells #[.pointer none, .pointer none, .bool false, .int .i64 0] 153)) (w.alloc (.cells #[.pointer none, .pointer none, .bool false, .int .i64 0] 153)).drew := (Touch.refl [] _).drew
   cases c with
   | false =>
    match p, hp1, ih with
    | [], hp1, ih =>
     have H1 := toHid (ih .nil (w.alloc (.cells #[.pointer none, .pointer none, .bool false, .int .i64 0] 153)).drew (some ⟨pb, off, none⟩) trivial trivial (by simp [bsT]) (PathAt.still (PathAt.last _) hd) (fun b' off' e => by simp [bsT]))
     show Calls Try.prog 103 #[.pointer none, .slice (some ⟨pb, off, none⟩) 1 1, .int .i64 (s : Int)] w _
     simp only [List.length_nil] at H1
     have hc : (w.alloc (.cells #[.pointer none, .pointer none, .bool false, .int .i64 0] 153)).cell? ⟨pb, off, none⟩ = some (.int .i64 0) := hc1
     have HC := toHid hc
     have hcw : w.cell? ⟨pb, off, none⟩ = some (.int .i64 0) := hc0
     skip
     unfold BT.ptr at H1
     clear hp hp1 hc0 hc1 HC0 hB hok hnd hT hT1 ih hd hout hpb hta
     go_enter Try.func103, Try.ntmps103
     go_wp2_with fail
     refine wp_region_held_drew (S := fun w' => w'.cell? ⟨pb, off, none⟩ = some (.int .i64 0)) (by kernel_rfl) ?_ (fun hHeld => ?_)
     ·exact HC.out
     refine tk 0 (v := ?_) rfl ?_ ?_
     rotate_left
     ·(intro w hSw; (try dsimp only at hSw); go_simp; try with_reducible rfl)
     simp only [Act.put, AP]
     refine tk 1 (v := ?_) rfl ?_ ?_
     rotate_left
     ·(intro w hSw; (try dsimp only at hSw); go_simp; try with_reducible rfl)
     simp only [Act.put, AP]
     refine tk 2 (v := ?_) rfl ?_ ?_
     rotate_left
     ·(intro w hSw; (try dsimp only at hSw); go_simp; try with_reducible rfl)
     simp only [Act.put, AP]
     refine tk 3 (v := ?_) rfl ?_ ?_
     rotate_left
     ·(intro w hSw; (try dsimp only at hSw); go_simp; try with_reducible rfl)
     simp only [Act.put, AP]
     refine tk 4 (v := ?_) rfl ?_ ?_
     rotate_left
     ·(intro w hSw; (try dsimp only at hSw); go_simp; try with_reducible rfl)
     simp only [Act.put, AP]
     refine tk 5 (v := ?_) rfl ?_ ?_
     rotate_left
     ·(intro w hSw; (try dsimp only at hSw); go_simp; try with_reducible rfl)
     simp only [Act.put, AP]
     refine tk 6 (v := ?_) rfl ?_ ?_
     rotate_left
     ·(intro w hSw; (try dsimp only at hSw); go_simp; try with_reducible rfl)
     simp only [Act.put, AP]
     refine tk 7 (v := ?_) rfl ?_ ?_
     rotate_left
     ·(intro w hSw; (try dsimp only at hSw); go_simp; try with_reducible rfl)
     simp only [Act.put, AP]
     refine tk 8 (v := ?_) rfl ?_ ?_
     rotate_left
     ·(intro w hSw; (try dsimp only at hSw); go_simp; try with_reducible rfl)
     simp only [Act.put, AP]
     refine tk 9 (v := ?_) rfl ?_ ?_
     rotate_left
     ·(intro w hSw; (try dsimp only at hSw); go_simp; try with_reducible rfl)
     simp only [Act.put, AP]
     refine tk 10 (v := ?_) rfl ?_ ?_
     rotate_left
     ·(intro w hSw; (try dsimp only at hSw); go_simp; try with_reducible rfl)
     simp only [Act.put, AP]
     refine tk 12 (v := ?_) rfl ?_ ?_
     rotate_left
     ·(intro w hSw; (try dsimp only at hSw); go_simp; try with_reducible rfl)
     simp only [Act.put, AP]
     refine tk 13 (v := ?_) rfl ?_ ?_
     rotate_left
     ·(intro w hSw; (try dsimp only at hSw); go_simp; try with_reducible rfl)
     simp only [Act.put, AP]
     refine tk 14 (v := ?_) rfl ?_ ?_
     rotate_left
     ·(intro w hSw; (try dsimp only at hSw); go_simp; try with_reducible rfl)
     simp only [Act.put, AP]
     refine tk 16 (v := ?_) rfl ?_ ?_
     rotate_left
     ·(intro w hSw; (try dsimp only at hSw); go_simp; try with_reducible rfl)
     simp only [Act.put, AP]
     refine tk 17 (v := ?_) rfl ?_ ?_
     rotate_left
     ·(intro w hSw; (try dsimp only at hSw); go_simp; try with_reducible rfl)
     simp only [Act.put, AP]
     refine wpAnyH_ready (rs := [11]) (by kernel_rfl) (by simp) ?_
     refine AllReadyH.cons rfl (fun K hK => ?_) AllReadyH.nil
     simp only [AP]
     go_simp
     refine hK.out _ _ ?_ (fun hHeld => ?_)
     ·exact hHeld
     clear hK K
     try simp only [Act.put, AP]
     refine wpAnyH_ready (rs := [15]) (by kernel_rfl) (by simp) ?_
     refine AllReadyH.cons rfl (fun K hK => ?_) AllReadyH.nil
     simp only [AP]
     go_simp
     refine Calls.mono H1.out ?_; rintro e w2 ⟨C, rfl, hk⟩
     go_wp2_with fail
     refine hK.out _ _ ?_ (fun hHeld => ?_)
     ·exact hk.touch.cell (p := ⟨pb, off, none⟩) HC.out (by simp [bsT])
     clear hK K
     try simp only [Act.put, AP]
     refine tk 18 (v := ?_) rfl ?_ ?_
     rotate_left
     ·(intro w hSw; (try dsimp only at hSw); go_simp; try with_reducible rfl)
     simp only [Act.put, AP]
     have hB2 := hk.touch.blk (HT.out.2.drew) (by simp [bsT])
     have e0 := hB2.cell (i := 0) rfl
     have e1 := hB2.frozen 0
     have HF := toHid (with_new (with_left HT.out.1 ⟨fun _ => rfl, trivial, trivial⟩ (by simp [bsT]) ((Touch.refl [] _).drew) hk))
     rw [ptr_ad C] at *
     clear hk hB2
     generalize adT C = ca at *
     refine wpAnyH_ready (rs := [19]) (by kernel_rfl) (by simp) ?_
     refine AllReadyH.cons rfl (fun K hK => ?_) AllReadyH.nil
     simp only [AP]
     go_simp
     refine hK.out _ _ ?_ (fun _ => ?_)
     ·exact ((Touch.refl [w.heap.size] w2).setCell ⟨w.heap.size, 0, none⟩ _ (Or.inl (by simp))).cell hHeld (by simpa using HNE.out)
     clear hK K
     try simp only [Act.put, AP]
     refine wpAnyH_done (by kernel_rfl) ?_ _
     go_wp2
     go_ret
     exact ⟨_, rfl, HF.out⟩
    | x :: p, hp1, ih =>
     have H1 := toHid (ih .nil (w.alloc (.cells #[.pointer none, .pointer none, .bool false, .int .i64 0] 153)).drew (some ⟨pb, off + 1, none⟩) trivial trivial (by simp [bsT]) (PathAt.still (hp1.tail) hd) (fun b' off' e => by simp [bsT]))
     show Calls Try.prog 103 #[.pointer none, .slice (some ⟨pb, off, none⟩) (p.length + 1 + 1) (p.length + 1 + 1), .int .i64 (s : Int)] w _
     simp only [List.length_cons] at H1
     have hc : (w.alloc (.cells #[.pointer none, .pointer none, .bool false, .int .i64 0] 153)).cell? ⟨pb, off, none⟩ = some (.int .i64 0) := hc1
     have HC := toHid hc
     have hcw : w.cell? ⟨pb, off, none⟩ = some (.int .i64 0) := hc0
     have hle : (1 : Int) ≤ (p.length : Int) + 1 + 1 := by omega
     unfold BT.ptr at H1
     clear hp hp1 hc0 hc1 HC0 hB hok hnd hT hT1 ih hd hout hpb hta
     go_enter Try.func103, Try.ntmps103
     go_wp2_with fail
     refine wp_region_held_drew (S := fun w' => w'.cell? ⟨pb, off, none⟩ = some (.int .i64 0)) (by kernel_rfl) ?_ (fun hHeld => ?_)
     ·exact HC.out
     refine tk 0 (v := ?_) rfl ?_ ?_
     rotate_left
     ·(intro w hSw; (try dsimp only at hSw); go_simp; try with_reducible rfl)
     simp only [Act.put, AP]
     refine tk 1 (v := ?_) rfl ?_ ?_
     rotate_left
     ·(intro w hSw; (try dsimp only at hSw); go_simp; try with_reducible rfl)
     simp only [Act.put, AP]
     refine tk 2 (v := ?_) rfl ?_ ?_
     rotate_left
     ·(intro w hSw; (try dsimp only at hSw); go_simp; try with_reducible rfl)
     simp only [Act.put, AP]
     refine tk 3 (v := ?_) rfl ?_ ?_
     rotate_left
     ·(intro w hSw; (try dsimp only at hSw); go_simp; try with_reducible rfl)
     simp only [Act.put, AP]
     refine tk 4 (v := ?_) rfl ?_ ?_
     rotate_left
     ·(intro w hSw; (try dsimp only at hSw); go_simp; try with_reducible rfl)
     simp only [Act.put, AP]
     refine tk 5 (v := ?_) rfl ?_ ?_
     rotate_left
     ·(intro w hSw; (try dsimp only at hSw); go_simp; try with_reducible rfl)
     simp only [Act.put, AP]
     refine tk 6 (v := ?_) rfl ?_ ?_
     rotate_left
     ·(intro w hSw; (try dsimp only at hSw); go_simp; try with_reducible rfl)
     simp only [Act.put, AP]
     refine tk 7 (v := ?_) rfl ?_ ?_
     rotate_left
     ·(intro w hSw; (try dsimp only at hSw); go_simp; try with_reducible rfl)
     simp only [Act.put, AP]
     refine tk 8 (v := ?_) rfl ?_ ?_
     rotate_left
     ·(intro w hSw; (try dsimp only at hSw); go_simp; try with_reducible rfl)
     simp only [Act.put, AP]
     refine tk 9 (v := ?_) rfl ?_ ?_
     rotate_left
     ·(intro w hSw; (try dsimp only at hSw); go_simp; try with_reducible rfl)
     simp only [Act.put, AP]
     refine tk 10 (v := ?_) rfl ?_ ?_
     rotate_left
     ·(intro w hSw; (try dsimp only at hSw); go_simp; try with_reducible rfl)
     simp only [Act.put, AP]
     refine tk 12 (v := ?_) rfl ?_ ?_
     rotate_left
     ·(intro w hSw; (try dsimp only at hSw); go_simp; try with_reducible rfl)
     simp only [Act.put, AP]
     refine tk 13 (v := ?_) rfl ?_ ?_
     rotate_left
     ·(intro w hSw; (try dsimp only at hSw); go_simp; try with_reducible rfl)
     simp only [Act.put, AP]
     refine tk 14 (v := ?_) rfl ?_ ?_
     rotate_left
     ·(intro w hSw; (try dsimp only at hSw); go_simp; try with_reducible rfl)
     simp only [Act.put, AP]
     refine tk 16 (v := ?_) rfl ?_ ?_
     rotate_left
     ·(intro w hSw; (try dsimp only at hSw); go_simp; try with_reducible rfl)
     simp only [Act.put, AP]
     refine tk 17 (v := ?_) rfl ?_ ?_
     rotate_left
     ·(intro w hSw; (try dsimp only at hSw); go_simp; try with_reducible rfl)
     simp only [Act.put, AP]
     refine wpAnyH_ready (rs := [11]) (by kernel_rfl) (by simp) ?_
     refine AllReadyH.cons rfl (fun K hK => ?_) AllReadyH.nil
     simp only [AP]
     go_simp
     refine hK.out _ _ ?_ (fun hHeld => ?_)
     ·exact hHeld
     clear hK K
     try simp only [Act.put, AP]
     refine wpAnyH_ready (rs := [15]) (by kernel_rfl) (by simp) ?_
     refine AllReadyH.cons rfl (fun K hK => ?_) AllReadyH.nil
     simp only [AP]
     go_simp
     refine Calls.mono H1.out ?_; rintro e w2 ⟨C, rfl, hk⟩
     go_wp2_with fail
     refine hK.out _ _ ?_ (fun hHeld => ?_)
     ·exact hk.touch.cell (p := ⟨pb, off, none⟩) HC.out (by simp [bsT])
     clear hK K
     try simp only [Act.put, AP]
     refine tk 18 (v := ?_) rfl ?_ ?_
     rotate_left
     ·(intro w hSw; (try dsimp only at hSw); go_simp; try with_reducible rfl)
     simp only [Act.put, AP]
     have hB2 := hk.touch.blk (HT.out.2.drew) (by simp [bsT])
     have e0 := hB2.cell (i := 0) rfl
     have e1 := hB2.frozen 0
     have HF := toHid (with_new (with_left HT.out.1 ⟨fun _ => rfl, trivial, trivial⟩ (by simp [bsT]) ((Touch.refl [] _).drew) hk))
     rw [ptr_ad C] at *
     clear hk hB2
     generalize adT C = ca at *
     refine wpAnyH_ready (rs := [19]) (by kernel_rfl) (by simp) ?_
     refine AllReadyH.cons rfl (fun K hK => ?_) AllReadyH.nil
     simp only [AP]
     go_simp
     refine hK.out _ _ ?_ (fun _ => ?_)
     ·exact ((Touch.refl [w.heap.size] w2).setCell ⟨w.heap.size, 0, none⟩ _ (Or.inl (by simp))).cell hHeld (by simpa using HNE.out)
     clear hK K
     try simp only [Act.put, AP]
     refine wpAnyH_done (by kernel_rfl) ?_ _
     go_wp2
     go_ret
     exact ⟨_, rfl, HF.out⟩
   | true =>
    match p, hp1, ih with
    | [], hp1, ih =>
     have H1 := toHid (ih .nil (w.alloc (.cells #[.pointer none, .pointer none, .bool false, .int .i64 0] 153)).drew (some ⟨pb, off, none⟩) trivial trivial (by simp [bsT]) (PathAt.still (PathAt.last _) hd) (fun b' off' e => by simp [bsT]))
     show Calls Try.prog 103 #[.pointer none, .slice (some ⟨pb, off, none⟩) 1 1, .int .i64 (s : Int)] w _
     simp only [List.length_nil] at H1
     have hc : (w.alloc (.cells #[.pointer none, .pointer none, .bool false, .int .i64 0] 153)).cell? ⟨pb, off, none⟩ = some (.int .i64 1) := hc1
     have HC := toHid hc
     have hcw : w.cell? ⟨pb, off, none⟩ = some (.int .i64 1) := hc0
     skip
     unfold BT.ptr at H1
     clear hp hp1 hc0 hc1 HC0 hB hok hnd hT hT1 ih hd hout hpb hta
     go_enter Try.func103, Try.ntmps103
     go_wp2_with fail
     refine wp_region_held_drew (S := fun w' => w'.cell? ⟨pb, off, none⟩ = some (.int .i64 1)) (by kernel_rfl) ?_ (fun hHeld => ?_)
     ·exact HC.out
     refine tk 0 (v := ?_) rfl ?_ ?_
     rotate_left
     ·(intro w hSw; (try dsimp only at hSw); go_simp; try with_reducible rfl)
     simp only [Act.put, AP]
     refine tk 1 (v := ?_) rfl ?_ ?_
     rotate_left
     ·(intro w hSw; (try dsimp only at hSw); go_simp; try with_reducible rfl)
     simp only [Act.put, AP]
     refine tk 2 (v := ?_) rfl ?_ ?_
     rotate_left
     ·(intro w hSw; (try dsimp only at hSw); go_simp; try with_reducible rfl)
     simp only [Act.put, AP]
     refine tk 3 (v := ?_) rfl ?_ ?_
     rotate_left
     ·(intro w hSw; (try dsimp only at hSw); go_simp; try with_reducible rfl)
     simp only [Act.put, AP]
     refine tk 4 (v := ?_) rfl ?_ ?_
     rotate_left
     ·(intro w hSw; (try dsimp only at hSw); go_simp; try with_reducible rfl)
     simp only [Act.put, AP]
     refine tk 5 (v := ?_) rfl ?_ ?_
     rotate_left
     ·(intro w hSw; (try dsimp only at hSw); go_simp; try with_reducible rfl)
     simp only [Act.put, AP]
     refine tk 6 (v := ?_) rfl ?_ ?_
     rotate_left
     ·(intro w hSw; (try dsimp only at hSw); go_simp; try with_reducible rfl)
     simp only [Act.put, AP]
     refine tk 7 (v := ?_) rfl ?_ ?_
     rotate_left
     ·(intro w hSw; (try dsimp only at hSw); go_simp; try with_reducible rfl)
     simp only [Act.put, AP]
     refine tk 8 (v := ?_) rfl ?_ ?_
     rotate_left
     ·(intro w hSw; (try dsimp only at hSw); go_simp; try with_reducible rfl)
     simp only [Act.put, AP]
     refine tk 9 (v := ?_) rfl ?_ ?_
     rotate_left
     ·(intro w hSw; (try dsimp only at hSw); go_simp; try with_reducible rfl)
     simp only [Act.put, AP]
     refine tk 10 (v := ?_) rfl ?_ ?_
     rotate_left
     ·(intro w hSw; (try dsimp only at hSw); go_simp; try with_reducible rfl)
     simp only [Act.put, AP]
     refine tk 12 (v := ?_) rfl ?_ ?_
     rotate_left
     ·(intro w hSw; (try dsimp only at hSw); go_simp; try with_reducible rfl)
     simp only [Act.put, AP]
     refine tk 13 (v := ?_) rfl ?_ ?_
     rotate_left
     ·(intro w hSw; (try dsimp only at hSw); go_simp; try with_reducible rfl)
     simp only [Act.put, AP]
     refine tk 14 (v := ?_) rfl ?_ ?_
     rotate_left
     ·(intro w hSw; (try dsimp only at hSw); go_simp; try with_reducible rfl)
     simp only [Act.put, AP]
     refine tk 16 (v := ?_) rfl ?_ ?_
     rotate_left
     ·(intro w hSw; (try dsimp only at hSw); go_simp; try with_reducible rfl)
     simp only [Act.put, AP]
     refine tk 17 (v := ?_) rfl ?_ ?_
     rotate_left
     ·(intro w hSw; (try dsimp only at hSw); go_simp; try with_reducible rfl)
     simp only [Act.put, AP]
     refine wpAnyH_ready (rs := [11]) (by kernel_rfl) (by simp) ?_
     refine AllReadyH.cons rfl (fun K hK => ?_) AllReadyH.nil
     simp only [AP]
     go_simp
     refine hK.out _ _ ?_ (fun hHeld => ?_)
     ·exact hHeld
     clear hK K
     try simp only [Act.put, AP]
     refine wpAnyH_ready (rs := [15]) (by kernel_rfl) (by simp) ?_
     refine AllReadyH.cons rfl (fun K hK => ?_) AllReadyH.nil
     simp only [AP]
     go_simp
     refine Calls.mono H1.out ?_; rintro e w2 ⟨C, rfl, hk⟩
     go_wp2_with fail
     refine hK.out _ _ ?_ (fun hHeld => ?_)
     ·exact hk.touch.cell (p := ⟨pb, off, none⟩) HC.out (by simp [bsT])
     clear hK K
     try simp only [Act.put, AP]
     refine tk 18 (v := ?_) rfl ?_ ?_
     rotate_left
     ·(intro w hSw; (try dsimp only at hSw); go_simp; try with_reducible rfl)
     simp only [Act.put, AP]
     have hB2 := hk.touch.blk (HT.out.2.drew) (by simp [bsT])
     have e0 := hB2.cell (i := 1) rfl
     have e1 := hB2.frozen 1
     have HF := toHid (with_new (with_right HT.out.1 ⟨fun _ => rfl, trivial, trivial⟩ (by simp [bsT]) ((Touch.refl [] _).drew) hk))
     rw [ptr_ad C] at *
     clear hk hB2
     generalize adT C = ca at *
     refine wpAnyH_ready (rs := [19]) (by kernel_rfl) (by simp) ?_
     refine AllReadyH.cons rfl (fun K hK => ?_) AllReadyH.nil
     simp only [AP]
     go_simp
     refine hK.out _ _ ?_ (fun _ => ?_)
     ·exact ((Touch.refl [w.heap.size] w2).setCell ⟨w.heap.size, 1, none⟩ _ (Or.inl (by simp))).cell hHeld (by simpa using HNE.out)
     clear hK K
     try simp only [Act.put, AP]
     refine wpAnyH_done (by kernel_rfl) ?_ _
     go_wp2
     go_ret
     exact ⟨_, rfl, HF.out⟩
    | x :: p, hp1, ih =>
     have H1 := toHid (ih .nil (w.alloc (.cells #[.pointer none, .pointer none, .bool false, .int .i64 0] 153)).drew (some ⟨pb, off + 1, none⟩) trivial trivial (by simp [bsT]) (PathAt.still (hp1.tail) hd) (fun b' off' e => by simp [bsT]))
     show Calls Try.prog 103 #[.pointer none, .slice (some ⟨pb, off, none⟩) (p.length + 1 + 1) (p.length + 1 + 1), .int .i64 (s : Int)] w _
     simp only [List.length_cons] at H1
     have hc : (w.alloc (.cells #[.pointer none, .pointer none, .bool false, .int .i64 0] 153)).cell? ⟨pb, off, none⟩ = some (.int .i64 1) := hc1
     have HC := toHid hc
     have hcw : w.cell? ⟨pb, off, none⟩ = some (.int .i64 1) := hc0
     have hle : (1 : Int) ≤ (p.length : Int) + 1 + 1 := by omega
     unfold BT.ptr at H1
     clear hp hp1 hc0 hc1 HC0 hB hok hnd hT hT1 ih hd hout hpb hta
     go_enter Try.func103, Try.ntmps103
     go_wp2_with fail
     refine wp_region_held_drew (S := fun w' => w'.cell? ⟨pb, off, none⟩ = some (.int .i64 1)) (by kernel_rfl) ?_ (fun hHeld => ?_)
     ·exact HC.out
     refine tk 0 (v := ?_) rfl ?_ ?_
     rotate_left
     ·(intro w hSw; (try dsimp only at hSw); go_simp; try with_reducible rfl)
     simp only [Act.put, AP]
     refine tk 1 (v := ?_) rfl ?_ ?_
     rotate_left
     ·(intro w hSw; (try dsimp only at hSw); go_simp; try with_reducible rfl)
     simp only [Act.put, AP]
     refine tk 2 (v := ?_) rfl ?_ ?_
     rotate_left
     ·(intro w hSw; (try dsimp only at hSw); go_simp; try with_reducible rfl)
     simp only [Act.put, AP]
     refine tk 3 (v := ?_) rfl ?_ ?_
     rotate_left
     ·(intro w hSw; (try dsimp only at hSw); go_simp; try with_reducible rfl)
     simp only [Act.put, AP]
     refine tk 4 (v := ?_) rfl ?_ ?_
     rotate_left
     ·(intro w hSw; (try dsimp only at hSw); go_simp; try with_reducible rfl)
     simp only [Act.put, AP]
     refine tk 5 (v := ?_) rfl ?_ ?_
     rotate_left
     ·(intro w hSw; (try dsimp only at hSw); go_simp; try with_reducible rfl)
     simp only [Act.put, AP]
     refine tk 6 (v := ?_) rfl ?_ ?_
     rotate_left
     ·(intro w hSw; (try dsimp only at hSw); go_simp; try with_reducible rfl)
     simp only [Act.put, AP]
     refine tk 7 (v := ?_) rfl ?_ ?_
     rotate_left
     ·(intro w hSw; (try dsimp only at hSw); go_simp; try with_reducible rfl)
     simp only [Act.put, AP]
     refine tk 8 (v := ?_) rfl ?_ ?_
     rotate_left
     ·(intro w hSw; (try dsimp only at hSw); go_simp; try with_reducible rfl)
     simp only [Act.put, AP]
     refine tk 9 (v := ?_) rfl ?_ ?_
     rotate_left
     ·(intro w hSw; (try dsimp only at hSw); go_simp; try with_reducible rfl)
     simp only [Act.put, AP]
     refine tk 10 (v := ?_) rfl ?_ ?_
     rotate_left
     ·(intro w hSw; (try dsimp only at hSw); go_simp; try with_reducible rfl)
     simp only [Act.put, AP]
     refine tk 12 (v := ?_) rfl ?_ ?_
     rotate_left
     ·(intro w hSw; (try dsimp only at hSw); go_simp; try with_reducible rfl)
     simp only [Act.put, AP]
     refine tk 13 (v := ?_) rfl ?_ ?_
     rotate_left
     ·(intro w hSw; (try dsimp only at hSw); go_simp; try with_reducible rfl)
     simp only [Act.put, AP]
     refine tk 14 (v := ?_) rfl ?_ ?_
     rotate_left
     ·(intro w hSw; (try dsimp only at hSw); go_simp; try with_reducible rfl)
     simp only [Act.put, AP]
     refine tk 16 (v := ?_) rfl ?_ ?_
     rotate_left
     ·(intro w hSw; (try dsimp only at hSw); go_simp; try with_reducible rfl)
     simp only [Act.put, AP]
     refine tk 17 (v := ?_) rfl ?_ ?_
     rotate_left
     ·(intro w hSw; (try dsimp only at hSw); go_simp; try with_reducible rfl)
     simp only [Act.put, AP]
     refine wpAnyH_ready (rs := [11]) (by kernel_rfl) (by simp) ?_
     refine AllReadyH.cons rfl (fun K hK => ?_) AllReadyH.nil
     simp only [AP]
     go_simp
     refine hK.out _ _ ?_ (fun hHeld => ?_)
     ·exact hHeld
     clear hK K
     try simp only [Act.put, AP]
     refine wpAnyH_ready (rs := [15]) (by kernel_rfl) (by simp) ?_
     refine AllReadyH.cons rfl (fun K hK => ?_) AllReadyH.nil
     simp only [AP]
     go_simp
     refine Calls.mono H1.out ?_; rintro e w2 ⟨C, rfl, hk⟩
     go_wp2_with fail
     refine hK.out _ _ ?_ (fun hHeld => ?_)
     ·exact hk.touch.cell (p := ⟨pb, off, none⟩) HC.out (by simp [bsT])
     clear hK K
     try simp only [Act.put, AP]
     refine tk 18 (v := ?_) rfl ?_ ?_
     rotate_left
     ·(intro w hSw; (try dsimp only at hSw); go_simp; try with_reducible rfl)
     simp only [Act.put, AP]
     have hB2 := hk.touch.blk (HT.out.2.drew) (by simp [bsT])
     have e0 := hB2.cell (i := 1) rfl
     have e1 := hB2.frozen 1
     have HF := toHid (with_new (with_right HT.out.1 ⟨fun _ => rfl, trivial, trivial⟩ (by simp [bsT]) ((Touch.refl [] _).drew) hk))
     rw [ptr_ad C] at *
     clear hk hB2
     generalize adT C = ca at *
     refine wpAnyH_ready (rs := [19]) (by kernel_rfl) (by simp) ?_
     refine AllReadyH.cons rfl (fun K hK => ?_) AllReadyH.nil
     simp only [AP]
     go_simp
     refine hK.out _ _ ?_ (fun _ => ?_)
     ·exact ((Touch.refl [w.heap.size] w2).setCell ⟨w.heap.size, 1, none⟩ _ (Or.inl (by simp))).cell hHeld (by simpa using HNE.out)
     clear hK K
     try simp only [Act.put, AP]
     refine wpAnyH_done (by kernel_rfl) ?_ _
     go_wp2
     go_ret
     exact ⟨_, rfl, HF.out⟩
  | .node b o a l r, hT, hok, hnd =>
   obtain ⟨rfl, hrest⟩ := hT
   have hT : TrAt w (.node b 0 a l r) := ⟨rfl, hrest⟩
   have hB := hT.2.1
   have c0 := hB.cell (i := 0) rfl
   have c1 := hB.cell (i := 1) rfl
   obtain ⟨n1, n2, n3, n4, n5⟩ := nd_node hnd
   have hpl : pb ∉ bsT l ∧ pb ∉ bsT r := ⟨fun hx => hpb (by simp [bsT, hx]), fun hx => hpb (by simp [bsT, hx])⟩
   have HT := toHid (And.intro hT (And.intro hok (And.intro hnd (And.intro hB hpl))))
   have hd : Touch [] w w.drew := (Touch.refl [] w).drew
   cases c with
   | false =>
    match p, hp, ih with
    | [], hp, ih =>
     have H1 := toHid (ih l w.drew (some ⟨pb, off, none⟩) (hT.2.2.1.touch hd (by simp)) hok.2.1 n3 (PathAt.still (PathAt.last _) hd) (fun b' off' e => by injection e with e; injection e with e1; subst e1; exact hpl.1))
     show Calls Try.prog 103 #[.pointer (some ⟨b, 0, none⟩), .slice (some ⟨pb, off, none⟩) 1 1, .int .i64 (s : Int)] w _
     simp only [List.length_nil] at H1
     have hc : w.cell? ⟨pb, off, none⟩ = some (.int .i64 0) := hc0
     have HC := toHid hc
     skip
     rw [ptr_ad l] at H1 c0
     have HB := toHid hB
     have HNE : Hid (pb ≠ b) := fun e => hpb (by simp [bsT, e])
     clear hp hc0 HC0 hB hok hnd hT hrest ih hd n1 n2 n3 n4 n5 hpl hout hpb
     go_enter Try.func103, Try.ntmps103
     go_wp2_with fail
     refine wp_region_held_drew (S := fun w' => w'.cell? ⟨pb, off, none⟩ = some (.int .i64 0)) (by kernel_rfl) ?_ (fun hHeld => ?_)
     ·exact HC.out
     refine tk 0 (v := ?_) rfl ?_ ?_
     rotate_left
     ·(intro w hSw; (try dsimp only at hSw); go_simp; try with_reducible rfl)
     simp only [Act.put, AP]
     refine tk 1 (v := ?_) rfl ?_ ?_
     rotate_left
     ·(intro w hSw; (try dsimp only at hSw); go_simp; try with_reducible rfl)
     simp only [Act.put, AP]
     refine tk 2 (v := ?_) rfl ?_ ?_
     rotate_left
     ·(intro w hSw; (try dsimp only at hSw); go_simp; try with_reducible rfl)
     simp only [Act.put, AP]
     refine tk 3 (v := ?_) rfl ?_ ?_
     rotate_left
     ·(intro w hSw; (try dsimp only at hSw); go_simp; try with_reducible rfl)
     simp only [Act.put, AP]
     refine tk 4 (v := ?_) rfl ?_ ?_
     rotate_left
     ·(intro w hSw; (try dsimp only at hSw); go_simp; try with_reducible rfl)
     simp only [Act.put, AP]
     refine tk 5 (v := ?_) rfl ?_ ?_
     rotate_left
     ·(intro w hSw; (try dsimp only at hSw); go_simp; try with_reducible rfl)
     simp only [Act.put, AP]
     refine tk 6 (v := ?_) rfl ?_ ?_
     rotate_left
     ·(intro w hSw; (try dsimp only at hSw); go_simp; try with_reducible rfl)
     simp only [Act.put, AP]
     refine tk 7 (v := ?_) rfl ?_ ?_
     rotate_left
     ·(intro w hSw; (try dsimp only at hSw); go_simp; try with_reducible rfl)
     simp only [Act.put, AP]
     refine tk 8 (v := ?_) rfl ?_ ?_
     rotate_left
     ·(intro w hSw; (try dsimp only at hSw); go_simp; try with_reducible rfl)
     simp only [Act.put, AP]
     refine tk 9 (v := ?_) rfl ?_ ?_
     rotate_left
     ·(intro w hSw; (try dsimp only at hSw); go_simp; try with_reducible rfl)
     simp only [Act.put, AP]
     refine tk 10 (v := ?_) rfl ?_ ?_
     rotate_left
     ·(intro w hSw; (try dsimp only at hSw); go_simp; try with_reducible rfl)
     simp only [Act.put, AP]
     refine tk 12 (v := ?_) rfl ?_ ?_
     rotate_left
     ·(intro w hSw; (try dsimp only at hSw); go_simp; try with_reducible rfl)
     simp only [Act.put, AP]
     refine tk 13 (v := ?_) rfl ?_ ?_
     rotate_left
     ·(intro w hSw; (try dsimp only at hSw); go_simp; try with_reducible rfl)
     simp only [Act.put, AP]
     refine tk 14 (v := ?_) rfl ?_ ?_
     rotate_left
     ·(intro w hSw; (try dsimp only at hSw); go_simp; try with_reducible rfl)
     simp only [Act.put, AP]
     refine tk 16 (v := ?_) rfl ?_ ?_
     rotate_left
     ·(intro w hSw; (try dsimp only at hSw); go_simp; try with_reducible rfl)
     simp only [Act.put, AP]
     refine tk 17 (v := ?_) rfl ?_ ?_
     rotate_left
     ·(intro w hSw; (try dsimp only at hSw); go_simp; try with_reducible rfl)
     simp only [Act.put, AP]
     refine wpAnyH_ready (rs := [11]) (by kernel_rfl) (by simp) ?_
     refine AllReadyH.cons rfl (fun K hK => ?_) AllReadyH.nil
     simp only [AP]
     go_simp
     refine hK.out _ _ ?_ (fun hHeld => ?_)
     ·exact hHeld
     clear hK K
     try simp only [Act.put, AP]
     refine wpAnyH_ready (rs := [15]) (by kernel_rfl) (by simp) ?_
     refine AllReadyH.cons rfl (fun K hK => ?_) AllReadyH.nil
     simp only [AP]
     go_simp
     refine Calls.mono H1.out ?_; rintro e w2 ⟨C, rfl, hk⟩
     go_wp2_with fail
     refine hK.out _ _ ?_ (fun hHeld => ?_)
     ·exact hk.touch.cell (p := ⟨pb, off, none⟩) HC.out HT.out.2.2.2.2.1
     clear hK K
     try simp only [Act.put, AP]
     refine tk 18 (v := ?_) rfl ?_ ?_
     rotate_left
     ·(intro w hSw; (try dsimp only at hSw); go_simp; try with_reducible rfl)
     simp only [Act.put, AP]
     have hB2 := hk.touch.blk (HB.out.drew) (nd_node HT.out.2.2.1).1
     have e0 := hB2.cell (i := 0) rfl
     have e1 := hB2.frozen 0
     have HF := toHid (And.intro (with_left HT.out.1 HT.out.2.1 HT.out.2.2.1 ((Touch.refl [] w).drew) hk) HT.out.2.2.2.2)
     rw [ptr_ad C] at *
     clear hk hB2
     generalize adT C = ca at *
     refine wpAnyH_ready (rs := [19]) (by kernel_rfl) (by simp) ?_
     refine AllReadyH.cons rfl (fun K hK => ?_) AllReadyH.nil
     simp only [AP]
     go_simp
     refine hK.out _ _ ?_ (fun _ => ?_)
     ·exact ((Touch.refl [b] w2).setCell ⟨b, 0, none⟩ _ (Or.inl (by simp))).cell hHeld (by simpa using HNE.out)
     clear hK K
     try simp only [Act.put, AP]
     refine wpAnyH_done (by kernel_rfl) ?_ _
     go_wp2
     go_ret
     exact ⟨_, rfl, HF.out.1⟩
    | x :: p, hp, ih =>
     have H1 := toHid (ih l w.drew (some ⟨pb, off + 1, none⟩) (hT.2.2.1.touch hd (by simp)) hok.2.1 n3 (PathAt.still (hp.tail) hd) (fun b' off' e => by injection e with e; injection e with e1; subst e1; exact hpl.1))
     show Calls Try.prog 103 #[.pointer (some ⟨b, 0, none⟩), .slice (some ⟨pb, off, none⟩) (p.length + 1 + 1) (p.length + 1 + 1), .int .i64 (s : Int)] w _
     simp only [List.length_cons] at H1
     have hc : w.cell? ⟨pb, off, none⟩ = some (.int .i64 0) := hc0
     have HC := toHid hc
     have hle : (1 : Int) ≤ (p.length : Int) + 1 + 1 := by omega
     rw [ptr_ad l] at H1 c0
     have HB := toHid hB
     have HNE : Hid (pb ≠ b) := fun e => hpb (by simp [bsT, e])
     clear hp hc0 HC0 hB hok hnd hT hrest ih hd n1 n2 n3 n4 n5 hpl hout hpb
     go_enter Try.func103, Try.ntmps103
     go_wp2_with fail
     refine wp_region_held_drew (S := fun w' => w'.cell? ⟨pb, off, none⟩ = some (.int .i64 0)) (by kernel_rfl) ?_ (fun hHeld => ?_)
     ·exact HC.out
     refine tk 0 (v := ?_) rfl ?_ ?_
     rotate_left
     ·(intro w hSw; (try dsimp only at hSw); go_simp; try with_reducible rfl)
     simp only [Act.put, AP]
     refine tk 1 (v := ?_) rfl ?_ ?_
     rotate_left
     ·(intro w hSw; (try dsimp only at hSw); go_simp; try with_reducible rfl)
     simp only [Act.put, AP]
     refine tk 2 (v := ?_) rfl ?_ ?_
     rotate_left
     ·(intro w hSw; (try dsimp only at hSw); go_simp; try with_reducible rfl)
     simp only [Act.put, AP]
     refine tk 3 (v := ?_) rfl ?_ ?_
     rotate_left
     ·(intro w hSw; (try dsimp only at hSw); go_simp; try with_reducible rfl)
     simp only [Act.put, AP]
     refine tk 4 (v := ?_) rfl ?_ ?_
     rotate_left
     ·(intro w hSw; (try dsimp only at hSw); go_simp; try with_reducible rfl)
     simp only [Act.put, AP]
     refine tk 5 (v := ?_) rfl ?_ ?_
     rotate_left
     ·(intro w hSw; (try dsimp only at hSw); go_simp; try with_reducible rfl)
     simp only [Act.put, AP]
     refine tk 6 (v := ?_) rfl ?_ ?_
     rotate_left
     ·(intro w hSw; (try dsimp only at hSw); go_simp; try with_reducible rfl)
     simp only [Act.put, AP]
     refine tk 7 (v := ?_) rfl ?_ ?_
     rotate_left
     ·(intro w hSw; (try dsimp only at hSw); go_simp; try with_reducible rfl)
     simp only [Act.put, AP]
     refine tk 8 (v := ?_) rfl ?_ ?_
     rotate_left
     ·(intro w hSw; (try dsimp only at hSw); go_simp; try with_reducible rfl)
     simp only [Act.put, AP]
     refine tk 9 (v := ?_) rfl ?_ ?_
     rotate_left
     ·(intro w hSw; (try dsimp only at hSw); go_simp; try with_reducible rfl)
     simp only [Act.put, AP]
     refine tk 10 (v := ?_) rfl ?_ ?_
     rotate_left
     ·(intro w hSw; (try dsimp only at hSw); go_simp; try with_reducible rfl)
     simp only [Act.put, AP]
     refine tk 12 (v := ?_) rfl ?_ ?_
     rotate_left
     ·(intro w hSw; (try dsimp only at hSw); go_simp; try with_reducible rfl)
     simp only [Act.put, AP]
     refine tk 13 (v := ?_) rfl ?_ ?_
     rotate_left
     ·(intro w hSw; (try dsimp only at hSw); go_simp; try with_reducible rfl)
     simp only [Act.put, AP]
     refine tk 14 (v := ?_) rfl ?_ ?_
     rotate_left
     ·(intro w hSw; (try dsimp only at hSw); go_simp; try with_reducible rfl)
     simp only [Act.put, AP]
     refine tk 16 (v := ?_) rfl ?_ ?_
     rotate_left
     ·(intro w hSw; (try dsimp only at hSw); go_simp; try with_reducible rfl)
     simp only [Act.put, AP]
     refine tk 17 (v := ?_) rfl ?_ ?_
     rotate_left
     ·(intro w hSw; (try dsimp only at hSw); go_simp; try with_reducible rfl)
     simp only [Act.put, AP]
     refine wpAnyH_ready (rs := [11]) (by kernel_rfl) (by simp) ?_
     refine AllReadyH.cons rfl (fun K hK => ?_) AllReadyH.nil
     simp only [AP]
     go_simp
     refine hK.out _ _ ?_ (fun hHeld => ?_)
     ·exact hHeld
     clear hK K
     try simp only [Act.put, AP]
     refine wpAnyH_ready (rs := [15]) (by kernel_rfl) (by simp) ?_
     refine AllReadyH.cons rfl (fun K hK => ?_) AllReadyH.nil
     simp only [AP]
     go_simp
     refine Calls.mono H1.out ?_; rintro e w2 ⟨C, rfl, hk⟩
     go_wp2_with fail
     refine hK.out _ _ ?_ (fun hHeld => ?_)
     ·exact hk.touch.cell (p := ⟨pb, off, none⟩) HC.out HT.out.2.2.2.2.1
     clear hK K
     try simp only [Act.put, AP]
     refine tk 18 (v := ?_) rfl ?_ ?_
     rotate_left
     ·(intro w hSw; (try dsimp only at hSw); go_simp; try with_reducible rfl)
     simp only [Act.put, AP]
     have hB2 := hk.touch.blk (HB.out.drew) (nd_node HT.out.2.2.1).1
     have e0 := hB2.cell (i := 0) rfl
     have e1 := hB2.frozen 0
     have HF := toHid (And.intro (with_left HT.out.1 HT.out.2.1 HT.out.2.2.1 ((Touch.refl [] w).drew) hk) HT.out.2.2.2.2)
     rw [ptr_ad C] at *
     clear hk hB2
     generalize adT C = ca at *
     refine wpAnyH_ready (rs := [19]) (by kernel_rfl) (by simp) ?_
     refine AllReadyH.cons rfl (fun K hK => ?_) AllReadyH.nil
     simp only [AP]
     go_simp
     refine hK.out _ _ ?_ (fun _ => ?_)
     ·exact ((Touch.refl [b] w2).setCell ⟨b, 0, none⟩ _ (Or.inl (by simp))).cell hHeld (by simpa using HNE.out)
     clear hK K
     try simp only [Act.put, AP]
     refine wpAnyH_done (by kernel_rfl) ?_ _
     go_wp2
     go_ret
     exact ⟨_, rfl, HF.out.1⟩
   | true =>
    match p, hp, ih with
    | [], hp, ih =>
     have H1 := toHid (ih r w.drew (some ⟨pb, off, none⟩) (hT.2.2.2.touch hd (by simp)) hok.2.2 n4 (PathAt.still (PathAt.last _) hd) (fun b' off' e => by injection e with e; injection e with e1; subst e1; exact hpl.2))
     show Calls Try.prog 103 #[.pointer (some ⟨b, 0, none⟩), .slice (some ⟨pb, off, none⟩) 1 1, .int .i64 (s : Int)] w _
     simp only [List.length_nil] at H1
     have hc : w.cell? ⟨pb, off, none⟩ = some (.int .i64 1) := hc0
     have HC := toHid hc
     skip
     rw [ptr_ad r] at H1 c1
     have HB := toHid hB
     have HNE : Hid (pb ≠ b) := fun e => hpb (by simp [bsT, e])
     clear hp hc0 HC0 hB hok hnd hT hrest ih hd n1 n2 n3 n4 n5 hpl hout hpb
     go_enter Try.func103, Try.ntmps103
     go_wp2_with fail
     refine wp_region_held_drew (S := fun w' => w'.cell? ⟨pb, off, none⟩ = some (.int .i64 1)) (by kernel_rfl) ?_ (fun hHeld => ?_)
     ·exact HC.out
     refine tk 0 (v := ?_) rfl ?_ ?_
     rotate_left
     ·(intro w hSw; (try dsimp only at hSw); go_simp; try with_reducible rfl)
     simp only [Act.put, AP]
     refine tk 1 (v := ?_) rfl ?_ ?_
     rotate_left
     ·(intro w hSw; (try dsimp only at hSw); go_simp; try with_reducible rfl)
     simp only [Act.put, AP]
     refine tk 2 (v := ?_) rfl ?_ ?_
     rotate_left
     ·(intro w hSw; (try dsimp only at hSw); go_simp; try with_reducible rfl)
     simp only [Act.put, AP]
     refine tk 3 (v := ?_) rfl ?_ ?_
     rotate_left
     ·(intro w hSw; (try dsimp only at hSw); go_simp; try with_reducible rfl)
     simp only [Act.put, AP]
     refine tk 4 (v := ?_) rfl ?_ ?_
     rotate_left
     ·(intro w hSw; (try dsimp only at hSw); go_simp; try with_reducible rfl)
     simp only [Act.put, AP]
     refine tk 5 (v := ?_) rfl ?_ ?_
     rotate_left
     ·(intro w hSw; (try dsimp only at hSw); go_simp; try with_reducible rfl)
     simp only [Act.put, AP]
     refine tk 6 (v := ?_) rfl ?_ ?_
     rotate_left
     ·(intro w hSw; (try dsimp only at hSw); go_simp; try with_reducible rfl)
     simp only [Act.put, AP]
     refine tk 7 (v := ?_) rfl ?_ ?_
     rotate_left
     ·(intro w hSw; (try dsimp only at hSw); go_simp; try with_reducible rfl)
     simp only [Act.put, AP]
     refine tk 8 (v := ?_) rfl ?_ ?_
     rotate_left
     ·(intro w hSw; (try dsimp only at hSw); go_simp; try with_reducible rfl)
     simp only [Act.put, AP]
     refine tk 9 (v := ?_) rfl ?_ ?_
     rotate_left
     ·(intro w hSw; (try dsimp only at hSw); go_simp; try with_reducible rfl)
     simp only [Act.put, AP]
     refine tk 10 (v := ?_) rfl ?_ ?_
     rotate_left
     ·(intro w hSw; (try dsimp only at hSw); go_simp; try with_reducible rfl)
     simp only [Act.put, AP]
     refine tk 12 (v := ?_) rfl ?_ ?_
     rotate_left
     ·(intro w hSw; (try dsimp only at hSw); go_simp; try with_reducible rfl)
     simp only [Act.put, AP]
     refine tk 13 (v := ?_) rfl ?_ ?_
     rotate_left
     ·(intro w hSw; (try dsimp only at hSw); go_simp; try with_reducible rfl)
     simp only [Act.put, AP]
     refine tk 14 (v := ?_) rfl ?_ ?_
     rotate_left
     ·(intro w hSw; (try dsimp only at hSw); go_simp; try with_reducible rfl)
     simp only [Act.put, AP]
     refine tk 16 (v := ?_) rfl ?_ ?_
     rotate_left
     ·(intro w hSw; (try dsimp only at hSw); go_simp; try with_reducible rfl)
     simp only [Act.put, AP]
     refine tk 17 (v := ?_) rfl ?_ ?_
     rotate_left
     ·(intro w hSw; (try dsimp only at hSw); go_simp; try with_reducible rfl)
     simp only [Act.put, AP]
     refine wpAnyH_ready (rs := [11]) (by kernel_rfl) (by simp) ?_
     refine AllReadyH.cons rfl (fun K hK => ?_) AllReadyH.nil
     simp only [AP]
     go_simp
     refine hK.out _ _ ?_ (fun hHeld => ?_)
     ·exact hHeld
     clear hK K
     try simp only [Act.put, AP]
     refine wpAnyH_ready (rs := [15]) (by kernel_rfl) (by simp) ?_
     refine AllReadyH.cons rfl (fun K hK => ?_) AllReadyH.nil
     simp only [AP]
     go_simp
     refine Calls.mono H1.out ?_; rintro e w2 ⟨C, rfl, hk⟩
     go_wp2_with fail
     refine hK.out _ _ ?_ (fun hHeld => ?_)
     ·exact hk.touch.cell (p := ⟨pb, off, none⟩) HC.out HT.out.2.2.2.2.2
     clear hK K
     try simp only [Act.put, AP]
     refine tk 18 (v := ?_) rfl ?_ ?_
     rotate_left
     ·(intro w hSw; (try dsimp only at hSw); go_simp; try with_reducible rfl)
     simp only [Act.put, AP]
     have hB2 := hk.touch.blk (HB.out.drew) (nd_node HT.out.2.2.1).2.1
     have e0 := hB2.cell (i := 1) rfl
     have e1 := hB2.frozen 1
     have HF := toHid (And.intro (with_right HT.out.1 HT.out.2.1 HT.out.2.2.1 ((Touch.refl [] w).drew) hk) HT.out.2.2.2.2)
     rw [ptr_ad C] at *
     clear hk hB2
     generalize adT C = ca at *
     refine wpAnyH_ready (rs := [19]) (by kernel_rfl) (by simp) ?_
     refine AllReadyH.cons rfl (fun K hK => ?_) AllReadyH.nil
     simp only [AP]
     go_simp
     refine hK.out _ _ ?_ (fun _ => ?_)
     ·exact ((Touch.refl [b] w2).setCell ⟨b, 1, none⟩ _ (Or.inl (by simp))).cell hHeld (by simpa using HNE.out)
     clear hK K
     try simp only [Act.put, AP]
     refine wpAnyH_done (by kernel_rfl) ?_ _
     go_wp2
     go_ret
     exact ⟨_, rfl, HF.out.1⟩
    | x :: p, hp, ih =>
     have H1 := toHid (ih r w.drew (some ⟨pb, off + 1, none⟩) (hT.2.2.2.touch hd (by simp)) hok.2.2 n4 (PathAt.still (hp.tail) hd) (fun b' off' e => by injection e with e; injection e with e1; subst e1; exact hpl.2))
     show Calls Try.prog 103 #[.pointer (some ⟨b, 0, none⟩), .slice (some ⟨pb, off, none⟩) (p.length + 1 + 1) (p.length + 1 + 1), .int .i64 (s : Int)] w _
     simp only [List.length_cons] at H1
     have hc : w.cell? ⟨pb, off, none⟩ = some (.int .i64 1) := hc0
     have HC := toHid hc
     have hle : (1 : Int) ≤ (p.length : Int) + 1 + 1 := by omega
     rw [ptr_ad r] at H1 c1
     have HB := toHid hB
     have HNE : Hid (pb ≠ b) := fun e => hpb (by simp [bsT, e])
     clear hp hc0 HC0 hB hok hnd hT hrest ih hd n1 n2 n3 n4 n5 hpl hout hpb
     go_enter Try.func103, Try.ntmps103
     go_wp2_with fail
     refine wp_region_held_drew (S := fun w' => w'.cell? ⟨pb, off, none⟩ = some (.int .i64 1)) (by kernel_rfl) ?_ (fun hHeld => ?_)
     ·exact HC.out
     refine tk 0 (v := ?_) rfl ?_ ?_
     rotate_left
     ·(intro w hSw; (try dsimp only at hSw); go_simp; try with_reducible rfl)
     simp only [Act.put, AP]
     refine tk 1 (v := ?_) rfl ?_ ?_
     rotate_left
     ·(intro w hSw; (try dsimp only at hSw); go_simp; try with_reducible rfl)
     simp only [Act.put, AP]
     refine tk 2 (v := ?_) rfl ?_ ?_
     rotate_left
     ·(intro w hSw; (try dsimp only at hSw); go_simp; try with_reducible rfl)
     simp only [Act.put, AP]
     refine tk 3 (v := ?_) rfl ?_ ?_
     rotate_left
     ·(intro w hSw; (try dsimp only at hSw); go_simp; try with_reducible rfl)
     simp only [Act.put, AP]
     refine tk 4 (v := ?_) rfl ?_ ?_
     rotate_left
     ·(intro w hSw; (try dsimp only at hSw); go_simp; try with_reducible rfl)
     simp only [Act.put, AP]
     refine tk 5 (v := ?_) rfl ?_ ?_
     rotate_left
     ·(intro w hSw; (try dsimp only at hSw); go_simp; try with_reducible rfl)
     simp only [Act.put, AP]
     refine tk 6 (v := ?_) rfl ?_ ?_
     rotate_left
     ·(intro w hSw; (try dsimp only at hSw); go_simp; try with_reducible rfl)
     simp only [Act.put, AP]
     refine tk 7 (v := ?_) rfl ?_ ?_
     rotate_left
     ·(intro w hSw; (try dsimp only at hSw); go_simp; try with_reducible rfl)
     simp only [Act.put, AP]
     refine tk 8 (v := ?_) rfl ?_ ?_
     rotate_left
     ·(intro w hSw; (try dsimp only at hSw); go_simp; try with_reducible rfl)
     simp only [Act.put, AP]
     refine tk 9 (v := ?_) rfl ?_ ?_
     rotate_left
     ·(intro w hSw; (try dsimp only at hSw); go_simp; try with_reducible rfl)
     simp only [Act.put, AP]
     refine tk 10 (v := ?_) rfl ?_ ?_
     rotate_left
     ·(intro w hSw; (try dsimp only at hSw); go_simp; try with_reducible rfl)
     simp only [Act.put, AP]
     refine tk 12 (v := ?_) rfl ?_ ?_
     rotate_left
     ·(intro w hSw; (try dsimp only at hSw); go_simp; try with_reducible rfl)
     simp only [Act.put, AP]
     refine tk 13 (v := ?_) rfl ?_ ?_
     rotate_left
     ·(intro w hSw; (try dsimp only at hSw); go_simp; try with_reducible rfl)
     simp only [Act.put, AP]
     refine tk 14 (v := ?_) rfl ?_ ?_
     rotate_left
     ·(intro w hSw; (try dsimp only at hSw); go_simp; try with_reducible rfl)
     simp only [Act.put, AP]
     refine tk 16 (v := ?_) rfl ?_ ?_
     rotate_left
     ·(intro w hSw; (try dsimp only at hSw); go_simp; try with_reducible rfl)
     simp only [Act.put, AP]
     refine tk 17 (v := ?_) rfl ?_ ?_
     rotate_left
     ·(intro w hSw; (try dsimp only at hSw); go_simp; try with_reducible rfl)
     simp only [Act.put, AP]
     refine wpAnyH_ready (rs := [11]) (by kernel_rfl) (by simp) ?_
     refine AllReadyH.cons rfl (fun K hK => ?_) AllReadyH.nil
     simp only [AP]
     go_simp
     refine hK.out _ _ ?_ (fun hHeld => ?_)
     ·exact hHeld
     clear hK K
     try simp only [Act.put, AP]
     refine wpAnyH_ready (rs := [15]) (by kernel_rfl) (by simp) ?_
     refine AllReadyH.cons rfl (fun K hK => ?_) AllReadyH.nil
     simp only [AP]
     go_simp
     refine Calls.mono H1.out ?_; rintro e w2 ⟨C, rfl, hk⟩
     go_wp2_with fail
     refine hK.out _ _ ?_ (fun hHeld => ?_)
     ·exact hk.touch.cell (p := ⟨pb, off, none⟩) HC.out HT.out.2.2.2.2.2
     clear hK K
     try simp only [Act.put, AP]
     refine tk 18 (v := ?_) rfl ?_ ?_
     rotate_left
     ·(intro w hSw; (try dsimp only at hSw); go_simp; try with_reducible rfl)
     simp only [Act.put, AP]
     have hB2 := hk.touch.blk (HB.out.drew) (nd_node HT.out.2.2.1).2.1
     have e0 := hB2.cell (i := 1) rfl
     have e1 := hB2.frozen 1
     have HF := toHid (And.intro (with_right HT.out.1 HT.out.2.1 HT.out.2.2.1 ((Touch.refl [] w).drew) hk) HT.out.2.2.2.2)
     rw [ptr_ad C] at *
     clear hk hB2
     generalize adT C = ca at *
     refine wpAnyH_ready (rs := [19]) (by kernel_rfl) (by simp) ?_
     refine AllReadyH.cons rfl (fun K hK => ?_) AllReadyH.nil
     simp only [AP]
     go_simp
     refine hK.out _ _ ?_ (fun _ => ?_)
     ·exact ((Touch.refl [b] w2).setCell ⟨b, 1, none⟩ _ (Or.inl (by simp))).cell hHeld (by simpa using HNE.out)
     clear hK K
     try simp only [Act.put, AP]
     refine wpAnyH_done (by kernel_rfl) ?_ _
     go_wp2
     go_ret
     exact ⟨_, rfl, HF.out.1⟩
end Go.Proofs.Ytmhhahmjkopjhaa.Lpm
end
