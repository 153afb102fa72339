/-
  Texts laid together: Kit, Tk, Base, Ref, Ref2, Ref3, Ref4, Pure, RPush, RCopy, RPut, RDel, RNewK, Le4, RNew0, RCut, RFit3, RFind3, RPut3, RDel3, RNew, RAny, AFns, AKeys, Map.
-/
import Derived.WalkKit
import Derived.WalkSpells
import Derived.WalkLawsBesides
import Derived.WalkSmall
import Derived.Deep.QuietTactic
import Derived.BigQuiet
import Derived.Lib.AppendZeros
import Derived.Lib.AppendZerosOnto
import Derived.Lib.Overlaps
import Derived.Laws.IdiomCopy
import Derived.Deep.RegionHeld3
import Derived.Test.YtmhhahmjkopjhaaGreatRows
import Derived.Laws.BytesArg
import Derived.Deep.DrawnRows
import Derived.Deep.CutRange
import Derived.Lib.SliceRun
import Derived.Maps.RangeWalk
import Derived.Maps.Ext
set_option maxRecDepth 100000
set_option maxHeartbeats 8000000
section
namespace Go.Proofs.YtmhhahmjkopjhaaGreat
open Go.RowKit
def Blk (w : World) (b : Nat) (cs : List Value) (t : TypeId) : Prop := w.heap[b]? = some (.cells cs.toArray t (0, 0))
theorem Blk.lt {w : World} {b : Nat} {cs : List Value} {t : TypeId} (h : Blk w b cs t) : b < w.heap.size := (Array.getElem?_eq_some_iff.1 h).1
theorem Blk.cell {w : World} {b : Nat} {cs : List Value} {t : TypeId} (h : Blk w b cs t) {i : Nat} {v : Value} (hi : cs[i]? = some v) : w.cell? ⟨b, i, none⟩ = some v := by
 unfold Blk at h
 simp [World.cell?, h, hi]
theorem Blk.cellN {w : World} {b : Nat} {cs : List Value} {t : TypeId} (h : Blk w b cs t) {i : Nat} (hi : i < cs.length) : w.cell? ⟨b, i, none⟩ = some cs[i] := h.cell (List.getElem?_eq_getElem hi)
theorem Blk.frozen {w : World} {b : Nat} {cs : List Value} {t : TypeId} (h : Blk w b cs t) (i : Nat) : w.frozen? ⟨b, i, none⟩ = false := by
 unfold Blk at h
 simp [World.frozen?, h]
theorem Blk.shape {w : World} {b : Nat} {cs : List Value} {t : TypeId} (h : Blk w b cs t) : w.shape? b = some (t, cs.length) := by
 unfold Blk at h
 simp [World.shape?, h]
theorem Blk.of_heap {w w' : World} {b : Nat} {cs : List Value} {t : TypeId} (h : Blk w b cs t) (he : w'.heap[b]? = w.heap[b]?) : Blk w' b cs t := by
 unfold Blk at *
 rw [he, h]
theorem Blk.drew {w : World} {b : Nat} {cs : List Value} {t : TypeId} (h : Blk w b cs t) : Blk w.drew b cs t := h
theorem Blk.drewN {w : World} {b : Nat} {cs : List Value} {t : TypeId} (h : Blk w b cs t) (n : Nat) : Blk (w.drewN n) b cs t := h
theorem Blk.alloc {w : World} {b : Nat} {cs : List Value} {t : TypeId} (h : Blk w b cs t) (o : Obj) : Blk (w.alloc o) b cs t := h.of_heap (Below.heap_alloc w o b h.lt)
theorem Blk.new (w : World) (cs : List Value) (t : TypeId) : Blk (w.alloc (.cells cs.toArray t)) w.heap.size cs t := by
 unfold Blk
 exact heap_alloc_new w _
theorem Blk.newA (w : World) (arr : Array Value) (cs : List Value) (t : TypeId) (h : arr.toList = cs) : Blk (w.alloc (.cells arr t)) w.heap.size cs t := by
 subst h
 have := Blk.new w arr.toList t
 simpa using this
theorem Blk.setCell {w : World} {b : Nat} {cs : List Value} {t : TypeId} (h : Blk w b cs t) (i : Nat) (v : Value) : Blk (w.setCell ⟨b, i, none⟩ v) b (cs.set i v) t := by
 unfold Blk at *
 simp only [World.setCell, Array.getElem?_modify, ↓reduceIte, h, Option.map_some]
 simp
theorem Blk.setCell_other {w : World} {b : Nat} {cs : List Value} {t : TypeId} (h : Blk w b cs t) (a : Addr) (v : Value) (hne : b ≠ a.block) : Blk (w.setCell a v) b cs t :=
 h.of_heap (Below.heap_setCell w a v b hne)
theorem Blk.setRow {w : World} {b : Nat} {cs : List Value} {t : TypeId} (h : Blk w b cs t) (ds : List Value) : Blk (w.setRow b ds.toArray) b ds t := setRow_heap w b _ _ t _ h
theorem Blk.setRow_other {w : World} {b : Nat} {cs : List Value} {t : TypeId} (h : Blk w b cs t) (g : Nat) (ds : Array Value) (hne : b ≠ g) : Blk (w.setRow g ds) b cs t :=
 h.of_heap (Go.setRow_other w g b ds hne)
structure Touch (S : List Nat) (w w' : World) : Prop where
 os : w'.os = w.os
 tape : w'.tape = w.tape
 output : w'.output = w.output
 size : w.heap.size ≤ w'.heap.size
 block : ∀ k, k < w.heap.size → k ∉ S → w'.heap[k]? = w.heap[k]?
theorem Touch.refl (S : List Nat) (w : World) : Touch S w w := ⟨rfl, rfl, rfl, Nat.le_refl _, fun _ _ _ => rfl⟩
theorem Touch.trans {S S' : List Nat} {a b c : World} (h : Touch S a b) (k : Touch S' b c) (hS : ∀ x ∈ S', x ∈ S ∨ a.heap.size ≤ x) : Touch S a c :=
 ⟨k.os.trans h.os, k.tape.trans h.tape, k.output.trans h.output, Nat.le_trans h.size k.size, fun i hi hn =>
  (k.block i (Nat.lt_of_lt_of_le hi h.size) (fun hx => by rcases hS i hx with h1 | h1; exact hn h1; omega)).trans (h.block i hi hn)⟩
theorem Touch.mono {S S' : List Nat} {a b : World} (h : Touch S a b) (hS : ∀ x ∈ S, x ∈ S' ∨ a.heap.size ≤ x) : Touch S' a b :=
 ⟨h.os, h.tape, h.output, h.size, fun i hi hn => h.block i hi (fun hx => by rcases hS i hx with h1 | h1; exact hn h1; omega)⟩
theorem Touch.nil {S : List Nat} {a b : World} (h : Touch [] a b) : Touch S a b := h.mono (fun _ hx => by cases hx)
theorem Touch.drew {S : List Nat} {a w : World} (h : Touch S a w) : Touch S a w.drew := ⟨h.os, h.tape, h.output, h.size, h.block⟩
theorem Touch.drewN {S : List Nat} {a w : World} (h : Touch S a w) (n : Nat) : Touch S a (w.drewN n) := ⟨h.os, h.tape, h.output, h.size, h.block⟩
theorem Touch.alloc {S : List Nat} {a w : World} (h : Touch S a w) (o : Obj) : Touch S a (w.alloc o) :=
 ⟨h.os, h.tape, h.output, Nat.le_trans h.size (by simp), fun k hk hn => (Below.heap_alloc w o k (Nat.lt_of_lt_of_le hk h.size)).trans (h.block k hk hn)⟩
theorem Touch.setCell {S : List Nat} {a w : World} (h : Touch S a w) (p : Addr) (v : Value) (hp : p.block ∈ S ∨ a.heap.size ≤ p.block) : Touch S a (w.setCell p v) :=
 ⟨h.os, h.tape, h.output, by simpa using h.size, fun k hk hn => (Below.heap_setCell w p v k (fun e => by subst e; rcases hp with h1 | h1; exact hn h1; omega)).trans (h.block k hk hn)⟩
theorem Touch.setRow {S : List Nat} {a w : World} (h : Touch S a w) (g : Nat) (ds : Array Value) (hp : g ∈ S ∨ a.heap.size ≤ g) : Touch S a (w.setRow g ds) :=
 ⟨h.os, h.tape, h.output, by simpa using h.size, fun k hk hn => (Go.setRow_other w g k ds (fun e => by subst e; rcases hp with h1 | h1; exact hn h1; omega)).trans (h.block k hk hn)⟩
theorem Touch.blk {S : List Nat} {w w' : World} (h : Touch S w w') {b : Nat} {cs : List Value} {t : TypeId} (hb : Blk w b cs t) (hn : b ∉ S) : Blk w' b cs t := hb.of_heap (h.block b hb.lt hn)
theorem Touch.cell {S : List Nat} {w w' : World} (h : Touch S w w') {p : Addr} {v : Value} (hc : w.cell? p = some v) (hn : p.block ∉ S) : w'.cell? p = some v :=
 (World.cell?_of_block (w := w) (h.block p.block (World.block_lt_of_cell? w p hc) hn)).trans hc
def slV (g : Option Nat) (n cap : Nat) : Value := .slice (g.map fun b => ⟨b, 0, none⟩) n cap
theorem slV_none (n cap : Nat) : slV none n cap = .slice none n cap := rfl
theorem slV_some (b n cap : Nat) : slV (some b) n cap = .slice (some ⟨b, 0, none⟩) n cap := rfl
def RowAt (w : World) (e : TypeId) (sz : Nat) (g : Option Nat) (n cap : Nat) (cs : List Value) : Prop :=
 cs.length = n * sz ∧ n ≤ cap ∧ cap ≤ maxLen ∧ match g with
  | none => cap = 0
  | some b => ∃ rest, Blk w b (cs ++ rest) e ∧ cap * sz ≤ (cs ++ rest).length
theorem RowAt.touch {S : List Nat} {w w' : World} {e : TypeId} {sz : Nat} {g : Option Nat} {n cap : Nat} {cs : List Value} (h : RowAt w e sz g n cap cs) (ht : Touch S w w') (hg : ∀ b, g = some b → b ∉ S) : RowAt w' e sz g n cap cs := by
 obtain ⟨h1, h2, h3, h4⟩ := h
 refine ⟨h1, h2, h3, ?_⟩
 cases g with
 | none => exact h4
 | some b => obtain ⟨rest, hb, hc⟩ := h4; exact ⟨rest, ht.blk hb (hg b rfl), hc⟩
theorem splice_rest (cs rest news : List Value) (k : Nat) (h : cs.length = k) :
  (cs ++ rest).toArray.toList.take k ++ news ++ (cs ++ rest).toArray.toList.drop (k + news.length) = cs ++ news ++ rest.drop news.length := by
 subst h
 simp [List.drop_append]
theorem run_append_row {P : Program} (w : World) (t ty e : TypeId) (i : TypeInfo) (z : Value) (sz : Nat) (ht : P.underlying t = some (.slice e)) (hi : P.info? e = some i) (hz : i.zero = some z)
  (hsz : i.size = sz) (hzs : z.cells.size = sz) (hpos : 0 < sz) (g : Option Nat) (n cap : Nat) (cs : List Value) (h : RowAt w e sz g n cap cs)
  (a : Addr) (m c : Nat) (news : List Value) (hl : news.length = m * sz) (hnews : ∀ j v, news[j]? = some v → w.cell? (a.add j) = some v) (h1 : ∀ u ∈ news, u.oneCell' = true)
  (hbig : (n + m) * i.bytes ≤ 140737488355328) (hmax : n + m ≤ 140737488355328) :
  ∃ g' cap' w', (Builtin.append_ #[t, t] ty #[slV g n cap, .slice (some a) m c]).run P w = .ok (slV g' (n + m) cap') w' ∧ RowAt w' e sz g' (n + m) cap' (cs ++ news) ∧ Touch g.toList w w' ∧
   (g' = g ∨ g' = some w.heap.size) ∧ (g' = some w.heap.size → w.heap.size < w'.heap.size) := by
 subst hsz
 obtain ⟨hcl, hnc, hcm, hg⟩ := h
 have hlen : (cs ++ news).length = (n + m) * i.size := by rw [List.length_append, hcl, hl, Nat.add_mul]
 have hgrow : ∀ old, old < n + m → RowAt (w.drew.alloc (.cells (cs.toArray ++ news.toArray ++ Builtin.zeroCells z.cells (grownCap w (n + m) old e - (n + m))) e)) e i.size (some w.heap.size) (n + m) (grownCap w (n + m) old e) (cs ++ news) := by
  intro old ho
  have hge := grownCap_ge w (n + m) old e
  have hle := grownCap_le_maxLen w (n + m) old e (by unfold maxLen; omega)
  refine ⟨hlen, hge, hle, (Builtin.zeroCells z.cells (grownCap w (n + m) old e - (n + m))).toList, ?_, ?_⟩
  ·exact Blk.newA w.drew _ _ e (by simp)
  ·rw [List.length_append, hlen, Array.length_toList, size_zeroCells, hzs, ← Nat.add_mul]
   exact Nat.mul_le_mul_right _ (by omega)
 cases g with
 | none =>
  have hg : cap = 0 := hg
  subst hg
  obtain rfl : n = 0 := by omega
  obtain rfl : cs = [] := List.eq_nil_of_length_eq_zero (by simpa using hcl)
  by_cases hm : m = 0
  ·subst hm
   obtain rfl : news = [] := List.eq_nil_of_length_eq_zero (by simpa using hl)
   refine ⟨none, 0, w, ?_, ⟨by simp, by omega, by unfold maxLen; omega, rfl⟩, Touch.refl _ _, Or.inl rfl, fun h => by cases h⟩
   simp [slV, Builtin.append_, run_underlying ht, sizeOf, typeInfo, hi, Builtin.lenOf, Builtin.firstCells, loadCells, loadCellsFrom]
  ·have hr := run_append_nil (P := P) w t ty e i z ht hi hz a m c news hl hnews (by omega) (by omega) (by simp only [Nat.zero_add] at hbig; omega)
   have hgr := hgrow 0 (by omega)
   simp only [Nat.zero_add, List.nil_append, Array.empty_append] at hgr ⊢
   exact ⟨some w.heap.size, _, _, hr, hgr, (Touch.refl _ w).drew.alloc _, Or.inr rfl, fun _ => by simp⟩
 | some b =>
  obtain ⟨rest, hb, hcap⟩ := hg
  by_cases hroom : n + m ≤ cap
  ·have hfit : n * i.size + news.length ≤ (cs ++ rest).toArray.size := by
    rw [hl, ← Nat.add_mul]
    exact Nat.le_trans (Nat.mul_le_mul_right _ hroom) (by simpa using hcap)
   have hr := run_append_room (P := P) w t ty e i ht hi b n cap _ hb a m c news hl hnews h1 hroom hfit
   refine ⟨some b, cap, _, hr, ⟨hlen, hroom, hcm, rest.drop news.length, ?_, ?_⟩, (Touch.refl _ w).setRow _ _ (Or.inl (by simp)), Or.inl rfl, fun h => by have := hb.lt; injection h with h; omega⟩
   ·rw [splice_rest cs rest news (n * i.size) hcl]
    exact hb.setRow _
   ·simp only [List.length_append, List.length_drop] at hcap ⊢
    simp at hfit
    omega
  ·have hold : ∀ j u, cs[j]? = some u → w.cell? ((⟨b, 0, none⟩ : Addr).add j) = some u := fun j u hj => by
    have hadd : (⟨b, 0, none⟩ : Addr).add j = ⟨b, j, none⟩ := by unfold Addr.add; split <;> simp_all
    rw [hadd]
    exact hb.cell (by rw [List.getElem?_append_left (List.getElem?_eq_some_iff.1 hj).1]; exact hj)
   have hr := run_append_grow (P := P) w t ty e i z ht hi hz ⟨b, 0, none⟩ n cap cs hcl hold a m c news hl hnews (by omega) (by omega) (growslice_fits (by omega) hbig)
   exact ⟨some w.heap.size, _, _, hr, hgrow cap (by omega), (Touch.refl _ w).drew.alloc _, Or.inr rfl, fun _ => by simp⟩
theorem info_of {P : Program} {e : TypeId} {z : Option Value} {s b : Nat} (h : (P.info? e).map (fun i => (i.zero, i.size, i.bytes)) = some (z, s, b)) :
  ∃ i, P.info? e = some i ∧ i.zero = z ∧ i.size = s ∧ i.bytes = b := by
 cases hq : P.info? e with
 | none => simp [hq] at h
 | some i => simp [hq] at h; exact ⟨i, rfl, h.1, h.2.1, h.2.2⟩
theorem size_of_info {P : Program} {e : TypeId} {z : Option Value} {s b : Nat} (h : (P.info? e).map (fun i => (i.zero, i.size, i.bytes)) = some (z, s, b)) : (P.info? e).map (·.size) = some s := by
 obtain ⟨i, hi, _, hs, _⟩ := info_of h
 simp [hi, hs]
theorem sizeOf_of_info {P : Program} {e : TypeId} {z : Option Value} {s b : Nat} (h : (P.info? e).map (fun i => (i.zero, i.size, i.bytes)) = some (z, s, b)) (w : World) : (Go.sizeOf e).run P w = .ok s w := by
 obtain ⟨i, hi, _, hs, _⟩ := info_of h
 simp [sizeOf, typeInfo, hi, hs]
theorem step_copy_known {P : Program} {ops : Array Oper} {o : Oper} {a : Act} {w : World} {K : Act → World → Prop} {Q : Exit → Act → World → Prop} {E : Prop}
  (hg : o.guard = none) (d x : Operand) (dT sT : TypeId) (hop : o.op = Op.call { callee := Callee.builtin Builtin.copy, args := #[d, x], argTypes := #[dT, sT] })
  (v u : Value) (hd : a.eval d = v) (hx : a.eval x = u) {v' : Value} {w' : World} (hr : (Builtin.copy_ #[dT, sT] o.type #[v, u]).run P w = .ok v' w') (hK : K (a.put o.dst v') w') :
  if Region.wanted o (yielded ops a.tmps) = true then Oper.wp P o a w K Q else E := by
 rw [if_pos (by simp [Region.wanted, hg])]
 unfold Oper.wp
 simp only [execOp, hop, resolve, invoke, builtin, Sem.run_bind, Sem.run_pure, Result.andThen_ok, List.map_toArray, List.map_cons, List.map_nil, hd, hx, hr]
 exact hK
theorem run_copy_blk {P : Program} (w : World) (dT sT ty elem : TypeId) (hu : P.underlying dT = some (.slice elem)) (hs : (P.info? elem).map (·.size) = some 1)
  (g off dLen dCap : Nat) (a : Addr) (sLen sCap : Nat) (cur : List Value) (t : TypeId) (cs : List Value) (hg : Blk w g cur t) (hn : cs.length = Nat.min sLen dLen)
  (hsrc : ∀ j v, cs[j]? = some v → w.cell? (a.add j) = some v) (hfit : off + cs.length ≤ cur.length) (h1 : ∀ v ∈ cs, v.oneCell' = true) :
  (Builtin.copy_ #[dT, sT] ty #[.slice (some ⟨g, off, none⟩) dLen dCap, .slice (some a) sLen sCap]).run P w =
   .ok (goInt cs.length) (w.setRow g (cur.take off ++ cs ++ cur.drop (off + cs.length)).toArray) := by
 have := run_copy_row (P := P) w dT sT ty elem g off dLen dCap a sLen sCap cur.toArray t cs hu hs hg hn hsrc (by simpa using hfit) h1
 simpa using this
theorem run_make_blk {P : Program} {t e : TypeId} {z : Value} {by_ : Nat} (ht : P.underlying t = some (.slice e)) (hi : (P.info? e).map (fun i => (i.zero, i.size, i.bytes)) = some (some z, 1, by_)) (hz : z.cells = #[z])
  (n : Nat) (hb : by_ * n ≤ 281474976710656) (h63 : n ≤ 9223372036854775807) (k : IntKind) (w : World) :
  (Instr.makeSlice t (.int k (n : Int)) (.int k (n : Int))).run P w = .ok (.slice (some ⟨w.heap.size, 0, none⟩) n n) (w.alloc (.cells (List.replicate n z).toArray e)) := by
 obtain ⟨i, hi0, hz0, hs0, hb0⟩ := info_of hi
 have hr := run_make (P := P) w t e i z ht hi0 hz0 k k n n (by omega) (Int.le_refl _) (by rw [hb0, ← Int.natCast_mul]; omega) (by omega)
 rw [hr, hz, hs0]
 simp only [Int.toNat_natCast, Nat.mul_one]
 congr 3
 rw [← toList_madeCells_one]
theorem u64_not (b : Int) (h0 : 0 ≤ b) (h1 : b ≤ 18446744073709551615) : bits .xor .u64 IntKind.u64.max b = 18446744073709551615 - b := by
 obtain ⟨a, rfl⟩ := Int.eq_ofNat_of_zero_le h0
 show IntKind.u64.wrap ((BitVec.ofInt 64 18446744073709551615 ^^^ BitVec.ofInt 64 (a : Int)).toNat : Int) = _
 have h2 : BitVec.ofInt 64 18446744073709551615 = BitVec.allOnes 64 := by decide
 rw [h2, BitVec.allOnes_xor, BitVec.toNat_not, BitVec.ofInt_natCast, BitVec.toNat_ofNat]
 simp only [IntKind.wrap, IntKind.bits, IntKind.signed]
 simp
 omega
theorem ret_int {k : IntKind} {a b : Int} (h : a = b) : Ending.returned (.int k a) = .returned (.int k b) := by rw [h]
theorem ret_bool {a b : Bool} (h : a = b) : Ending.returned (.bool a) = .returned (.bool b) := by rw [h]
theorem toHid {p : Prop} (h : p) : Hid p := h
end Go.Proofs.YtmhhahmjkopjhaaGreat
end
section
namespace Go.Proofs.YtmhhahmjkopjhaaGreat
open Go.RowKit
theorem AP : (∀ {α : Type} {l : List α} {i : Nat} (h : i < l.toArray.size), l.toArray[i] = l[i]'(by simpa using h)) ∧
 (∀ {α : Type} {a : α} {l : List α} (h : 0 < (a :: l).length), (a :: l)[0] = a) ∧
 (∀ {α : Type} {a : α} {l : List α} {i : Nat} (h : i + 1 < (a :: l).length), (a :: l)[i + 1] = l[i]'(by simpa using h)) ∧
 (∀ {α : Type} {l : List α} {i : Nat} {a : α}, l.toArray.setIfInBounds i a = (l.set i a).toArray) ∧
 (∀ {α : Type} {l : List α} {a b : α}, (a :: l).set 0 b = b :: l) ∧
 (∀ {α : Type} {l : List α} {i : Nat} {a b : α}, (a :: l).set (i + 1) b = a :: l.set i b) :=
 ⟨fun _ => rfl, fun _ => rfl, fun _ => rfl, List.setIfInBounds_toArray .., List.set_cons_zero, List.set_cons_succ⟩
theorem tk {P : Program} {ops : Array Oper} {Q : Exit → Act → World → Prop} {md : Region.Mode} {S : World → Prop} (i : Nat) {oi : Oper} {v : Value} {fuel : Nat} {listed : Array Bool} {a : Act} {w : World} (hi : ops[i]? = some oi)
  (hv : ∀ w, S w → (execOp a.eval oi).run P w = .ok (.value v) w) (h : wpAnyH P md ops Q S fuel (listed.setIfInBounds i true) (a.put oi.dst v) w)
  (hs : Region.noSelect ops = true := by kernel_rfl) (hf : Region.free md ops listed i = true := by kernel_rfl) (hr : (Region.ready md ops listed).contains i = true := by kernel_rfl)
  (hQ : ∀ c a w, Q (.panic c) (a.put oi.dst v) w → Q (.panic c) a w := by exact fun _ _ _ h => h) (hw : Region.wanted oi (yielded ops a.tmps) = true := by rfl) (hS : S w := by assumption) : wpAnyH P md ops Q S (fuel + 1) listed a w :=
 wpAnyH_take hi hs hf hr hQ (Or.inl ⟨hw, hv⟩) hS h
end Go.Proofs.YtmhhahmjkopjhaaGreat
end
section
namespace Go.Proofs.YtmhhahmjkopjhaaGreat
open Go.RowKit
def num (bs : Nat → Int) : Nat → Int
 | 0 => 0
 | n + 1 => num bs n + bs n * 256 ^ n
theorem num_bd (bs : Nat → Int) : ∀ n, (∀ j, j < n → 0 ≤ bs j ∧ bs j ≤ 255) → 0 ≤ num bs n ∧ num bs n < 256 ^ n
 | 0, _ => by simp [num]
 | n + 1, h => by
  have h1 := num_bd bs n (fun j hj => h j (by omega))
  have h2 := h n (by omega)
  have h3 : (0 : Int) < 256 ^ n := Int.pow_pos (by omega)
  have h4 : bs n * 256 ^ n ≤ 255 * 256 ^ n := Int.mul_le_mul_of_nonneg_right h2.2 (by omega)
  have h5 : 0 ≤ bs n * 256 ^ n := Int.mul_nonneg h2.1 (by omega)
  unfold num
  rw [Int.pow_succ]
  omega
def KeyAt (w : World) (sa : Option Addr) (sl : Nat) (bs : List Int) : Prop := sl = bs.length ∧ (∀ x ∈ bs, 0 ≤ x ∧ x ≤ 255) ∧ bs.length ≤ 9223372036854775807 ∧
 (1 ≤ bs.length → ∃ b off, sa = some ⟨b, off, none⟩ ∧ ∀ j, j < bs.length → w.cell? ⟨b, off + j, none⟩ = some (.int .u8 (bs.getD j 0)))
theorem getD_bd {bs : List Int} (h : ∀ x ∈ bs, 0 ≤ x ∧ x ≤ 255) (j : Nat) : 0 ≤ bs.getD j 0 ∧ bs.getD j 0 ≤ 255 := by
 rw [List.getD_eq_getElem?_getD]
 cases hq : bs[j]? with
 | none => simp
 | some x => exact h x (List.mem_of_getElem? hq)
theorem KeyAt.nums {w : World} {sa : Option Addr} {sl : Nat} {bs : List Int} (h : KeyAt w sa sl bs) (n : Nat) : 0 ≤ num (fun j => bs.getD j 0) n ∧ num (fun j => bs.getD j 0) n < 256 ^ n := num_bd _ n fun j _ => getD_bd h.2.1 j
theorem info3 : (Tryz.prog.info? 3).map (fun i => (i.zero, i.size, i.bytes)) = some (some (.int .i64 0), 1, 8) := by kernel_rfl
theorem info5 : (Tryz.prog.info? 5).map (fun i => (i.zero, i.size, i.bytes)) = some (some (.int .u8 0), 1, 1) := by kernel_rfl
theorem info32 : (Tryz.prog.info? 39).map (fun i => (i.zero, i.size, i.bytes)) = some (some (.slice none 0 0), 1, 24) := by kernel_rfl
def BlkF (w : World) (b : Nat) (cs : List Value) (t : TypeId) : Prop := ∃ fz : Nat × Nat, w.heap[b]? = some (.cells cs.toArray t fz) ∧ (fz = (0, 0) ∨ cs.length ≤ fz.1)
theorem Blk.toF {w : World} {b : Nat} {cs : List Value} {t : TypeId} (h : Blk w b cs t) : BlkF w b cs t := ⟨(0, 0), h, Or.inl rfl⟩
theorem BlkF.lt {w : World} {b : Nat} {cs : List Value} {t : TypeId} (h : BlkF w b cs t) : b < w.heap.size := by
 obtain ⟨fz, h, _⟩ := h
 exact (Array.getElem?_eq_some_iff.1 h).1
theorem BlkF.cell {w : World} {b : Nat} {cs : List Value} {t : TypeId} (h : BlkF w b cs t) {i : Nat} {v : Value} (hi : cs[i]? = some v) : w.cell? ⟨b, i, none⟩ = some v := by
 obtain ⟨fz, h, _⟩ := h
 simp [World.cell?, h, hi]
theorem BlkF.of_heap {w w' : World} {b : Nat} {cs : List Value} {t : TypeId} (h : BlkF w b cs t) (he : w'.heap[b]? = w.heap[b]?) : BlkF w' b cs t := by
 obtain ⟨fz, h, hz⟩ := h
 exact ⟨fz, by rw [he, h], hz⟩
theorem Touch.blkF {S : List Nat} {w w' : World} (h : Touch S w w') {b : Nat} {cs : List Value} {t : TypeId} (hb : BlkF w b cs t) (hn : b ∉ S) : BlkF w' b cs t := hb.of_heap (h.block b hb.lt hn)
structure KS where
 b : Nat
 cap : Nat
 bs : List Int
def KS.v (k : KS) : Value := .slice (some ⟨k.b, 0, none⟩) k.bs.length k.cap
def KS.At (w : World) (k : KS) : Prop := (∃ rest, BlkF w k.b (k.bs.map (Value.int .u8) ++ rest) 5) ∧ (∀ x ∈ k.bs, 0 ≤ x ∧ x ≤ 255) ∧ k.bs.length ≤ 16 ∧ 1 ≤ k.bs.length ∧ k.bs.length ≤ k.cap
theorem KS.At.touch {S : List Nat} {w w' : World} {k : KS} (h : k.At w) (ht : Touch S w w') (hb : k.b ∉ S) : k.At w' := by
 obtain ⟨⟨r, h1⟩, h2⟩ := h
 exact ⟨⟨r, ht.blkF h1 hb⟩, h2⟩
theorem KS.At.cell {w : World} {k : KS} (h : k.At w) (j : Nat) (hj : j < k.bs.length) : w.cell? ⟨k.b, j, none⟩ = some (.int .u8 (k.bs.getD j 0)) := by
 obtain ⟨⟨r, h1⟩, _⟩ := h
 refine h1.cell ?_
 rw [List.getElem?_append_left (by simpa using hj), List.getElem?_map, List.getElem?_eq_getElem hj, List.getD_eq_getElem?_getD, List.getElem?_eq_getElem hj]
 rfl
theorem KS.At.key {w : World} {k : KS} (h : k.At w) : KeyAt w (some ⟨k.b, 0, none⟩) k.bs.length k.bs :=
 ⟨rfl, h.2.1, by have := h.2.2.1; omega, fun _ => ⟨k.b, 0, rfl, fun j hj => by rw [Nat.zero_add]; exact h.cell j hj⟩⟩
theorem KS.At.lt {w : World} {k : KS} (h : k.At w) : k.b < w.heap.size := by
 obtain ⟨⟨r, h1⟩, _⟩ := h
 exact h1.lt
structure KLs (w0 w : World) (g : Option Nat) (cap : Nat) (l : List KS) : Prop where
 row : RowAt w 39 1 g l.length cap (l.map KS.v)
 own : ∀ b, g = some b → w0.heap.size ≤ b
 keys : ∀ k ∈ l, k.At w ∧ w0.heap.size ≤ k.b ∧ g ≠ some k.b
def KL (w0 w : World) (v : Value) (ks : List (List Int)) : Prop := ∃ g cap l, v = slV g l.length cap ∧ KLs w0 w g cap l ∧ l.map KS.bs = ks
theorem KLs.touch {S : List Nat} {w0 w w' : World} {g : Option Nat} {cap : Nat} {l : List KS} (h : KLs w0 w g cap l) (ht : Touch S w w') (hS : ∀ x ∈ S, x < w0.heap.size) : KLs w0 w' g cap l :=
 ⟨h.row.touch ht (fun b hb hx => by have := hS b hx; have := h.own b hb; omega), h.own, fun k hk => ⟨(h.keys k hk).1.touch ht (fun hx => by have := hS _ hx; have := (h.keys k hk).2.1; omega), (h.keys k hk).2⟩⟩
theorem KeyAt.touch {w w' : World} {sa : Option Addr} {sl : Nat} {bs : List Int} (h : KeyAt w sa sl bs) (ht : Touch [] w w') : KeyAt w' sa sl bs := by
 obtain ⟨h1, h2, h3, h4⟩ := h
 refine ⟨h1, h2, h3, fun hp => ?_⟩
 obtain ⟨b, off, ha, hb⟩ := h4 hp
 exact ⟨b, off, ha, fun j hj => ht.cell (hb j hj) (by simp)⟩
structure OpC where
 k : Int
 sa : Option Addr
 sl : Nat
 sc : Nat
 bs : List Int
 fl : Int
structure OpC.Ok (w : World) (o : OpC) : Prop where
 k0 : -9223372036854775808 ≤ o.k
 k1 : o.k ≤ 9223372036854775807
 f0 : 0 ≤ o.fl
 f1 : o.fl ≤ 18446744073709551615
 key : KeyAt w o.sa o.sl o.bs
def Script (w : World) (sa : Option Addr) (n : Nat) (f : Nat → OpC) : Prop := n = 0 ∨ ∃ b off, sa = some ⟨b, off, none⟩ ∧ ∀ j, j < n → (f j).Ok w ∧ w.cell? ⟨b, off + j * 3, none⟩ = some (.int .i64 (f j).k) ∧
 w.cell? ⟨b, off + j * 3 + 1, none⟩ = some (.slice (f j).sa (f j).sl (f j).sc) ∧ w.cell? ⟨b, off + j * 3 + 2, none⟩ = some (.int .u64 (f j).fl)
def opV (o : OpC) : Value := .agg #[.int .i64 o.k, .slice o.sa o.sl o.sc, .int .u64 o.fl]
end Go.Proofs.YtmhhahmjkopjhaaGreat
end
section
namespace Go.Proofs.YtmhhahmjkopjhaaGreat
open Go.RowKit
theorem conv_zero {P : Program} (w : World) (src dst e : TypeId) (hs : P.underlying src = some (.slice e)) (he : P.underlying e = some (.int .u8)) (hd : P.underlying dst = some .string) (p : Option Addr) (c : Nat) :
  (convert src dst (.slice p 0 c)).run P w = .ok (.string ByteArray.empty) w := by
 rw [run_convert_bytes_string w src dst e _ 0 c hs he hd]
 cases p <;> simp [Conv.bytesToString, loadCells]
 all_goals rfl
theorem KeyAt.conv {w : World} {sa : Option Addr} {sl : Nat} {bs : List Int} (h : KeyAt w sa sl bs) (sc : Nat) : (convert 39 9 (.slice sa sl sc)).run Tryz.prog w = .ok (.string (strOfNums bs)) w := by
 obtain ⟨h1, h2, h3, h4⟩ := h
 subst h1
 by_cases hp : 1 ≤ bs.length
 ·obtain ⟨k, off, rfl, hb⟩ := h4 hp
  exact run_convert_bytes_arg w 39 5 Tryz.underlying39 Tryz.underlying5 k off bs.length sc bs rfl (fun i hi => hb i hi) 9 Tryz.underlying9
 ·obtain rfl : bs = [] := List.eq_nil_of_length_eq_zero (by omega)
  exact conv_zero w 39 9 5 Tryz.underlying39 Tryz.underlying5 Tryz.underlying9 sa sc
theorem str_inj {a b : List Int} (ha : ∀ x ∈ a, 0 ≤ x ∧ x ≤ 255) (hb : ∀ x ∈ b, 0 ≤ x ∧ x ≤ 255) (h : strOfNums a = strOfNums b) : a = b := by
 have h1 : a.map (fun n => UInt8.ofNat n.toNat) = b.map (fun n => UInt8.ofNat n.toNat) := by rw [← strOfNums_data, ← strOfNums_data, h]
 clear h
 induction a generalizing b with
 | nil => cases b with
  | nil => rfl
  | cons y b => simp at h1
 | cons x a ih =>
  cases b with
  | nil => simp at h1
  | cons y b =>
   simp only [List.map_cons, List.cons.injEq] at h1
   have hx := ha x (by simp)
   have hy := hb y (by simp)
   have h2 : (UInt8.ofNat x.toNat).toNat = (UInt8.ofNat y.toNat).toNat := by rw [h1.1]
   simp only [UInt8.toNat_ofNat'] at h2
   have : x = y := by omega
   rw [this, ih (fun z hz => ha z (by simp [hz])) (fun z hz => hb z (by simp [hz])) h1.2]
theorem str_eq {a b : List Int} (ha : ∀ x ∈ a, 0 ≤ x ∧ x ≤ 255) (hb : ∀ x ∈ b, 0 ≤ x ∧ x ≤ 255) : ((strOfNums a).toList == (strOfNums b).toList) = (a == b) := by
 by_cases h : a = b
 ·subst h
  simp
 ·have : (strOfNums a).toList ≠ (strOfNums b).toList := fun e => h (str_inj ha hb (by
   rw [ByteArray.toList_eq, ByteArray.toList_eq] at e
   exact ByteArray.ext (Array.toList_inj.1 e)))
  rw [beq_false_of_ne this, beq_false_of_ne h]
structure RX where
 r : Nat
 kind : Int
 size : Int
 max : Int
 clock : Int
 g : Option Nat
 scap : Nat
 h : Option Nat
 wcap : Nat
 slots : List (Option KS)
 whens : List Int
def slotV : Option KS → Value
 | none => .slice none 0 0
 | some k => k.v
def RX.top (x : RX) : List Nat := x.r :: (x.g.toList ++ x.h.toList)
def RX.blocks (x : RX) : List Nat := x.top ++ x.slots.filterMap (Option.map KS.b)
theorem RX.mem_key {x : RX} {k : KS} (h : some k ∈ x.slots) : k.b ∈ x.blocks := List.mem_append_right _ (List.mem_filterMap.2 ⟨_, h, rfl⟩)
theorem RX.mem_top {x : RX} {b : Nat} (h : b ∈ x.top) : b ∈ x.blocks := List.mem_append_left _ h
theorem RX.mem_g {x : RX} {b : Nat} (h : x.g = some b) : b ∈ x.top := by simp [RX.top, h]
theorem RX.mem_h {x : RX} {b : Nat} (h : x.h = some b) : b ∈ x.top := by simp [RX.top, h]
theorem RX.mem_r (x : RX) : x.r ∈ x.top := by simp [RX.top]
structure RAt (w : World) (x : RX) : Prop where
 self : Blk w x.r [.int .i64 x.kind, .int .i64 x.size, .int .i64 x.max, slV x.g x.slots.length x.scap, slV x.h x.whens.length x.wcap, .int .i64 x.clock] 114
 row : RowAt w 39 1 x.g x.slots.length x.scap (x.slots.map slotV)
 wrow : RowAt w 3 1 x.h x.whens.length x.wcap (x.whens.map (Value.int .i64))
 keys : ∀ k, some k ∈ x.slots → k.At w
 apart : x.top.Nodup
 apartK : ∀ k, some k ∈ x.slots → k.b ∉ x.top
theorem RAt.touch {S : List Nat} {w w' : World} {x : RX} (h : RAt w x) (ht : Touch S w w') (hS : ∀ b ∈ x.blocks, b ∉ S) : RAt w' x where
 self := ht.blk h.self (hS _ (RX.mem_top x.mem_r))
 row := h.row.touch ht (fun _b hb => hS _ (RX.mem_top (RX.mem_g hb)))
 wrow := h.wrow.touch ht (fun _b hb => hS _ (RX.mem_top (RX.mem_h hb)))
 keys := fun k hk => (h.keys k hk).touch ht (hS _ (RX.mem_key hk))
 apart := h.apart
 apartK := h.apartK
theorem RAt.lt {w : World} {x : RX} (h : RAt w x) : ∀ b ∈ x.blocks, b < w.heap.size := by
 intro b hb
 rcases List.mem_append.1 hb with hb | hb
 ·simp only [RX.top, List.mem_cons, List.mem_append, Option.mem_toList] at hb
  rcases hb with rfl | hb | hb
  ·exact h.self.lt
  ·have := h.row.2.2.2
   rw [hb] at this
   obtain ⟨_, hB, _⟩ := this
   exact hB.lt
  ·have := h.wrow.2.2.2
   rw [hb] at this
   obtain ⟨_, hB, _⟩ := this
   exact hB.lt
 ·obtain ⟨a, ha, hb⟩ := List.mem_filterMap.1 hb
  cases a with
  | none => cases hb
  | some k =>
   injection hb with hb
   subst hb
   exact (h.keys k ha).lt
theorem RAt.slot {w : World} {x : RX} (h : RAt w x) {j : Nat} {s : Option KS} (hj : x.slots[j]? = some s) : ∃ b, x.g = some b ∧ w.cell? ⟨b, j, none⟩ = some (slotV s) := by
 have hlt := (List.getElem?_eq_some_iff.1 hj).1
 have hr := h.row
 cases hg : x.g with
 | none =>
  rw [hg] at hr
  have h1 := hr.2.1
  have h2 : x.scap = 0 := hr.2.2.2
  omega
 | some b =>
  rw [hg] at hr
  obtain ⟨_, _, _, rest, hB, _⟩ := hr
  refine ⟨b, rfl, hB.cell ?_⟩
  rw [List.getElem?_append_left (by simpa using hlt), List.getElem?_map, hj]
  rfl
theorem RAt.when {w : World} {x : RX} (h : RAt w x) {j : Nat} (hlt : j < x.whens.length) : ∃ b rest, x.h = some b ∧ Blk w b (x.whens.map (Value.int .i64) ++ rest) 3 := by
 have hr := h.wrow
 cases hg : x.h with
 | none =>
  rw [hg] at hr
  have h1 := hr.2.1
  have h2 : x.wcap = 0 := hr.2.2.2
  omega
 | some b =>
  rw [hg] at hr
  obtain ⟨_, _, _, rest, hB, _⟩ := hr
  exact ⟨b, rest, rfl, hB⟩
def RX.touched (x : RX) (at_ : Int) : RX := { x with clock := x.clock + 1, whens := if 0 ≤ at_ then x.whens.set at_.toNat (x.clock + 1) else x.whens }
theorem touched_len (x : RX) (a : Int) : (x.touched a).whens.length = x.whens.length := by
 unfold RX.touched
 dsimp only
 split <;> simp
theorem RAt.ticked {w : World} {x : RX} (h : RAt w x) : RAt (w.setCell ⟨x.r, 5, none⟩ (.int .i64 (x.clock + 1))) (x.touched (-1)) := by
 have ht : Touch [x.r] w (w.setCell ⟨x.r, 5, none⟩ (.int .i64 (x.clock + 1))) := (Touch.refl _ w).setCell _ _ (Or.inl (by simp))
 have hap := h.apart
 simp only [RX.top, List.nodup_cons] at hap
 refine ⟨?_, h.row.touch ht (fun b hb hx => ?_), h.wrow.touch ht (fun b hb hx => ?_), fun k hk => (h.keys k hk).touch ht (fun hx => ?_), h.apart, h.apartK⟩
 ·exact h.self.setCell 5 (.int .i64 (x.clock + 1))
 ·simp at hx
  subst hx
  exact hap.1 (by simp [hb])
 ·simp at hx
  subst hx
  exact hap.1 (by simp [hb])
 ·simp at hx
  exact h.apartK k hk (by rw [hx]; exact x.mem_r)
theorem RAt.stamped {w : World} {x : RX} (h : RAt w x) {b j : Nat} (hb : x.h = some b) (hj : j < x.whens.length) (t : Int) : RAt (w.setCell ⟨b, j, none⟩ (.int .i64 t)) { x with whens := x.whens.set j t } := by
 have ht : Touch [b] w (w.setCell ⟨b, j, none⟩ (.int .i64 t)) := (Touch.refl _ w).setCell _ _ (Or.inl (by simp))
 have hap := h.apart
 simp only [RX.top, List.nodup_cons, hb, Option.toList_some, List.nodup_append, List.mem_append, List.mem_singleton] at hap
 refine ⟨?_, h.row.touch ht (fun c hc hx => ?_), ?_, fun k hk => (h.keys k hk).touch ht (fun hx => ?_), h.apart, h.apartK⟩
 ·have := ht.blk h.self (by simp; intro e; exact hap.1 (Or.inr e))
  simpa using this
 ·simp at hx
  subst hx
  exact hap.2.2.2 c (by simp [hc]) c rfl rfl
 ·obtain ⟨b', rest, hb', hB⟩ := h.when hj
  rw [hb] at hb'
  injection hb' with hb'
  subst hb'
  obtain ⟨h1, h2, h3, h4⟩ := h.wrow
  rw [hb] at h4
  obtain ⟨rest', hB', hc⟩ := h4
  have hset := hB'.setCell j (.int .i64 t)
  rw [List.set_append_left _ _ (by simpa using hj), ← List.map_set] at hset
  show RowAt _ 3 1 x.h (x.whens.set j t).length x.wcap ((x.whens.set j t).map (Value.int .i64))
  rw [hb]
  exact ⟨by simp, by simpa using h2, h3, rest', hset, by simpa using hc⟩
 ·simp at hx
  exact h.apartK k hk (by rw [hx]; exact RX.mem_h hb)
theorem RAt.c0 {w : World} {x : RX} (h : RAt w x) : w.cell? ⟨x.r, 0, none⟩ = some (.int .i64 x.kind) := h.self.cell rfl
theorem RAt.c1 {w : World} {x : RX} (h : RAt w x) : w.cell? ⟨x.r, 1, none⟩ = some (.int .i64 x.size) := h.self.cell rfl
theorem RAt.c2 {w : World} {x : RX} (h : RAt w x) : w.cell? ⟨x.r, 2, none⟩ = some (.int .i64 x.max) := h.self.cell rfl
theorem RAt.c3 {w : World} {x : RX} (h : RAt w x) : w.cell? ⟨x.r, 3, none⟩ = some (slV x.g x.slots.length x.scap) := h.self.cell rfl
theorem RAt.c4 {w : World} {x : RX} (h : RAt w x) : w.cell? ⟨x.r, 4, none⟩ = some (slV x.h x.whens.length x.wcap) := h.self.cell rfl
theorem RAt.c5 {w : World} {x : RX} (h : RAt w x) : w.cell? ⟨x.r, 5, none⟩ = some (.int .i64 x.clock) := h.self.cell rfl
def TouchPost (w : World) (x : RX) (a : Int) (e : Ending) (w' : World) : Prop := e = .returned (.tuple #[]) ∧ RAt w' (x.touched a) ∧ Touch x.top w w'
theorem touch_any {w : World} {x : RX} (h : RAt w x) (a : Int) (ha : a < x.whens.length) (hc0 : 0 ≤ x.clock) (hc1 : x.clock ≤ 4611686018427387904) :
  Calls Tryz.prog 87 #[.pointer (some ⟨x.r, 0, none⟩), .int .i64 a] w (TouchPost w x a) := by
 have c5 := h.c5
 have f5 := h.self.frozen 5
 have h1 := h.ticked
 have t1 : Touch x.top w (w.setCell ⟨x.r, 5, none⟩ (.int .i64 (x.clock + 1))) := (Touch.refl _ w).setCell _ _ (Or.inl x.mem_r)
 by_cases h0 : 0 ≤ a
 ·obtain ⟨b, rest, hb, hB⟩ := h1.when (j := a.toNat) (by rw [touched_len]; omega)
  have hb' : x.h = some b := hb
  have d4 := h1.c4
  have d5 := h1.c5
  rw [hb, touched_len, slV_some] at d4
  rw [show (x.touched (-1)).whens = x.whens from rfl] at hB
  have e0 := hB.cell (i := a.toNat) (v := .int .i64 (x.whens.getD a.toNat 0)) (by
   rw [List.getElem?_append_left (by rw [List.length_map]; omega), List.getElem?_map, List.getD_eq_getElem?_getD, List.getElem?_eq_getElem (show a.toNat < x.whens.length by omega)]
   rfl)
  have e1 := hB.frozen a.toNat
  have HF : Hid (RAt ((w.setCell ⟨x.r, 5, none⟩ (.int .i64 (x.clock + 1))).setCell ⟨b, a.toNat, none⟩ (.int .i64 (x.clock + 1))) (x.touched a) ∧ Touch x.top w ((w.setCell ⟨x.r, 5, none⟩ (.int .i64 (x.clock + 1))).setCell ⟨b, a.toNat, none⟩ (.int .i64 (x.clock + 1)))) := by
   refine ⟨?_, t1.setCell _ _ (Or.inl (RX.mem_h hb'))⟩
   have := h1.stamped hb (j := a.toNat) (by rw [touched_len]; omega) (x.clock + 1)
   have he : ({ x.touched (-1) with whens := (x.touched (-1)).whens.set a.toNat (x.clock + 1) } : RX) = x.touched a := by
    unfold RX.touched
    simp only [if_pos h0]
    rfl
   rw [he] at this
   exact this
  have dr : (x.touched (-1)).r = x.r := rfl
  have dc : (x.touched (-1)).clock = x.clock + 1 := rfl
  have dw : (x.touched (-1)).wcap = x.wcap := rfl
  rw [dr, dw] at d4
  rw [dr, dc] at d5
  generalize x.whens.getD a.toNat 0 = z at *
  have han : (a.toNat : Int) = a := by omega
  clear h h1 t1 hB hb hb' dr dc dw
  go_enter Tryz.func87, Tryz.ntmps87
  go_wp2
  clear c5 f5
  generalize w.setCell ⟨x.r, 5, none⟩ (.int .i64 (x.clock + 1)) = w1 at *
  go_region
  go_end0
  exact ⟨rfl, HF.out.1.touch ((Touch.refl [] _).drew) (by simp), HF.out.2.drew⟩
 ·have HF : Hid (RAt (w.setCell ⟨x.r, 5, none⟩ (.int .i64 (x.clock + 1))) (x.touched a) ∧ Touch x.top w (w.setCell ⟨x.r, 5, none⟩ (.int .i64 (x.clock + 1)))) := by
   refine ⟨?_, t1⟩
   have he : x.touched (-1) = x.touched a := by
    unfold RX.touched
    rw [if_neg h0]
    rfl
   rw [← he]
   exact h1
  clear h h1 t1
  go_enter Tryz.func87, Tryz.ntmps87
  go_wp2
  go_end0
  exact ⟨rfl, HF.out⟩
theorem fits_any {w : World} {x : RX} (h : RAt w x) (hk3 : x.kind ≠ 3) (sa : Option Addr) (sl sc : Nat) (_hsl : sl ≤ 9223372036854775807) :
  Calls Tryz.prog 83 #[.pointer (some ⟨x.r, 0, none⟩), .slice sa sl sc] w fun e w' => e = .returned (.bool (decide ((sl : Int) = x.size))) ∧ Touch [] w w' := by
 have c0 := h.c0
 have c1 := h.c1
 have hk : (x.kind != 3) = true := by simpa using hk3
 clear h hk3
 generalize x.kind = kd at *
 generalize x.size = sz at *
 generalize x.r = R at *
 by_cases he : (sl : Int) = sz
 ·have he1 : ((sl : Int) == sz) = true := by simpa using he
  rw [decide_eq_true he]
  clear he
  go_enter Tryz.func83, Tryz.ntmps83
  go_wp2_with fail
  go_quiet (fail)
  go_wp2
  go_ret
  exact ⟨rfl, (Touch.refl [] w).drewN nq⟩
 ·have he1 : ((sl : Int) == sz) = false := by simpa using he
  rw [decide_eq_false he]
  clear he
  go_enter Tryz.func83, Tryz.ntmps83
  go_wp2_with fail
  go_quiet (fail)
  go_wp2
  go_ret
  exact ⟨rfl, (Touch.refl [] w).drewN nq⟩
def sameN (l : List (Option KS)) (bs : List Int) : Option Nat := l.findIdx? fun s => s.map KS.bs == some bs
def sameI (l : List (Option KS)) (bs : List Int) : Int := match sameN l bs with
 | some i => i
 | none => -1
theorem same_some {l : List (Option KS)} {bs : List Int} {k : Nat} (h1 : ∀ j, j < k → (l.getD j none).map KS.bs ≠ some bs) (hk : k < l.length) (h2 : (l.getD k none).map KS.bs = some bs) : sameI l bs = k := by
 have : sameN l bs = some k := by
  unfold sameN
  rw [List.findIdx?_eq_some_iff_getElem]
  refine ⟨hk, ?_, fun j hj => ?_⟩
  ·rw [List.getD_eq_getElem?_getD, List.getElem?_eq_getElem hk] at h2
   simpa using h2
  ·have := h1 j hj
   rw [List.getD_eq_getElem?_getD, List.getElem?_eq_getElem (by omega)] at this
   simpa using this
 unfold sameI
 rw [this]
theorem same_none {l : List (Option KS)} {bs : List Int} (h1 : ∀ j, j < l.length → (l.getD j none).map KS.bs ≠ some bs) : sameI l bs = -1 := by
 have : sameN l bs = none := by
  unfold sameN
  rw [List.findIdx?_eq_none_iff]
  intro s hs
  obtain ⟨j, hj, rfl⟩ := List.getElem_of_mem hs
  have := h1 j hj
  rw [List.getD_eq_getElem?_getD, List.getElem?_eq_getElem hj] at this
  simpa using this
 unfold sameI
 rw [this]
theorem same_bd (l : List (Option KS)) (bs : List Int) : -1 ≤ sameI l bs ∧ sameI l bs < l.length ∨ sameI l bs = -1 := by
 unfold sameI
 cases h : sameN l bs with
 | none => exact Or.inr rfl
 | some i =>
  unfold sameN at h
  rw [List.findIdx?_eq_some_iff_getElem] at h
  obtain ⟨hi, _⟩ := h
  exact Or.inl ⟨by show -1 ≤ (i : Int); omega, by show (i : Int) < _; omega⟩
theorem same_any {w : World} {x : RX} (h : RAt w x) (hk3 : x.kind ≠ 3) (hn : x.slots.length ≤ 1000) {sa : Option Addr} {sl : Nat} {bs : List Int} (hk : KeyAt w sa sl bs) (sc : Nat) :
  Calls Tryz.prog 84 #[.pointer (some ⟨x.r, 0, none⟩), .slice sa sl sc] w fun e w' => e = .returned (.int .i64 (sameI x.slots bs)) ∧ w' = w := by
 have c0 := h.c0
 have c3 := h.c3
 have hkd : (x.kind == 3) = false := by simpa using hk3
 have hcv := hk.conv sc
 have HH := toHid h
 have HK := toHid hk
 unfold slV at c3
 generalize hsg : (x.g.map fun b => (⟨b, 0, none⟩ : Addr)) = sg at *
 generalize hln : x.slots.length = n at *
 have HL := toHid hln
 have HG := toHid hsg
 clear h hk hk3 hsg hln
 go_enter Tryz.func84, Tryz.ntmps84
 go_wp2_with fail
 go_loop [19] (fun t => ∃ k : Nat, k ≤ n ∧ t = .int .i64 k ∧ Hid (∀ j, j < k → (x.slots.getD j none).map KS.bs ≠ some bs)) (fun t => n - (intOf t).toNat)
 case atStart => exact ⟨0, by omega, rfl, fun j hj => absurd hj (by omega)⟩
 case round =>
  obtain ⟨k, hk, rfl, HI⟩ := hrel
  by_cases hlt : k < n
  ·have hkl : k < x.slots.length := by rw [HL.out]; exact hlt
   have hget : x.slots[k]? = some (x.slots.getD k none) := by rw [List.getD_eq_getElem?_getD, List.getElem?_eq_getElem hkl]; rfl
   obtain ⟨b, hb, hc⟩ := HH.out.slot hget
   have hsg := HG.out
   rw [hb, Option.map_some] at hsg
   subst hsg
   cases hs : x.slots.getD k none with
   | none =>
    rw [hs] at hc
    unfold slotV at hc
    have HN : Hid (∀ j, j < k + 1 → (x.slots.getD j none).map KS.bs ≠ some bs) := fun j hj => by
     by_cases hjk : j < k
     ·exact HI.out j hjk
     ·obtain rfl : j = k := by omega
      rw [hs]
      simp
    clear hget hs hkl hb
    go_wp2
    exact ⟨⟨k + 1, by omega, by go_num, HN⟩, by simp [intOf]; omega⟩
   | some ks =>
    rw [hs] at hc
    unfold slotV KS.v at hc
    have hkA := HH.out.keys ks (by rw [hs] at hget; exact List.mem_of_getElem? hget)
    have hcv2 := hkA.key.conv ks.cap
    have hse := str_eq hkA.2.1 HK.out.2.1
    by_cases heq : ks.bs = bs
    ·rw [beq_iff_eq.2 heq] at hse
     have HR := toHid (same_some HI.out hkl (by rw [hs, ← heq]; rfl))
     generalize strOfNums ks.bs = A at *
     generalize strOfNums bs = B at *
     clear hget hs hkl hb heq hkA
     go_wp2
     go_ret
     exact ⟨by rw [HR.out]; rfl, rfl⟩
    ·rw [beq_false_of_ne heq] at hse
     have HN : Hid (∀ j, j < k + 1 → (x.slots.getD j none).map KS.bs ≠ some bs) := fun j hj => by
      by_cases hjk : j < k
      ·exact HI.out j hjk
      ·obtain rfl : j = k := by omega
       rw [hs]
       simpa using heq
     generalize strOfNums ks.bs = A at *
     generalize strOfNums bs = B at *
     clear hget hs hkl hb heq hkA
     go_wp2
     exact ⟨⟨k + 1, by omega, by go_num, HN⟩, by simp [intOf]; omega⟩
  ·obtain rfl : k = n := by omega
   have HR := toHid (same_none (fun j hj => HI.out j (by rw [← HL.out]; exact hj)))
   go_wp2
   go_ret
   exact ⟨by rw [HR.out]; rfl, rfl⟩
end Go.Proofs.YtmhhahmjkopjhaaGreat
end
section
namespace Go.Proofs.YtmhhahmjkopjhaaGreat
open Go.RowKit
structure Turned (x x' : RX) : Prop where
 r : x'.r = x.r
 kind : x'.kind = x.kind
 size : x'.size = x.size
 g : x'.g = x.g
 h : x'.h = x.h
 slots : x'.slots = x.slots
 lens : x'.whens.length = x.whens.length
 clock0 : x.clock ≤ x'.clock
 clock1 : x'.clock ≤ x.clock + 1
structure RUp (x : RX) : Prop where
 lens : x.whens.length = x.slots.length
 many : x.slots.length ≤ 64
 clock0 : 0 ≤ x.clock
 clock1 : x.clock ≤ 1000000000
theorem same_lt (x : RX) (u : RUp x) (bs : List Int) : sameI x.slots bs < x.whens.length := by
 have := u.lens
 rcases same_bd x.slots bs with h | h <;> omega
def rfindI (x : RX) (bs : List Int) : Int := if (bs.length : Int) = x.size then sameI x.slots bs else -1
def StepPost (w : World) (x : RX) (v : Value) (e : Ending) (w' : World) : Prop := e = .returned v ∧ ∃ x', RAt w' x' ∧ Turned x x' ∧ Touch x.top w w'
def rputI (x : RX) (bs : List Int) (fl : Int) : Int × Int :=
 if (bs.length : Int) = x.size then (if 2 < fl then (0, 72) else if sameI x.slots bs < 0 then (0, 71) else if fl = 1 then (0, 70) else (sameI x.slots bs, 0)) else (0, 2)
end Go.Proofs.YtmhhahmjkopjhaaGreat
end
section
namespace Go.Proofs.YtmhhahmjkopjhaaGreat
open Go.RowKit
attribute [local go_sem ↓] Go.wp_at_zero Go.wp_at_succ
theorem key_append {w : World} {k : KS} (h : k.At w) :
  ∃ g cap w', (Builtin.append_ #[39, 39] 39 #[.slice (some ⟨w.heap.size, 0, none⟩) 0 0, k.v]).run Tryz.prog (w.alloc (.cells #[] 5)) = .ok (.slice (some ⟨g, 0, none⟩) k.bs.length cap) w' ∧ (⟨g, cap, k.bs⟩ : KS).At w' ∧ Touch [] w w' ∧ w.heap.size ≤ g := by
 obtain ⟨i, hi0, hz, hs, hb⟩ := info_of info5
 have hE := Blk.newA w #[] [] 5 rfl
 have hta : Touch [] w (w.alloc (.cells #[] 5)) := (Touch.refl _ w).alloc _
 have hk := h.touch hta (by simp)
 have hrow : RowAt (w.alloc (.cells #[] 5)) 5 1 (some w.heap.size) 0 0 [] := ⟨rfl, Nat.le_refl _, by unfold maxLen; omega, [], by simpa using hE, by simp⟩
 have hl := h.2.2
 obtain ⟨g', cap', w', hr, h2, h3, h4, _⟩ := run_append_row (P := Tryz.prog) (w.alloc (.cells #[] 5)) 39 39 5 i (.int .u8 0) 1 Tryz.underlying39 hi0 hz hs rfl (by omega) (some w.heap.size) 0 0 [] hrow ⟨k.b, 0, none⟩ k.bs.length k.cap (k.bs.map (Value.int .u8)) (by simp)
  (fun j v hj => by
   rw [Addr.add_lit, Nat.zero_add]
   obtain ⟨⟨rest, hB⟩, _⟩ := hk
   exact hB.cell (by rw [List.getElem?_append_left (List.getElem?_eq_some_iff.1 hj).1]; exact hj))
  (fun u hu => by
   obtain ⟨x, _, rfl⟩ := List.mem_map.1 hu
   rfl) (by rw [hb]; omega) (by omega)
 simp only [Nat.zero_add, List.nil_append] at hr h2
 cases g' with
 | none =>
  have q1 := h2.2.1
  have q2 : cap' = 0 := h2.2.2.2
  omega
 | some g =>
  obtain ⟨_, hcp, _, rest, hB, _⟩ := h2
  refine ⟨g, cap', w', hr, ⟨⟨rest, hB.toF⟩, h.2.1, h.2.2.1, h.2.2.2.1, hcp⟩, hta.trans h3 (fun y hy => Or.inr (by simp at hy; omega)), ?_⟩
  rcases h4 with h4 | h4
  ·injection h4 with h4; omega
  ·injection h4 with h4
   rw [h4, World.size_alloc]
   omega
theorem KLs.push {w0 w : World} {g : Option Nat} {cap : Nat} {l : List KS} (h : KLs w0 w g cap l) (ht : Touch [] w0 w) (k : KS) (hk : k.At w) (hk0 : w0.heap.size ≤ k.b) (hg : g ≠ some k.b) (hl : l.length ≤ 1000) :
  ∃ g' cap' w', (Builtin.append_ #[105, 105] 105 #[slV g l.length cap, .slice (some ⟨w.heap.size, 0, none⟩) 1 1]).run Tryz.prog (w.alloc (.cells #[k.v] 39)) = .ok (slV g' (l.length + 1) cap') w' ∧ KLs w0 w' g' cap' (l ++ [k]) ∧ Touch [] w0 w' := by
 obtain ⟨i, hi0, hz, hs, hb⟩ := info_of info32
 have hN := Blk.newA w #[k.v] _ 39 rfl
 have hta : Touch [] w (w.alloc (.cells #[k.v] 39)) := (Touch.refl _ w).alloc _
 have hL := h.touch hta (by simp)
 obtain ⟨g', cap', w', hr, h2, h3, h4, h5⟩ := run_append_row (P := Tryz.prog) (w.alloc (.cells #[k.v] 39)) 105 105 39 i (.slice none 0 0) 1 Tryz.underlying105 hi0 hz hs rfl (by omega) g l.length cap _ hL.row ⟨w.heap.size, 0, none⟩ 1 1 [k.v] rfl
  (fun j u hj => by
   rw [Addr.add_lit]
   have : j = 0 := by have := (List.getElem?_eq_some_iff.1 hj).1; simp at this; exact this
   subst this
   exact hN.cell hj) (fun u hu => by
   simp only [List.mem_singleton] at hu
   subst hu
   rfl) (by rw [hb]; omega) (by omega)
 have ht2 := ht.trans hta (by simp)
 have hsz := ht2.size
 have hkeys : ∀ x ∈ l ++ [k], x.At w ∧ w0.heap.size ≤ x.b ∧ g ≠ some x.b := by
  intro x hx
  rcases List.mem_append.1 hx with hx | hx
  ·exact h.keys x hx
  ·simp only [List.mem_singleton] at hx
   subst hx
   exact ⟨hk, hk0, hg⟩
 refine ⟨g', cap', w', hr, ⟨by simpa using h2, fun b hb => ?_, fun x hx => ?_⟩, ht2.trans h3 (fun y hy => Or.inr (h.own y (by simpa using hy)))⟩
 ·rcases h4 with rfl | rfl
  ·exact h.own b hb
  ·injection hb with hb
   omega
 ·obtain ⟨a1, a2, a3⟩ := hkeys x hx
  refine ⟨(a1.touch hta (by simp)).touch h3 (fun hy => a3 (by simpa using hy)), a2, ?_⟩
  rcases h4 with rfl | rfl
  ·exact a3
  ·intro e
   injection e with e
   have := a1.lt
   rw [World.size_alloc] at e
   omega
def keysOf (l : List (Option KS)) : List (List Int) := l.filterMap (Option.map KS.bs)
theorem keysOf_snoc {l : List (Option KS)} {k : Nat} (hk : k < l.length) : keysOf (l.take (k + 1)) = keysOf (l.take k) ++ (match l.getD k none with
  | none => []
  | some x => [x.bs]) := by
 unfold keysOf
 rw [List.take_add_one, List.filterMap_append, List.getD_eq_getElem?_getD, List.getElem?_eq_getElem hk]
 cases l[k] <;> rfl
theorem KLs.at_ {w0 w : World} {g : Option Nat} {cap : Nat} {l : List KS} (h : KLs w0 w g cap l) {j : Nat} (hj : j < l.length) : ∃ b k, g = some b ∧ l[j]? = some k ∧ w.cell? ⟨b, j, none⟩ = some k.v ∧ k.At w := by
 have hget : l[j]? = some l[j] := List.getElem?_eq_getElem hj
 have hr := h.row
 cases hg : g with
 | none =>
  rw [hg] at hr
  have h1 := hr.2.1
  have h2 : cap = 0 := hr.2.2.2
  omega
 | some b =>
  rw [hg] at hr
  obtain ⟨_, _, _, rest, hB, _⟩ := hr
  refine ⟨b, l[j], rfl, hget, hB.cell ?_, (h.keys _ (List.mem_of_getElem? hget)).1⟩
  rw [List.getElem?_append_left (by simpa using hj), List.getElem?_map, hget]
  rfl
end Go.Proofs.YtmhhahmjkopjhaaGreat
end
section
namespace Go.Proofs.YtmhhahmjkopjhaaGreat
open Go.RowKit
attribute [local go_sem ↓] Go.wp_at_zero Go.wp_at_succ
theorem RAt.placed {w : World} {x : RX} (h : RAt w x) {b j : Nat} (hb : x.g = some b) (hj : j < x.slots.length) (s : Option KS) (hs : ∀ k, s = some k → k.At w ∧ k.b ∉ x.top) :
  RAt (w.setCell ⟨b, j, none⟩ (slotV s)) { x with slots := x.slots.set j s } := by
 have ht : Touch [b] w (w.setCell ⟨b, j, none⟩ (slotV s)) := (Touch.refl _ w).setCell _ _ (Or.inl (by simp))
 have hap := h.apart
 simp only [RX.top, List.nodup_cons, hb, Option.toList_some, List.nodup_append, List.mem_append, List.mem_singleton] at hap
 have hmem : ∀ k, some k ∈ x.slots.set j s → k.At w ∧ k.b ∉ x.top := fun k hk => by
  rcases List.mem_or_eq_of_mem_set hk with hk | hk
  ·exact ⟨h.keys k hk, h.apartK k hk⟩
  ·exact hs k hk.symm
 refine ⟨?_, ?_, h.wrow.touch ht (fun c hc hx => ?_), fun k hk => (hmem k hk).1.touch ht (fun hx => ?_), h.apart, fun k hk => (hmem k hk).2⟩
 ·have := ht.blk h.self (by simp; intro e; exact hap.1 (Or.inl e))
  simpa using this
 ·obtain ⟨h1, h2, h3, h4⟩ := h.row
  rw [hb] at h4
  obtain ⟨rest', hB', hc⟩ := h4
  have hset := hB'.setCell j (slotV s)
  rw [List.set_append_left _ _ (by simpa using hj), ← List.map_set] at hset
  show RowAt _ 39 1 x.g (x.slots.set j s).length x.scap ((x.slots.set j s).map slotV)
  rw [hb]
  exact ⟨by simp, by simpa using h2, h3, rest', hset, by simpa using hc⟩
 ·simp at hx
  subst hx
  exact hap.2.2.2 c rfl c (by simp [hc]) rfl
 ·simp at hx
  exact (hmem k hk).2 (by rw [hx]; exact RX.mem_g hb)
end Go.Proofs.YtmhhahmjkopjhaaGreat
end
section
namespace Go.Proofs.YtmhhahmjkopjhaaGreat
open Go.RowKit
structure PX where
 kind : Int
 size : Int
 max : Int
 clock : Int
 slots : List (Option (List Int))
 whens : List Int
def RX.p (x : RX) : PX := ⟨x.kind, x.size, x.max, x.clock, x.slots.map (Option.map KS.bs), x.whens⟩
def idxI : Option Nat → Int
 | some i => i
 | none => -1
def sameP (l : List (Option (List Int))) (bs : List Int) : Option Nat := l.findIdx? fun s => s == some bs
theorem sameI_eq (l : List (Option KS)) (bs : List Int) : sameI l bs = idxI (sameP (l.map (Option.map KS.bs)) bs) := by
 unfold sameI sameN sameP
 rw [List.findIdx?_map]
 have he : ((fun s => s == some bs) ∘ Option.map KS.bs) = fun s : Option KS => s.map KS.bs == some bs := rfl
 rw [he]
 cases List.findIdx? _ l <;> rfl
def freeP (l : List (Option (List Int))) : Option Nat := l.findIdx? Option.isNone
def oldFrom (ws : List Int) : Nat → Nat → Nat
 | 0, a => a
 | n + 1, a => oldFrom ws n (if ws.getD (ws.length - (n + 1)) 0 < ws.getD a 0 then ws.length - (n + 1) else a)
theorem oldFrom_succ (ws : List Int) (q a : Nat) : oldFrom ws (q + 1) a = oldFrom ws q (if ws.getD (ws.length - (q + 1)) 0 < ws.getD a 0 then ws.length - (q + 1) else a) := rfl
def oldP (ws : List Int) : Nat := oldFrom ws ws.length 0
def PX.touch (x : PX) (a : Option Nat) : PX := { x with clock := x.clock + 1, whens := match a with
 | some i => x.whens.set i (x.clock + 1)
 | none => x.whens }
def PX.find (x : PX) (bs : List Int) : Option Nat × PX :=
 if (bs.length : Int) = x.size then (sameP x.slots bs, x.touch (sameP x.slots bs)) else (none, x)
def PX.room (x : PX) : Option Nat := match freeP x.slots with
 | some f => some f
 | none => if x.kind = 2 then some (oldP x.whens) else none
def PX.laid (x : PX) (at_ : Nat) (bs : List Int) : PX := ({ x with slots := x.slots.set at_ (some bs) } : PX).touch (some at_)
def PX.put (x : PX) (bs : List Int) (fl : Int) : (Int × Bool × Int) × PX :=
 if (bs.length : Int) = x.size then
  if 2 < fl then ((0, false, 72), x)
  else match sameP x.slots bs with
   | some i => if fl = 1 then ((0, false, 70), x) else (((i : Int), false, 0), x.touch (some i))
   | none => if x.kind = 0 then ((0, false, 71), x) else if fl = 2 then ((0, false, 14), x) else match x.room with
    | some f => (((f : Int), true, 0), x.laid f bs)
    | none => ((0, false, 71), x)
 else ((0, false, 2), x)
def PX.del (x : PX) (bs : List Int) : (Int × Int) × PX :=
 if x.kind = 0 then ((0, 2), x) else if (bs.length : Int) = x.size then match sameP x.slots bs with
  | some i => (((i : Int), 0), { x with slots := x.slots.set i none })
  | none => ((0, 14), x)
 else ((0, 2), x)
def PX.keys (x : PX) : List (List Int) := x.slots.filterMap id
theorem p_touched (x : RX) (a : Option Nat) : (x.touched (idxI a)).p = x.p.touch a := by
 cases a with
 | none => rfl
 | some i =>
  unfold RX.touched RX.p PX.touch idxI
  simp
theorem sameP_lt {l : List (Option (List Int))} {bs : List Int} {i : Nat} (h : sameP l bs = some i) : i < l.length := by
 unfold sameP at h
 rw [List.findIdx?_eq_some_iff_getElem] at h
 exact h.1
theorem freeP_lt {l : List (Option (List Int))} {i : Nat} (h : freeP l = some i) : i < l.length := by
 unfold freeP at h
 rw [List.findIdx?_eq_some_iff_getElem] at h
 exact h.1
structure Step (w w' : World) (x x' : RX) (q : PX) : Prop where
 at_ : RAt w' x'
 p : x'.p = q
 r : x'.r = x.r
 touch : Touch x.top w w'
 blocks : ∀ b ∈ x'.blocks, b ∈ x.blocks ∨ w.heap.size ≤ b
 lens : x'.whens.length = x.whens.length
 slots : x'.slots.length = x.slots.length
theorem free_step {l : List (Option (List Int))} {k : Nat} (hk : k < l.length) {a : Int} (ha : a = idxI ((freeP (l.drop (k + 1))).map (· + (k + 1)))) : (if l.getD k none = none then (k : Int) else a) = idxI ((freeP (l.drop k)).map (· + k)) := by
 rw [List.drop_eq_getElem_cons hk, List.getD_eq_getElem?_getD, List.getElem?_eq_getElem hk]
 unfold freeP at *
 rw [List.findIdx?_cons]
 cases hc : l[k] with
 | none => simp [idxI]
 | some s =>
  simp only [Option.getD_some, reduceCtorEq, ↓reduceIte, Option.isNone_some, Bool.false_eq_true]
  rw [ha]
  cases List.findIdx? Option.isNone (l.drop (k + 1)) with
  | none => rfl
  | some i => simp only [Option.map_some, idxI]; omega
theorem keyat_append2 {w : World} {sa : Option Addr} {sl : Nat} {bs : List Int} (h : KeyAt w sa sl bs) (h1 : 1 ≤ bs.length) (h2 : bs.length ≤ 16) (kc : Nat) :
  ∃ g cap w', (Builtin.append_ #[39, 39] 39 #[.slice (some ⟨w.heap.size, 0, none⟩) 0 0, .slice sa sl kc]).run Tryz.prog (w.alloc (.cells #[] 5)) = .ok (.slice (some ⟨g, 0, none⟩) sl cap) w' ∧ (⟨g, cap, bs⟩ : KS).At w' ∧ Touch [] w w' ∧ w.heap.size ≤ g ∧ RowAt w' 5 1 (some g) bs.length cap (bs.map (Value.int .u8)) := by
 obtain ⟨i, hi0, hz, hs, hb⟩ := info_of info5
 have hE := Blk.newA w #[] [] 5 rfl
 have hta : Touch [] w (w.alloc (.cells #[] 5)) := (Touch.refl _ w).alloc _
 have hrow : RowAt (w.alloc (.cells #[] 5)) 5 1 (some w.heap.size) 0 0 [] := ⟨rfl, Nat.le_refl _, by unfold maxLen; omega, [], by simpa using hE, by simp⟩
 obtain ⟨e1, e2, e3, e4⟩ := h
 subst e1
 obtain ⟨b, off, rfl, hcell⟩ := e4 h1
 obtain ⟨g', cap', w', hr, q2, q3, q4, _⟩ := run_append_row (P := Tryz.prog) (w.alloc (.cells #[] 5)) 39 39 5 i (.int .u8 0) 1 Tryz.underlying39 hi0 hz hs rfl (by omega) (some w.heap.size) 0 0 [] hrow ⟨b, off, none⟩ bs.length kc (bs.map (Value.int .u8)) (by simp)
  (fun j v hj => by
   rw [Addr.add_lit]
   have hjl : j < bs.length := by have := (List.getElem?_eq_some_iff.1 hj).1; simpa using this
   have := hta.cell (hcell j hjl) (by simp)
   rw [List.getElem?_map, List.getElem?_eq_getElem hjl] at hj
   rw [List.getD_eq_getElem?_getD, List.getElem?_eq_getElem hjl] at this
   rw [this]
   exact hj)
  (fun u hu => by
   obtain ⟨x, _, rfl⟩ := List.mem_map.1 hu
   rfl) (by rw [hb]; omega) (by omega)
 simp only [Nat.zero_add, List.nil_append] at hr q2
 cases g' with
 | none =>
  have q1 := q2.2.1
  have q2 : cap' = 0 := q2.2.2.2
  omega
 | some g =>
  have hrw := q2
  obtain ⟨_, hcp, _, rest, hB, _⟩ := q2
  refine ⟨g, cap', w', hr, ⟨⟨rest, hB.toF⟩, e2, h2, h1, hcp⟩, hta.trans q3 (fun y hy => Or.inr (by simp at hy; omega)), ?_, hrw⟩
  rcases q4 with q4 | q4
  ·injection q4 with q4; omega
  ·injection q4 with q4
   rw [q4, World.size_alloc]
   omega
theorem keyat_append {w : World} {sa : Option Addr} {sl : Nat} {bs : List Int} (h : KeyAt w sa sl bs) (h1 : 1 ≤ bs.length) (h2 : bs.length ≤ 16) (kc : Nat) :
  ∃ g cap w', (Builtin.append_ #[39, 39] 39 #[.slice (some ⟨w.heap.size, 0, none⟩) 0 0, .slice sa sl kc]).run Tryz.prog (w.alloc (.cells #[] 5)) = .ok (.slice (some ⟨g, 0, none⟩) sl cap) w' ∧ (⟨g, cap, bs⟩ : KS).At w' ∧ Touch [] w w' ∧ w.heap.size ≤ g := by
 obtain ⟨g, cap, w', a1, a2, a3, a4, _⟩ := keyat_append2 h h1 h2 kc
 exact ⟨g, cap, w', a1, a2, a3, a4⟩
theorem RAt.laid {w w1 : World} {x : RX} (h : RAt w x) {gb j : Nat} (hg : x.g = some gb) (hj : j < x.slots.length) {k : KS} (hA : k.At w1) (ht : Touch [] w w1) (hk : w.heap.size ≤ k.b) :
  RAt (w1.setCell ⟨gb, j, none⟩ k.v) { x with slots := x.slots.set j (some k) } ∧ Touch x.top w (w1.setCell ⟨gb, j, none⟩ k.v) ∧ ∀ b ∈ ({ x with slots := x.slots.set j (some k) } : RX).blocks, b ∈ x.blocks ∨ w.heap.size ≤ b := by
 refine ⟨(h.touch ht (by simp)).placed hg hj (some k) (fun y hy => ?_), (Touch.nil ht).setCell _ _ (Or.inl (RX.mem_g hg)), fun b hb => ?_⟩
 ·injection hy with hy
  subst hy
  refine ⟨hA, fun hx => ?_⟩
  have := h.lt _ (RX.mem_top hx)
  omega
 ·rcases List.mem_append.1 hb with hb | hb
  ·exact Or.inl (List.mem_append_left _ hb)
  ·obtain ⟨a, ha, hab⟩ := List.mem_filterMap.1 hb
   rcases List.mem_or_eq_of_mem_set ha with ha | ha
   ·exact Or.inl (List.mem_append_right _ (List.mem_filterMap.2 ⟨a, ha, hab⟩))
   ·subst ha
    injection hab with hab
    subst hab
    exact Or.inr hk
end Go.Proofs.YtmhhahmjkopjhaaGreat
end
section
namespace Go.Proofs.YtmhhahmjkopjhaaGreat
open Go.RowKit
theorem RAt.pushW {w : World} {t : RX} (h : RAt w t) (hl : t.whens.length ≤ 1000) (v : Int) :
  ∃ g' cap' w', (Builtin.append_ #[112, 112] 112 #[slV t.h t.whens.length t.wcap, .slice (some ⟨w.heap.size, 0, none⟩) 1 1]).run Tryz.prog (w.alloc (.cells #[.int .i64 v] 3)) = .ok (slV g' (t.whens.length + 1) cap') w' ∧
   w'.cell? ⟨t.r, 4, none⟩ = some (slV t.h t.whens.length t.wcap) ∧ w'.frozen? ⟨t.r, 4, none⟩ = false ∧
   RAt (w'.setCell ⟨t.r, 4, none⟩ (slV g' (t.whens.length + 1) cap')) { t with h := g', wcap := cap', whens := t.whens ++ [v] } ∧
   Touch t.top w w' ∧ Touch t.top w (w'.setCell ⟨t.r, 4, none⟩ (slV g' (t.whens.length + 1) cap')) ∧
   (∀ b ∈ ({ t with h := g', wcap := cap', whens := t.whens ++ [v] } : RX).blocks, b ∈ t.blocks ∨ w.heap.size ≤ b) := by
 obtain ⟨i, hi0, hz, hs, hb⟩ := info_of info3
 have hN := Blk.newA w #[.int .i64 v] _ 3 rfl
 have hta : Touch [] w (w.alloc (.cells #[.int .i64 v] 3)) := (Touch.refl _ w).alloc _
 have hL := h.touch hta (by simp)
 have hlt := h.lt
 obtain ⟨g', cap', w', hr, h2, h3, h4, _⟩ := run_append_row (P := Tryz.prog) (w.alloc (.cells #[.int .i64 v] 3)) 112 112 3 i (.int .i64 0) 1 Tryz.underlying112 hi0 hz hs rfl (by omega) t.h t.whens.length t.wcap _ hL.wrow ⟨w.heap.size, 0, none⟩ 1 1 [.int .i64 v] rfl
  (fun j u hj => by
   rw [Addr.add_lit]
   have : j = 0 := by have := (List.getElem?_eq_some_iff.1 hj).1; simp at this; exact this
   subst this
   exact hN.cell hj) (fun u hu => by
   simp only [List.mem_singleton] at hu
   subst hu
   rfl) (by rw [hb]; omega) (by omega)
 have hap := h.apart
 simp only [RX.top, List.nodup_cons, List.mem_append, Option.mem_toList, List.nodup_append] at hap
 have hrh : t.r ∉ t.h.toList := fun hx => hap.1 (Or.inr (by simpa using hx))
 have hself := h3.blk hL.self hrh
 have hts : Touch [t.r] w' (w'.setCell ⟨t.r, 4, none⟩ (slV g' (t.whens.length + 1) cap')) := (Touch.refl _ w').setCell _ _ (Or.inl (by simp))
 have hg' : ∀ b, g' = some b → t.h = some b ∨ b = w.heap.size + 1 := fun b hb => by
  rcases h4 with h4 | h4
  ·rw [← h4]; exact Or.inl hb
  ·rw [hb] at h4; injection h4 with h4; exact Or.inr (by rw [h4]; simp)
 have hgr : g' ≠ some t.r := fun e => by
  rcases hg' _ e with hx | hx
  ·exact hrh (by simpa using hx)
  ·have := hlt t.r (RX.mem_top t.mem_r); omega
 have hgk : ∀ k, some k ∈ t.slots → g' ≠ some k.b := fun k hk e => by
  rcases hg' _ e with hx | hx
  ·exact h.apartK k hk (RX.mem_h hx)
  ·have := hlt k.b (RX.mem_key hk); omega
 have hgg : ∀ b, t.g = some b → g' ≠ some b := fun b hgb e => by
  rcases hg' _ e with hx | hx
  ·exact hap.2.2.2 b (by simpa using hgb) b (by simpa using hx) rfl
  ·have := hlt b (RX.mem_top (RX.mem_g hgb)); omega
 refine ⟨g', cap', w', hr, hself.cell rfl, hself.frozen 4, ⟨?_, ?_, ?_, ?_, ?_, ?_⟩, ?_, ?_, ?_⟩
 ·have := hself.setCell 4 (slV g' (t.whens.length + 1) cap')
  simpa using this
 ·refine (hL.row.touch h3 (fun b hgb hx => ?_)).touch hts (fun b hgb hx => ?_)
  ·exact hap.2.2.2 b (by simpa using hgb) b (by simpa using hx) rfl
  ·simp at hx
   subst hx
   exact hap.1 (Or.inl hgb)
 ·have := h2.touch hts (fun b hgb hx => by simp at hx; subst hx; exact hgr hgb)
  simpa using this
 ·intro k hk
  refine ((hL.keys k hk).touch h3 (fun hx => ?_)).touch hts (fun hx => ?_)
  ·exact h.apartK k hk (RX.mem_h (by simpa using hx))
  ·simp at hx
   exact h.apartK k hk (by rw [hx]; exact t.mem_r)
 ·show (t.r :: (t.g.toList ++ g'.toList)).Nodup
  simp only [List.nodup_cons, List.mem_append, Option.mem_toList, List.nodup_append]
  refine ⟨fun hx => ?_, by cases t.g <;> simp, by cases g' <;> simp, fun a ha b hb e => ?_⟩
  ·rcases hx with hx | hx
   ·exact hap.1 (Or.inl hx)
   ·exact hgr hx
  ·subst e
   exact hgg a ha hb
 ·intro k hk hx
  have hx : k.b ∈ (t.r :: (t.g.toList ++ g'.toList)) := hx
  simp only [List.mem_cons, List.mem_append, Option.mem_toList] at hx
  rcases hx with hx | hx | hx
  ·exact h.apartK k hk (by rw [hx]; exact t.mem_r)
  ·exact h.apartK k hk (RX.mem_g hx)
  ·exact hgk k hk hx
 ·exact Touch.trans (Touch.nil hta) h3 (fun x hx => Or.inl (RX.mem_h (by simpa using hx)))
 ·refine Touch.trans (b := w') ?_ hts (fun x hx => Or.inl (by simp at hx; rw [hx]; exact t.mem_r))
  exact Touch.trans (Touch.nil hta) h3 (fun x hx => Or.inl (RX.mem_h (by simpa using hx)))
 ·intro b hb
  rcases List.mem_append.1 hb with hb | hb
  ·have hb : b ∈ (t.r :: (t.g.toList ++ g'.toList)) := hb
   simp only [List.mem_cons, List.mem_append, Option.mem_toList] at hb
   rcases hb with hb | hb | hb
   ·exact Or.inl (by rw [hb]; exact RX.mem_top t.mem_r)
   ·exact Or.inl (RX.mem_top (RX.mem_g hb))
   ·rcases hg' _ hb with hx | hx
    ·exact Or.inl (RX.mem_top (RX.mem_h hx))
    ·exact Or.inr (by omega)
  ·exact Or.inl (List.mem_append_right _ hb)
theorem RAt.pushS {w : World} {t : RX} (h : RAt w t) (hl : t.slots.length ≤ 1000) (s : Option KS) (hs : ∀ k, s = some k → k.At w ∧ k.b ∉ t.top) :
  ∃ g' cap' w', (Builtin.append_ #[105, 105] 105 #[slV t.g t.slots.length t.scap, .slice (some ⟨w.heap.size, 0, none⟩) 1 1]).run Tryz.prog (w.alloc (.cells #[slotV s] 39)) = .ok (slV g' (t.slots.length + 1) cap') w' ∧
   w'.cell? ⟨t.r, 3, none⟩ = some (slV t.g t.slots.length t.scap) ∧ w'.frozen? ⟨t.r, 3, none⟩ = false ∧
   RAt (w'.setCell ⟨t.r, 3, none⟩ (slV g' (t.slots.length + 1) cap')) { t with g := g', scap := cap', slots := t.slots ++ [s] } ∧
   Touch t.top w w' ∧ Touch t.top w (w'.setCell ⟨t.r, 3, none⟩ (slV g' (t.slots.length + 1) cap')) ∧
   (∀ b ∈ ({ t with g := g', scap := cap', slots := t.slots ++ [s] } : RX).blocks, b ∈ t.blocks ∨ w.heap.size ≤ b ∨ ∃ k, s = some k ∧ b = k.b) := by
 obtain ⟨i, hi0, hz, hs0, hb⟩ := info_of info32
 have hN := Blk.newA w #[slotV s] _ 39 rfl
 have hta : Touch [] w (w.alloc (.cells #[slotV s] 39)) := (Touch.refl _ w).alloc _
 have hL := h.touch hta (by simp)
 have hlt := h.lt
 obtain ⟨g', cap', w', hr, h2, h3, h4, _⟩ := run_append_row (P := Tryz.prog) (w.alloc (.cells #[slotV s] 39)) 105 105 39 i (.slice none 0 0) 1 Tryz.underlying105 hi0 hz hs0 rfl (by omega) t.g t.slots.length t.scap _ hL.row ⟨w.heap.size, 0, none⟩ 1 1 [slotV s] rfl
  (fun j u hj => by
   rw [Addr.add_lit]
   have : j = 0 := by have := (List.getElem?_eq_some_iff.1 hj).1; simp at this; exact this
   subst this
   exact hN.cell hj) (fun u hu => by
   simp only [List.mem_singleton] at hu
   subst hu
   cases s <;> rfl) (by rw [hb]; omega) (by omega)
 have hap := h.apart
 simp only [RX.top, List.nodup_cons, List.mem_append, Option.mem_toList, List.nodup_append] at hap
 have hrg : t.r ∉ t.g.toList := fun hx => hap.1 (Or.inl (by simpa using hx))
 have hself := h3.blk hL.self hrg
 have hts : Touch [t.r] w' (w'.setCell ⟨t.r, 3, none⟩ (slV g' (t.slots.length + 1) cap')) := (Touch.refl _ w').setCell _ _ (Or.inl (by simp))
 have hg' : ∀ b, g' = some b → t.g = some b ∨ b = w.heap.size + 1 := fun b hb => by
  rcases h4 with h4 | h4
  ·rw [← h4]; exact Or.inl hb
  ·rw [hb] at h4; injection h4 with h4; exact Or.inr (by rw [h4]; simp)
 have hgr : g' ≠ some t.r := fun e => by
  rcases hg' _ e with hx | hx
  ·exact hrg (by simpa using hx)
  ·have := hlt t.r (RX.mem_top t.mem_r); omega
 have hall : ∀ k, some k ∈ t.slots ++ [s] → k.At w ∧ k.b ∉ t.top := fun k hk => by
  rcases List.mem_append.1 hk with hk | hk
  ·exact ⟨h.keys k hk, h.apartK k hk⟩
  ·exact hs k (List.mem_singleton.1 hk).symm
 have hgk : ∀ k, some k ∈ t.slots ++ [s] → g' ≠ some k.b := fun k hk e => by
  rcases hg' _ e with hx | hx
  ·exact (hall k hk).2 (RX.mem_g hx)
  ·have := (hall k hk).1.lt; omega
 have hgg : ∀ b, t.h = some b → g' ≠ some b := fun b hgb e => by
  rcases hg' _ e with hx | hx
  ·exact hap.2.2.2 b (by simpa using hx) b (by simpa using hgb) rfl
  ·have := hlt b (RX.mem_top (RX.mem_h hgb)); omega
 refine ⟨g', cap', w', hr, hself.cell rfl, hself.frozen 3, ⟨?_, ?_, ?_, ?_, ?_, ?_⟩, ?_, ?_, ?_⟩
 ·have := hself.setCell 3 (slV g' (t.slots.length + 1) cap')
  simpa using this
 ·have := h2.touch hts (fun b hgb hx => by simp at hx; subst hx; exact hgr hgb)
  simpa using this
 ·refine (hL.wrow.touch h3 (fun b hgb hx => ?_)).touch hts (fun b hgb hx => ?_)
  ·exact hap.2.2.2 b (by simpa using hx) b (by simpa using hgb) rfl
  ·simp at hx
   subst hx
   exact hap.1 (Or.inr hgb)
 ·intro k hk
  refine (((hall k hk).1.touch hta (by simp)).touch h3 (fun hx => ?_)).touch hts (fun hx => ?_)
  ·exact (hall k hk).2 (RX.mem_g (by simpa using hx))
  ·simp at hx
   exact (hall k hk).2 (by rw [hx]; exact t.mem_r)
 ·show (t.r :: (g'.toList ++ t.h.toList)).Nodup
  simp only [List.nodup_cons, List.mem_append, Option.mem_toList, List.nodup_append]
  refine ⟨fun hx => ?_, by cases g' <;> simp, by cases t.h <;> simp, fun a ha b hb e => ?_⟩
  ·rcases hx with hx | hx
   ·exact hgr hx
   ·exact hap.1 (Or.inr hx)
  ·subst e
   exact hgg a hb ha
 ·intro k hk hx
  have hx : k.b ∈ (t.r :: (g'.toList ++ t.h.toList)) := hx
  simp only [List.mem_cons, List.mem_append, Option.mem_toList] at hx
  rcases hx with hx | hx | hx
  ·exact (hall k hk).2 (by rw [hx]; exact t.mem_r)
  ·exact hgk k hk hx
  ·exact (hall k hk).2 (RX.mem_h hx)
 ·exact Touch.trans (Touch.nil hta) h3 (fun x hx => Or.inl (RX.mem_g (by simpa using hx)))
 ·refine Touch.trans (b := w') ?_ hts (fun x hx => Or.inl (by simp at hx; rw [hx]; exact t.mem_r))
  exact Touch.trans (Touch.nil hta) h3 (fun x hx => Or.inl (RX.mem_g (by simpa using hx)))
 ·intro b hb
  rcases List.mem_append.1 hb with hb | hb
  ·have hb : b ∈ (t.r :: (g'.toList ++ t.h.toList)) := hb
   simp only [List.mem_cons, List.mem_append, Option.mem_toList] at hb
   rcases hb with hb | hb | hb
   ·exact Or.inl (by rw [hb]; exact RX.mem_top t.mem_r)
   ·rcases hg' _ hb with hx | hx
    ·exact Or.inl (RX.mem_top (RX.mem_g hx))
    ·exact Or.inr (Or.inl (by omega))
   ·exact Or.inl (RX.mem_top (RX.mem_h hb))
  ·obtain ⟨a, ha, hab⟩ := List.mem_filterMap.1 hb
   rcases List.mem_append.1 ha with ha | ha
   ·exact Or.inl (List.mem_append_right _ (List.mem_filterMap.2 ⟨a, ha, hab⟩))
   ·simp only [List.mem_singleton] at ha
    subst ha
    cases a with
    | none => cases hab
    | some k =>
     injection hab with hab
     exact Or.inr (Or.inr ⟨k, rfl, hab.symm⟩)
end Go.Proofs.YtmhhahmjkopjhaaGreat
end
section
namespace Go.Proofs.YtmhhahmjkopjhaaGreat
open Go.RowKit
attribute [local go_sem ↓] Go.wp_at_zero Go.wp_at_succ
theorem step_append_known {P : Program} {ops : Array Oper} {o : Oper} {a : Act} {w : World} {K : Act → World → Prop} {Q : Exit → Act → World → Prop} {E : Prop}
  (hg : o.guard = none) (d x : Operand) (dT sT : TypeId) (hop : o.op = Op.call { callee := Callee.builtin Builtin.append, args := #[d, x], argTypes := #[dT, sT] })
  (v u : Value) (hd : a.eval d = v) (hx : a.eval x = u) {v' : Value} {w' : World} (hr : (Builtin.append_ #[dT, sT] o.type #[v, u]).run P w = .ok v' w') (hK : K (a.put o.dst v') w') :
  if Region.wanted o (yielded ops a.tmps) = true then Oper.wp P o a w K Q else E := by
 rw [if_pos (by simp [Region.wanted, hg])]
 unfold Oper.wp
 simp only [execOp, hop, resolve, invoke, builtin, Sem.run_bind, Sem.run_pure, Result.andThen_ok, List.map_toArray, List.map_cons, List.map_nil, hd, hx, hr]
 exact hK
structure CopyAt (w w' : World) (x t : RX) (i j : Nat) : Prop where
 ref : RAt w' t
 kind : t.kind = x.kind
 size : t.size = x.size
 max : t.max = x.max
 clock : t.clock = x.clock
 slots : t.slots.map (Option.map KS.bs) = (x.slots.take i).map (Option.map KS.bs)
 whens : t.whens = x.whens.take j
 own : ∀ b ∈ t.blocks, w.heap.size ≤ b
 touch : Touch [] w w'
theorem CopyAt.len {w w' : World} {x t : RX} {i j : Nat} (h : CopyAt w w' x t i j) (hi : i ≤ x.slots.length) : t.slots.length = i := by
 have := congrArg List.length h.slots
 simp at this
 omega
theorem CopyAt.lenW {w w' : World} {x t : RX} {i j : Nat} (h : CopyAt w w' x t i j) (hj : j ≤ x.whens.length) : t.whens.length = j := by
 rw [h.whens]
 simp
 omega
theorem CopyAt.still {w w' w2 : World} {x t : RX} {i j : Nat} (h : CopyAt w w' x t i j) (ht : Touch [] w' w2) : CopyAt w w2 x t i j :=
 ⟨h.ref.touch ht (by simp), h.kind, h.size, h.max, h.clock, h.slots, h.whens, h.own, h.touch.trans ht (by simp)⟩
theorem rcopy_any {w : World} {x : RX} (h : RAt w x) (u : RUp x) :
  Calls Tryz.prog 44 #[.pointer (some ⟨x.r, 0, none⟩)] w fun e w' => ∃ t, e = .returned (.pointer (some ⟨t.r, 0, none⟩)) ∧ CopyAt w w' x t x.slots.length x.slots.length := by
 have c0 := h.c0
 have c1 := h.c1
 have c2 := h.c2
 have c5 := h.c5
 have HH := toHid (And.intro h u)
 have hn := u.many
 have HL := toHid u.lens
 generalize hln : x.slots.length = n at *
 have HN := toHid hln
 clear h u hln
 go_enter Tryz.func44, Tryz.ntmps44
 go_upto_region 1 with fail
 go_region
 have hB := Blk.newA w #[.int .i64 x.kind, .int .i64 x.size, .int .i64 x.max, .slice none 0 0, .slice none 0 0, .int .i64 x.clock] _ 114 rfl
 have ht1 := ((Touch.refl [] w).alloc (.cells #[.int .i64 x.kind, .int .i64 x.size, .int .i64 x.max, .slice none 0 0, .slice none 0 0, .int .i64 x.clock] 114)).drew
 have hZ : CopyAt w (w.alloc (.cells #[.int .i64 x.kind, .int .i64 x.size, .int .i64 x.max, .slice none 0 0, .slice none 0 0, .int .i64 x.clock] 114)).drew x ⟨w.heap.size, x.kind, x.size, x.max, x.clock, none, 0, none, 0, [], []⟩ 0 0 :=
  ⟨⟨hB.drew, ⟨rfl, Nat.le_refl _, Nat.zero_le _, rfl⟩, ⟨rfl, Nat.le_refl _, Nat.zero_le _, rfl⟩, fun k hk => absurd hk (by simp), by simp [RX.top], fun k hk => absurd hk (by simp)⟩, rfl, rfl, rfl, rfl, rfl, by simp, fun b hb => by simp [RX.blocks, RX.top] at hb; omega, ht1⟩
 have HZ := toHid hZ
 have c3 := (HH.out.1.touch ht1 (by simp)).c3
 rw [HN.out] at c3
 unfold slV at c3
 generalize hsg : (x.g.map fun b => (⟨b, 0, none⟩ : Addr)) = sg at c3
 have HG := toHid hsg
 clear hsg hB ht1 hZ c0 c1 c2 c5
 go_wp2_with fail
 generalize w.heap.size = O at *
 generalize World.drew _ = w1 at *
 clear c3
 go_loopw [29] (fun i w' => ∃ k : Nat, k ≤ n ∧ i = .int .i64 k ∧ Hid (∃ t, CopyAt w w' x t k k ∧ t.r = O)) (fun i _ => n - (intOf i).toNat)
 case atStart => exact ⟨0, by omega, rfl, _, HZ.out, rfl⟩
 case round =>
  clear HZ
  obtain ⟨k, hk, rfl, HI⟩ := hrel
  by_cases hlt : k < n
  ·obtain ⟨t, hC, htO⟩ := HI.out
   have hkl : k < x.slots.length := by rw [HN.out]; exact hlt
   have hget : x.slots[k]? = some (x.slots.getD k none) := by rw [List.getD_eq_getElem?_getD, List.getElem?_eq_getElem hkl]; rfl
   have hxr := HH.out.1.touch hC.touch (by simp)
   obtain ⟨b, hb, hc⟩ := hxr.slot hget
   have hsg := HG.out
   rw [hb, Option.map_some] at hsg
   subst hsg
   have HGET := toHid (And.intro hkl hget)
   generalize hs : x.slots.getD k none = s at *
   have HSS := toHid hs
   -- the time
   have hx0 := hxr.touch ((Touch.refl [] wr).drew) (by simp)
   have hC0 := hC.still ((Touch.refl [] wr).drew)
   obtain ⟨hbk, rest, hhb, hHB⟩ := hx0.when (j := k) (by rw [HL.out]; exact hlt)
   have d4 := hx0.c4
   rw [hhb, HL.out, slV_some] at d4
   have hv := hHB.cell (i := k) (v := .int .i64 (x.whens.getD k 0)) (by
    rw [List.getElem?_append_left (by rw [List.length_map, HL.out]; exact hlt), List.getElem?_map, List.getD_eq_getElem?_getD, List.getElem?_eq_getElem (by rw [HL.out]; exact hlt)]
    rfl)
   have hlw := hC.lenW (by rw [HL.out]; exact hk)
   have hls := hC.len (by rw [HN.out]; exact hk)
   obtain ⟨g1, cap1, w2, hr1, e1, e2, hR2, ht2, ht3, hbl⟩ := hC0.ref.pushW (by rw [hlw]; omega) (x.whens.getD k 0)
   have hapart : ∀ b ∈ x.blocks, b ∉ t.top := fun b hbx hbt => by
    have h1 := HH.out.1.lt b hbx
    have h2 := hC.own b (RX.mem_top hbt)
    omega
   have hta := (Touch.refl [] wr.drew).alloc (.cells #[.int .i64 (x.whens.getD k 0)] 3)
   have HF5 : Hid (∃ t', CopyAt w (w2.setCell ⟨t.r, 4, none⟩ (slV g1 (k + 1) cap1)) x t' k (k + 1) ∧ t'.r = O) := by
    rw [hlw] at hR2 ht3
    refine ⟨_, ⟨hR2, hC.kind, hC.size, hC.max, hC.clock, hC.slots, ?_, ?_, ?_⟩, htO⟩
    ·show t.whens ++ [x.whens.getD k 0] = x.whens.take (k + 1)
     rw [hC.whens, List.take_add_one, List.getD_eq_getElem?_getD, List.getElem?_eq_getElem (by rw [HL.out]; exact hlt)]
     rfl
    ·intro b hb
     rcases hbl b hb with hb | hb
     ·exact hC.own b hb
     ·have := hC0.touch.size
      omega
    ·exact hC0.touch.trans ht3 (fun b hb => Or.inr (hC.own b (RX.mem_top hb)))
   have HS0 := toHid (And.intro d4 hv)
   have HS1 := toHid (And.intro (hta.cell d4 (by simp)) (hta.cell hv (by simp)))
   have HS2 := toHid (And.intro (ht2.cell d4 (hapart _ (RX.mem_top x.mem_r))) (ht2.cell hv (hapart _ (RX.mem_top (RX.mem_h hhb)))))
   have HS3 := toHid (And.intro (ht3.cell d4 (hapart _ (RX.mem_top x.mem_r))) (ht3.cell hv (hapart _ (RX.mem_top (RX.mem_h hhb)))))
   have o4 := hC0.ref.c4
   have o4' := ((Touch.refl [] wr).alloc (.cells #[.int .i64 (x.whens.getD k 0)] 3)).cell hC.ref.c4 (by simp)
   have hsz : wr.drew.heap.size = wr.heap.size := rfl
   rw [hlw] at hr1 e1 o4 o4' HS3
   rw [htO] at e1 e2 o4 o4' HF5 HS3
   rw [hsz] at hr1
   unfold slV at hr1 e1 o4 o4' HF5 HS3
   generalize (g1.map fun b => (⟨b, 0, none⟩ : Addr)) = gg1 at *
   generalize (t.h.map fun b => (⟨b, 0, none⟩ : Addr)) = th at *
   generalize t.wcap = twc at *
   generalize x.whens.getD k 0 = v at *
   have HR1 := toHid hr1
   clear hr1 hR2 ht2 ht3 hbl hapart hta hC hC0 hx0 hxr htO HI hHB hhb d4 hv hb hget hkl hs hlw hls hsz
   go_upto_region 5 with fail
   go_cut [34] from 34 to 49 (fun _ wx => Hid (∃ t', CopyAt w wx x t' k (k + 1) ∧ t'.r = O))
   case first =>
    refine wp_region_held_drew (S := (fun w' => w'.cell? ⟨x.r, 4, none⟩ = some (.slice (some ⟨hbk, 0, none⟩) n x.wcap) ∧ w'.cell? ⟨hbk, k, none⟩ = some (.int .i64 v))) (by kernel_rfl) ?_ (fun hHeld => ?_)
    ·exact HS0.out
    refine tk 0 (v := ?_) rfl ?_ ?_
    rotate_left
    ·(intro w hSw; (try dsimp only at hSw); go_simp; try with_reducible rfl)
    simp only [Act.put, AP]
    refine tk 1 (v := ?_) rfl ?_ ?_
    rotate_left
    ·(intro w hSw; (try dsimp only at hSw); go_simp; try with_reducible rfl)
    simp only [Act.put, AP]
    refine tk 2 (v := ?_) rfl ?_ ?_
    rotate_left
    ·(intro w hSw; (try dsimp only at hSw); go_simp; try with_reducible rfl)
    simp only [Act.put, AP]
    refine tk 3 (v := ?_) rfl ?_ ?_
    rotate_left
    ·(intro w hSw; (try dsimp only at hSw); go_simp; try with_reducible rfl)
    simp only [Act.put, AP]
    refine tk 5 (v := ?_) rfl ?_ ?_
    rotate_left
    ·(intro w hSw; (try dsimp only at hSw); go_simp; try with_reducible rfl)
    simp only [Act.put, AP]
    refine tk 6 (v := ?_) rfl ?_ ?_
    rotate_left
    ·(intro w hSw; (try dsimp only at hSw); go_simp; try with_reducible rfl)
    simp only [Act.put, AP]
    refine tk 7 (v := ?_) rfl ?_ ?_
    rotate_left
    ·(intro w hSw; (try dsimp only at hSw); go_simp; try with_reducible rfl)
    simp only [Act.put, AP]
    refine tk 8 (v := ?_) rfl ?_ ?_
    rotate_left
    ·(intro w hSw; (try dsimp only at hSw); go_simp; try with_reducible rfl)
    simp only [Act.put, AP]
    refine tk 9 (v := ?_) rfl ?_ ?_
    rotate_left
    ·(intro w hSw; (try dsimp only at hSw); go_simp; try with_reducible rfl)
    simp only [Act.put, AP]
    refine tk 10 (v := ?_) rfl ?_ ?_
    rotate_left
    ·(intro w hSw; (try dsimp only at hSw); go_simp; try with_reducible rfl)
    simp only [Act.put, AP]
    refine tk 11 (v := ?_) rfl ?_ ?_
    rotate_left
    ·(intro w hSw; (try dsimp only at hSw); go_simp; try with_reducible rfl)
    simp only [Act.put, AP]
    refine wpAnyH_ready (rs := [4, 12]) (by kernel_rfl) (by simp) ?_
    refine (AllReadyH.cons rfl (fun K hK => ?_) (AllReadyH.cons rfl (fun K hK => ?_) AllReadyH.nil))
    ·simp only [AP]
     go_simp
     refine hK.out _ _ ?_ (fun hHeld => ?_)
     ·exact HS0.out
     clear hK K
     try simp only [Act.put, AP]
     refine wpAnyH_ready (rs := [12]) (by kernel_rfl) (by simp) ?_
     refine (AllReadyH.cons rfl (fun K hK => ?_) AllReadyH.nil)
     simp only [AP]
     go_simp
     refine hK.out _ _ ?_ (fun hHeld => ?_)
     ·exact HS1.out
     clear hK K
     try simp only [Act.put, AP]
     refine wpAnyH_ready (rs := [13]) (by kernel_rfl) (by simp) ?_
     refine (AllReadyH.cons rfl (fun K hK => ?_) AllReadyH.nil)
     refine step_append_known rfl (.tmp 38) (.tmp 46) 112 112 rfl (.slice th k twc) (.slice (some ⟨wr.heap.size, 0, none⟩) 1 1) (by simp [Act.eval]) (by simp [Act.eval]) HR1.out ?_
     refine hK.out _ _ ?_ (fun hHeld => ?_)
     ·exact HS2.out
     clear hK K
     try simp only [Act.put, AP]
     refine tk 14 (v := ?_) rfl ?_ ?_
     rotate_left
     ·(intro w hSw; (try dsimp only at hSw); go_simp; try with_reducible rfl)
     simp only [Act.put, AP]
     refine tk 15 (v := ?_) rfl ?_ ?_
     rotate_left
     ·(intro w hSw; (try dsimp only at hSw); go_simp; try with_reducible rfl)
     simp only [Act.put, AP]
     refine wpAnyH_ready (rs := [16]) (by kernel_rfl) (by simp) ?_
     refine (AllReadyH.cons rfl (fun K hK => ?_) AllReadyH.nil)
     simp only [AP]
     go_simp
     refine hK.out _ _ ?_ (fun hHeld => ?_)
     ·exact HS3.out
     clear hK K
     try simp only [Act.put, AP]
     refine wpAnyH_done (by kernel_rfl) ?_ _
     go_wp2
     go_meet
     exact HF5
    ·simp only [AP]
     go_simp
     refine hK.out _ _ ?_ (fun hHeld => ?_)
     ·exact HS1.out
     clear hK K
     try simp only [Act.put, AP]
     refine wpAnyH_ready (rs := [4]) (by kernel_rfl) (by simp) ?_
     refine (AllReadyH.cons rfl (fun K hK => ?_) AllReadyH.nil)
     simp only [AP]
     go_simp
     refine hK.out _ _ ?_ (fun hHeld => ?_)
     ·exact HS1.out
     clear hK K
     try simp only [Act.put, AP]
     refine wpAnyH_ready (rs := [13]) (by kernel_rfl) (by simp) ?_
     refine (AllReadyH.cons rfl (fun K hK => ?_) AllReadyH.nil)
     refine step_append_known rfl (.tmp 38) (.tmp 46) 112 112 rfl (.slice th k twc) (.slice (some ⟨wr.heap.size, 0, none⟩) 1 1) (by simp [Act.eval]) (by simp [Act.eval]) HR1.out ?_
     refine hK.out _ _ ?_ (fun hHeld => ?_)
     ·exact HS2.out
     clear hK K
     try simp only [Act.put, AP]
     refine tk 14 (v := ?_) rfl ?_ ?_
     rotate_left
     ·(intro w hSw; (try dsimp only at hSw); go_simp; try with_reducible rfl)
     simp only [Act.put, AP]
     refine tk 15 (v := ?_) rfl ?_ ?_
     rotate_left
     ·(intro w hSw; (try dsimp only at hSw); go_simp; try with_reducible rfl)
     simp only [Act.put, AP]
     refine wpAnyH_ready (rs := [16]) (by kernel_rfl) (by simp) ?_
     refine (AllReadyH.cons rfl (fun K hK => ?_) AllReadyH.nil)
     simp only [AP]
     go_simp
     refine hK.out _ _ ?_ (fun hHeld => ?_)
     ·exact HS3.out
     clear hK K
     try simp only [Act.put, AP]
     refine wpAnyH_done (by kernel_rfl) ?_ _
     go_wp2
     go_meet
     exact HF5
   case rest =>
    generalize hw5 : wc = w5 at *
    clear hw5 HS0 HS1 HS2 HS3 HF5 HR1 o4 o4' e1 e2
    obtain ⟨t2, hC, htO⟩ := hcut.out
    have hls := hC.len (by rw [HN.out]; exact hk)
    have htk : x.slots.take (k + 1) = x.slots.take k ++ [s] := by
     rw [List.take_add_one, HGET.out.2]
     rfl
    have hnil : ∀ (w : World) (a : Option Addr) (n c : Nat), (binOp .eql 39 (.slice a n c) (.slice none 0 0)).run Tryz.prog w = .ok (.bool a.isNone) w := fun w a n c => Lib.run_eql_slice_nil w _ _ a n c 0 0 Tryz.underlying39
    cases s with
    | none =>
     obtain ⟨g2, cap2, w6, hr2, e1, e2, hR2, _, ht3, hbl⟩ := hC.ref.pushS (by rw [hls]; omega) none (fun k hk => by cases hk)
     have o3 := hC.ref.c3
     have HF8 : Hid (∃ t', CopyAt w (w6.setCell ⟨t2.r, 3, none⟩ (slV g2 (k + 1) cap2)) x t' (k + 1) (k + 1) ∧ t'.r = O) := by
      rw [hls] at hR2 ht3
      refine ⟨_, ⟨hR2, hC.kind, hC.size, hC.max, hC.clock, ?_, hC.whens, ?_, ?_⟩, htO⟩
      ·rw [htk, List.map_append, List.map_append, hC.slots]
      ·intro b hb
       rcases hbl b hb with hb | hb | ⟨_, hb, _⟩
       ·exact hC.own b hb
       ·have := hC.touch.size
        omega
       ·cases hb
      ·exact hC.touch.trans ht3 (fun b hb => Or.inr (hC.own b (RX.mem_top hb)))
     rw [hls] at hr2 e1 o3
     rw [htO] at e1 e2 o3 HF8
     unfold slV at hr2 e1 o3 HF8
     generalize (t2.g.map fun b => (⟨b, 0, none⟩ : Addr)) = tg at *
     generalize (g2.map fun b => (⟨b, 0, none⟩ : Addr)) = gg2 at *
     generalize t2.scap = tsc at *
     unfold slotV at hr2 ⊢
     have HR2 := toHid hr2
     clear hr2 hR2 ht3 hbl hC htO hls htk hcut HSS HGET hc
     go_wp2_with (at_builtin; refine Lib.wpList_append_run _ rfl _ _ _ _ rfl _ _ rfl rfl _ _ HR2.out ?_)
     go_roundw
     case rel => exact ⟨k + 1, by omega, by go_num, HF8.out⟩
     case measure => simp [intOf]; omega
    | some ks =>
     have hkA := (HH.out.1.touch hC.touch (by simp)).keys ks (List.mem_of_getElem? HGET.out.2)
     have hC0 := hC.still ((Touch.refl [] w5).drew)
     obtain ⟨g1, cap1, w6, hr1, hA1, ht1, hg1⟩ := key_append (hkA.touch ((Touch.refl [] w5).drew) (by simp))
     have hC1 := hC0.still ht1
     obtain ⟨g2, cap2, w7, hr2, e1, e2, hR2, _, ht3, hbl⟩ := hC1.ref.pushS (by rw [hls]; omega) (some ⟨g1, cap1, ks.bs⟩) (fun y hy => by
      injection hy with hy
      subst hy
      refine ⟨hA1, fun hx => ?_⟩
      have := hC0.ref.lt _ (RX.mem_top hx)
      have hg1 : w5.drew.heap.size ≤ g1 := hg1
      have this : g1 < w5.drew.heap.size := this
      omega)
     have HF8 : Hid (∃ t', CopyAt w (w7.setCell ⟨t2.r, 3, none⟩ (slV g2 (k + 1) cap2)) x t' (k + 1) (k + 1) ∧ t'.r = O) := by
      rw [hls] at hR2 ht3
      refine ⟨_, ⟨hR2, hC.kind, hC.size, hC.max, hC.clock, ?_, hC.whens, ?_, ?_⟩, htO⟩
      ·rw [htk, List.map_append, List.map_append, hC.slots]
       rfl
      ·intro b hb
       have hsz := hC1.touch.size
       have hsz0 := hC0.touch.size
       rcases hbl b hb with hb | hb | ⟨y, hy, hb⟩
       ·exact hC.own b hb
       ·omega
       ·injection hy with hy
        subst hy
        subst hb
        exact Nat.le_trans hsz0 hg1
      ·exact hC1.touch.trans ht3 (fun b hb => Or.inr (hC.own b (RX.mem_top hb)))
     have o3 := hC.ref.c3
     have o3a := ((Touch.refl [] w5).alloc (.cells #[] 5)).cell o3 (by simp)
     have o3b := hC1.ref.c3
     have o3c := ((Touch.refl [] w6).alloc (.cells #[slotV (some ⟨g1, cap1, ks.bs⟩)] 39)).cell o3b (by simp)
     have hsz : w5.drew.heap.size = w5.heap.size := rfl
     rw [hls] at hr2 e1 o3 o3a o3b o3c
     rw [htO] at e1 e2 o3 o3a o3b o3c HF8
     rw [hsz] at hr1
     have es : slotV (some ⟨g1, cap1, ks.bs⟩) = .slice (some ⟨g1, 0, none⟩) ks.bs.length cap1 := rfl
     rw [es] at hr2 o3c
     unfold slV at hr2 e1 o3 o3a o3b o3c HF8
     unfold KS.v at hr1
     generalize (t2.g.map fun b => (⟨b, 0, none⟩ : Addr)) = tg at *
     generalize (g2.map fun b => (⟨b, 0, none⟩ : Addr)) = gg2 at *
     generalize t2.scap = tsc at *
     unfold slotV KS.v
     have HR1 := toHid hr1
     have HR2 := toHid hr2
     clear hr1 hr2 hR2 ht1 ht3 hbl hC htO hls htk hcut HSS HGET hc hC0 hC1 hA1 hkA hg1 hsz es
     go_upto_region 8 with fail
     refine wp_region_held_drew (S := (fun _ => True)) (by kernel_rfl) ?_ (fun hHeld => ?_)
     ·trivial
     refine tk 0 (v := ?_) rfl ?_ ?_
     rotate_left
     ·(intro w hSw; (try dsimp only at hSw); go_simp; try with_reducible rfl)
     simp only [Act.put, AP]
     refine tk 1 (v := ?_) rfl ?_ ?_
     rotate_left
     ·(intro w hSw; (try dsimp only at hSw); go_simp; try with_reducible rfl)
     simp only [Act.put, AP]
     refine tk 2 (v := ?_) rfl ?_ ?_
     rotate_left
     ·(intro w hSw; (try dsimp only at hSw); go_simp; try with_reducible rfl)
     simp only [Act.put, AP]
     refine tk 3 (v := ?_) rfl ?_ ?_
     rotate_left
     ·(intro w hSw; (try dsimp only at hSw); go_simp; try with_reducible rfl)
     simp only [Act.put, AP]
     refine tk 6 (v := ?_) rfl ?_ ?_
     rotate_left
     ·(intro w hSw; (try dsimp only at hSw); go_simp; try with_reducible rfl)
     simp only [Act.put, AP]
     refine wpAnyH_ready (rs := [4, 5]) (by kernel_rfl) (by simp) ?_
     refine (AllReadyH.cons rfl (fun K hK => ?_) (AllReadyH.cons rfl (fun K hK => ?_) AllReadyH.nil))
     ·simp only [AP]
      go_simp
      refine hK.out _ _ ?_ (fun hHeld => ?_)
      ·trivial
      clear hK K
      try simp only [Act.put, AP]
      refine wpAnyH_ready (rs := [5]) (by kernel_rfl) (by simp) ?_
      refine (AllReadyH.cons rfl (fun K hK => ?_) AllReadyH.nil)
      simp only [AP]
      go_simp
      refine hK.out _ _ ?_ (fun hHeld => ?_)
      ·trivial
      clear hK K
      try simp only [Act.put, AP]
      refine wpAnyH_ready (rs := [7]) (by kernel_rfl) (by simp) ?_
      refine (AllReadyH.cons rfl (fun K hK => ?_) AllReadyH.nil)
      refine step_append_known rfl (.tmp 66) (.tmp 67) 39 39 rfl (.slice (some ⟨w5.heap.size, 0, none⟩) 0 0) (.slice (some ⟨ks.b, 0, none⟩) ks.bs.length ks.cap) (by simp [Act.eval]) (by simp [Act.eval]) HR1.out ?_
      refine hK.out _ _ ?_ (fun hHeld => ?_)
      ·trivial
      clear hK K
      try simp only [Act.put, AP]
      refine wpAnyH_ready (rs := [8]) (by kernel_rfl) (by simp) ?_
      refine (AllReadyH.cons rfl (fun K hK => ?_) AllReadyH.nil)
      simp only [AP]
      go_simp
      refine hK.out _ _ ?_ (fun hHeld => ?_)
      ·trivial
      clear hK K
      try simp only [Act.put, AP]
      refine wpAnyH_ready (rs := [9]) (by kernel_rfl) (by simp) ?_
      refine (AllReadyH.cons rfl (fun K hK => ?_) AllReadyH.nil)
      refine step_append_known rfl (.tmp 65) (.tmp 69) 105 105 rfl (.slice tg k tsc) (.slice (some ⟨w6.heap.size, 0, none⟩) 1 1) (by simp [Act.eval]) (by simp [Act.eval]) HR2.out ?_
      refine hK.out _ _ ?_ (fun hHeld => ?_)
      ·trivial
      clear hK K
      try simp only [Act.put, AP]
      refine tk 10 (v := ?_) rfl ?_ ?_
      rotate_left
      ·(intro w hSw; (try dsimp only at hSw); go_simp; try with_reducible rfl)
      simp only [Act.put, AP]
      refine tk 11 (v := ?_) rfl ?_ ?_
      rotate_left
      ·(intro w hSw; (try dsimp only at hSw); go_simp; try with_reducible rfl)
      simp only [Act.put, AP]
      refine wpAnyH_ready (rs := [12]) (by kernel_rfl) (by simp) ?_
      refine (AllReadyH.cons rfl (fun K hK => ?_) AllReadyH.nil)
      simp only [AP]
      go_simp
      refine hK.out _ _ ?_ (fun hHeld => ?_)
      ·trivial
      clear hK K
      try simp only [Act.put, AP]
      refine wpAnyH_done (by kernel_rfl) ?_ _
      go_wp2
      go_roundw
      case rel => exact ⟨k + 1, by omega, by go_num, HF8.out⟩
      case measure => simp [intOf]; omega
     ·simp only [AP]
      go_simp
      refine hK.out _ _ ?_ (fun hHeld => ?_)
      ·trivial
      clear hK K
      try simp only [Act.put, AP]
      refine wpAnyH_ready (rs := [4, 7]) (by kernel_rfl) (by simp) ?_
      refine (AllReadyH.cons rfl (fun K hK => ?_) (AllReadyH.cons rfl (fun K hK => ?_) AllReadyH.nil))
      ·simp only [AP]
       go_simp
       refine hK.out _ _ ?_ (fun hHeld => ?_)
       ·trivial
       clear hK K
       try simp only [Act.put, AP]
       refine wpAnyH_ready (rs := [7]) (by kernel_rfl) (by simp) ?_
       refine (AllReadyH.cons rfl (fun K hK => ?_) AllReadyH.nil)
       refine step_append_known rfl (.tmp 66) (.tmp 67) 39 39 rfl (.slice (some ⟨w5.heap.size, 0, none⟩) 0 0) (.slice (some ⟨ks.b, 0, none⟩) ks.bs.length ks.cap) (by simp [Act.eval]) (by simp [Act.eval]) HR1.out ?_
       refine hK.out _ _ ?_ (fun hHeld => ?_)
       ·trivial
       clear hK K
       try simp only [Act.put, AP]
       refine wpAnyH_ready (rs := [8]) (by kernel_rfl) (by simp) ?_
       refine (AllReadyH.cons rfl (fun K hK => ?_) AllReadyH.nil)
       simp only [AP]
       go_simp
       refine hK.out _ _ ?_ (fun hHeld => ?_)
       ·trivial
       clear hK K
       try simp only [Act.put, AP]
       refine wpAnyH_ready (rs := [9]) (by kernel_rfl) (by simp) ?_
       refine (AllReadyH.cons rfl (fun K hK => ?_) AllReadyH.nil)
       refine step_append_known rfl (.tmp 65) (.tmp 69) 105 105 rfl (.slice tg k tsc) (.slice (some ⟨w6.heap.size, 0, none⟩) 1 1) (by simp [Act.eval]) (by simp [Act.eval]) HR2.out ?_
       refine hK.out _ _ ?_ (fun hHeld => ?_)
       ·trivial
       clear hK K
       try simp only [Act.put, AP]
       refine tk 10 (v := ?_) rfl ?_ ?_
       rotate_left
       ·(intro w hSw; (try dsimp only at hSw); go_simp; try with_reducible rfl)
       simp only [Act.put, AP]
       refine tk 11 (v := ?_) rfl ?_ ?_
       rotate_left
       ·(intro w hSw; (try dsimp only at hSw); go_simp; try with_reducible rfl)
       simp only [Act.put, AP]
       refine wpAnyH_ready (rs := [12]) (by kernel_rfl) (by simp) ?_
       refine (AllReadyH.cons rfl (fun K hK => ?_) AllReadyH.nil)
       simp only [AP]
       go_simp
       refine hK.out _ _ ?_ (fun hHeld => ?_)
       ·trivial
       clear hK K
       try simp only [Act.put, AP]
       refine wpAnyH_done (by kernel_rfl) ?_ _
       go_wp2
       go_roundw
       case rel => exact ⟨k + 1, by omega, by go_num, HF8.out⟩
       case measure => simp [intOf]; omega
      ·refine step_append_known rfl (.tmp 66) (.tmp 67) 39 39 rfl (.slice (some ⟨w5.heap.size, 0, none⟩) 0 0) (.slice (some ⟨ks.b, 0, none⟩) ks.bs.length ks.cap) (by simp [Act.eval]) (by simp [Act.eval]) HR1.out ?_
       refine hK.out _ _ ?_ (fun hHeld => ?_)
       ·trivial
       clear hK K
       try simp only [Act.put, AP]
       refine wpAnyH_ready (rs := [4, 8]) (by kernel_rfl) (by simp) ?_
       refine (AllReadyH.cons rfl (fun K hK => ?_) (AllReadyH.cons rfl (fun K hK => ?_) AllReadyH.nil))
       ·simp only [AP]
        go_simp
        refine hK.out _ _ ?_ (fun hHeld => ?_)
        ·trivial
        clear hK K
        try simp only [Act.put, AP]
        refine wpAnyH_ready (rs := [8]) (by kernel_rfl) (by simp) ?_
        refine (AllReadyH.cons rfl (fun K hK => ?_) AllReadyH.nil)
        simp only [AP]
        go_simp
        refine hK.out _ _ ?_ (fun hHeld => ?_)
        ·trivial
        clear hK K
        try simp only [Act.put, AP]
        refine wpAnyH_ready (rs := [9]) (by kernel_rfl) (by simp) ?_
        refine (AllReadyH.cons rfl (fun K hK => ?_) AllReadyH.nil)
        refine step_append_known rfl (.tmp 65) (.tmp 69) 105 105 rfl (.slice tg k tsc) (.slice (some ⟨w6.heap.size, 0, none⟩) 1 1) (by simp [Act.eval]) (by simp [Act.eval]) HR2.out ?_
        refine hK.out _ _ ?_ (fun hHeld => ?_)
        ·trivial
        clear hK K
        try simp only [Act.put, AP]
        refine tk 10 (v := ?_) rfl ?_ ?_
        rotate_left
        ·(intro w hSw; (try dsimp only at hSw); go_simp; try with_reducible rfl)
        simp only [Act.put, AP]
        refine tk 11 (v := ?_) rfl ?_ ?_
        rotate_left
        ·(intro w hSw; (try dsimp only at hSw); go_simp; try with_reducible rfl)
        simp only [Act.put, AP]
        refine wpAnyH_ready (rs := [12]) (by kernel_rfl) (by simp) ?_
        refine (AllReadyH.cons rfl (fun K hK => ?_) AllReadyH.nil)
        simp only [AP]
        go_simp
        refine hK.out _ _ ?_ (fun hHeld => ?_)
        ·trivial
        clear hK K
        try simp only [Act.put, AP]
        refine wpAnyH_done (by kernel_rfl) ?_ _
        go_wp2
        go_roundw
        case rel => exact ⟨k + 1, by omega, by go_num, HF8.out⟩
        case measure => simp [intOf]; omega
       ·simp only [AP]
        go_simp
        refine hK.out _ _ ?_ (fun hHeld => ?_)
        ·trivial
        clear hK K
        try simp only [Act.put, AP]
        refine wpAnyH_ready (rs := [4]) (by kernel_rfl) (by simp) ?_
        refine (AllReadyH.cons rfl (fun K hK => ?_) AllReadyH.nil)
        simp only [AP]
        go_simp
        refine hK.out _ _ ?_ (fun hHeld => ?_)
        ·trivial
        clear hK K
        try simp only [Act.put, AP]
        refine wpAnyH_ready (rs := [9]) (by kernel_rfl) (by simp) ?_
        refine (AllReadyH.cons rfl (fun K hK => ?_) AllReadyH.nil)
        refine step_append_known rfl (.tmp 65) (.tmp 69) 105 105 rfl (.slice tg k tsc) (.slice (some ⟨w6.heap.size, 0, none⟩) 1 1) (by simp [Act.eval]) (by simp [Act.eval]) HR2.out ?_
        refine hK.out _ _ ?_ (fun hHeld => ?_)
        ·trivial
        clear hK K
        try simp only [Act.put, AP]
        refine tk 10 (v := ?_) rfl ?_ ?_
        rotate_left
        ·(intro w hSw; (try dsimp only at hSw); go_simp; try with_reducible rfl)
        simp only [Act.put, AP]
        refine tk 11 (v := ?_) rfl ?_ ?_
        rotate_left
        ·(intro w hSw; (try dsimp only at hSw); go_simp; try with_reducible rfl)
        simp only [Act.put, AP]
        refine wpAnyH_ready (rs := [12]) (by kernel_rfl) (by simp) ?_
        refine (AllReadyH.cons rfl (fun K hK => ?_) AllReadyH.nil)
        simp only [AP]
        go_simp
        refine hK.out _ _ ?_ (fun hHeld => ?_)
        ·trivial
        clear hK K
        try simp only [Act.put, AP]
        refine wpAnyH_done (by kernel_rfl) ?_ _
        go_wp2
        go_roundw
        case rel => exact ⟨k + 1, by omega, by go_num, HF8.out⟩
        case measure => simp [intOf]; omega
  ·obtain rfl : k = n := by omega
   obtain ⟨t, hC, htO⟩ := HI.out
   have HC := toHid hC
   have HO := toHid htO
   clear hC htO HI
   go_wp2
   go_ret
   exact ⟨t, by rw [HO.out]; rfl, HC.out⟩
end Go.Proofs.YtmhhahmjkopjhaaGreat
end
section
namespace Go.Proofs.YtmhhahmjkopjhaaGreat
open Go.RowKit
attribute [local go_sem ↓] Go.wp_at_zero Go.wp_at_succ
def PutPost (w : World) (x : RX) (a : (Int × Bool × Int) × PX) (e : Ending) (w' : World) : Prop := e = .returned (.tuple #[.int .i64 a.1.1, .bool a.1.2.1, .int .i64 a.1.2.2]) ∧ ∃ x', Step w w' x x' a.2
theorem Step.refl {w w' : World} {x : RX} (h : RAt w x) (ht : Touch [] w w') : Step w w' x x x.p :=
 ⟨h.touch ht (by simp), rfl, rfl, Touch.nil ht, fun _ hb => Or.inl hb, rfl, rfl⟩
theorem Step.touched {w w1 w' : World} {x : RX} (ht : Touch [] w w1) (a : Option Nat) (hr : RAt w' (x.touched (idxI a))) (hw : Touch x.top w1 w') : Step w w' x (x.touched (idxI a)) (x.p.touch a) :=
 ⟨hr, p_touched x a, rfl, Touch.trans (Touch.nil ht) hw (fun _ hy => Or.inl hy), fun _ hb => Or.inl hb, touched_len x _, rfl⟩
theorem Step.laid {w w1 w2 w' : World} {x : RX} {j : Nat} {k : KS} (ht : Touch [] w w1) (_hj : j < x.slots.length) (h2 : Touch x.top w1 w2) (hb : ∀ b ∈ ({ x with slots := x.slots.set j (some k) } : RX).blocks, b ∈ x.blocks ∨ w1.heap.size ≤ b)
  (hr : RAt w' (({ x with slots := x.slots.set j (some k) } : RX).touched (idxI (some j)))) (hw : Touch x.top w2 w') : Step w w' x (({ x with slots := x.slots.set j (some k) } : RX).touched (idxI (some j))) (x.p.laid j k.bs) where
 at_ := hr
 p := by
  rw [p_touched]
  unfold PX.laid RX.p
  rw [List.map_set]
  rfl
 r := rfl
 touch := Touch.trans (Touch.trans (Touch.nil ht) h2 (fun _ hy => Or.inl hy)) hw (fun _ hy => Or.inl hy)
 blocks := fun b hx => by
  rcases hb b hx with hb | hb
  ·exact Or.inl hb
  ·have := ht.size
   exact Or.inr (by omega)
 lens := touched_len _ _
 slots := by show (x.slots.set j (some k)).length = x.slots.length; simp
theorem rput_any {w : World} {x : RX} (h : RAt w x) (u : RUp x) (hk3 : x.kind ≠ 3) (hs1 : 1 ≤ x.size) (hs2 : x.size ≤ 16) (hmin : 1 ≤ x.slots.length) {sa : Option Addr} {sl : Nat} {bs : List Int} (hk : KeyAt w sa sl bs) (kc : Nat) (fl : Int) (f0 : 0 ≤ fl) :
  Calls Tryz.prog 61 #[.pointer (some ⟨x.r, 0, none⟩), .slice sa sl kc, .int .u64 fl] w (PutPost w x (x.p.put bs fl)) := by
 have H1 := toHid (fits_any h hk3 sa sl kc (by rw [hk.1]; exact hk.2.2.1))
 have hl := hk.1
 by_cases he : (sl : Int) = x.size
 ·rw [decide_eq_true he] at H1
  have HV : Hid (x.p.put bs fl = (if 2 < fl then ((0, false, 72), x.p)
    else match sameP x.p.slots bs with
     | some i => if fl = 1 then ((0, false, 70), x.p) else (((i : Int), false, 0), x.p.touch (some i))
     | none => if x.kind = 0 then ((0, false, 71), x.p) else if fl = 2 then ((0, false, 14), x.p) else match x.p.room with
      | some f => (((f : Int), true, 0), x.p.laid f bs)
      | none => ((0, false, 71), x.p) : (Int × Bool × Int) × PX)) := if_pos (by show (bs.length : Int) = x.size; omega)
  have HH := toHid (And.intro h (And.intro u (And.intro hk3 hk)))
  have HSZ := toHid (And.intro (show 1 ≤ bs.length by omega) (show bs.length ≤ 16 by omega))
  clear h u hk he hl hk3 hs1 hs2
  generalize hpr : x.p.put bs fl = pr at *
  clear hpr
  by_cases hf : 2 < fl
  ·obtain rfl : pr = ((0, false, 72), x.p) := by rw [HV.out, if_pos hf]
   go_enter Tryz.func61, Tryz.ntmps61
   go_wp2_with fail
   refine Calls.mono H1.out ?_
   rintro e w2 ⟨rfl, ht2⟩
   have HF : Hid (∃ x', Step w w2 x x' x.p) := ⟨x, Step.refl HH.out.1 ht2⟩
   clear ht2 H1
   go_wp2
   go_ret3
   exact ⟨rfl, HF.out⟩
  ·have HV := toHid (HV.out.trans (if_neg hf))
   go_enter Tryz.func61, Tryz.ntmps61
   go_wp2_with fail
   refine Calls.mono H1.out ?_
   rintro e w2 ⟨rfl, ht2⟩
   have h2 := HH.out.1.touch ht2 (by simp)
   have c0 := h2.c0
   have H2 := toHid (same_any h2 HH.out.2.2.1 (by have := HH.out.2.1.many; omega) (HH.out.2.2.2.touch ht2) kc)
   rw [sameI_eq] at H2
   have HT := toHid ht2
   have HR2 := toHid h2
   have HN : Hid (∃ x', Step w w2 x x' x.p) := ⟨x, Step.refl HH.out.1 ht2⟩
   clear ht2 h2 H1
   cases hsm : sameP x.p.slots bs with
   | some i =>
    have hsm' : sameP (x.slots.map (Option.map KS.bs)) bs = some i := hsm
    rw [hsm'] at H2
    have HV := HV.out
    rw [hsm] at HV
    simp only at HV
    have hil : i < x.slots.length := by have := sameP_lt hsm'; simpa using this
    have H3 := toHid (touch_any HR2.out (idxI (some i)) (by show (i : Int) < _; rw [HH.out.2.1.lens]; omega) HH.out.2.1.clock0 (by have := HH.out.2.1.clock1; omega))
    have HV2 := toHid HV
    unfold idxI at H2
    simp only at H2
    clear hsm hsm' HV
    go_wp2_with fail
    refine Calls.mono H2.out ?_
    rintro e w3 ⟨rfl, rfl⟩
    clear H2
    by_cases h1 : fl = 1
    ·subst h1
     obtain rfl : pr = ((0, false, 70), x.p) := by rw [HV2.out, if_pos rfl]
     go_wp2
     all_goals
      go_ret3
      exact ⟨rfl, HN.out⟩
    ·obtain rfl : pr = (((i : Int), false, 0), x.p.touch (some i)) := by rw [HV2.out, if_neg h1]
     unfold idxI at H3
     simp only at H3
     by_cases hk0 : x.kind = 0
     ·have hk0' : (x.kind == 0) = true := by simpa using hk0
      clear hk0
      go_wp2_with fail
      refine Calls.mono H3.out ?_
      rintro e w4 ⟨rfl, hr4, ht4⟩
      have HF : Hid (∃ x', Step w w4 x x' (x.p.touch (some i))) := ⟨_, Step.touched HT.out (some i) hr4 ht4⟩
      clear hr4 ht4 H3 HT HH HN
      go_wp2
      go_ret3
      exact ⟨rfl, HF.out⟩
     ·have hk0' : (x.kind == 0) = false := by simpa using hk0
      clear hk0
      go_wp2_with fail
      refine Calls.mono H3.out ?_
      rintro e w4 ⟨rfl, hr4, ht4⟩
      have HF : Hid (∃ x', Step w w4 x x' (x.p.touch (some i))) := ⟨_, Step.touched HT.out (some i) hr4 ht4⟩
      clear hr4 ht4 H3 HT HH HN
      go_wp2
      go_ret3
      exact ⟨rfl, HF.out⟩
   | none =>
    have hsm' : sameP (x.slots.map (Option.map KS.bs)) bs = none := hsm
    rw [hsm'] at H2
    have HV := HV.out
    rw [hsm] at HV
    simp only at HV
    have HV2 := toHid HV
    unfold idxI at H2
    simp only at H2
    clear hsm hsm' HV
    go_wp2_with fail
    refine Calls.mono H2.out ?_
    rintro e w3 ⟨rfl, rfl⟩
    clear H2
    by_cases hk0 : x.kind = 0
    ·obtain rfl : pr = ((0, false, 71), x.p) := by rw [HV2.out, if_pos hk0]
     have hk0' : (x.kind == 0) = true := by simpa using hk0
     clear hk0
     go_wp2
     go_ret3
     exact ⟨rfl, HN.out⟩
    ·have hk0' : (x.kind == 0) = false := by simpa using hk0
     have HV3 := toHid (HV2.out.trans (if_neg hk0))
     clear hk0
     by_cases hf2 : fl = 2
     ·subst hf2
      obtain rfl : pr = ((0, false, 14), x.p) := by rw [HV3.out, if_pos rfl]
      go_wp2
      go_ret3
      exact ⟨rfl, HN.out⟩
     ·have HV4 := toHid (HV3.out.trans (if_neg hf2))
      have hf2' : (fl == 2) = false := by simpa using hf2
      have c3 := HR2.out.c3
      clear HV3 HV2 hf2
      obtain ⟨gb, hgb⟩ : ∃ gb, x.g = some gb := by
       have hq := HR2.out.row
       cases hg : x.g with
       | none =>
        rw [hg] at hq
        have q1 := hq.2.1
        have q2 : x.scap = 0 := hq.2.2.2
        omega
       | some b => exact ⟨b, rfl⟩
      have HGB := toHid hgb
      rw [hgb, slV_some] at c3
      have hnm := HH.out.2.1.many
      generalize hnn : x.slots.length = n at *
      have HNN := toHid hnn
      clear hgb hnn
      have hnil : ∀ (w : World) (a : Option Addr) (n c : Nat), (binOp .eql 39 (.slice a n c) (.slice none 0 0)).run Tryz.prog w = .ok (.bool a.isNone) w := fun w a n c => Lib.run_eql_slice_nil w _ _ a n c 0 0 Tryz.underlying39
      go_wp2_with fail
      go_loop [9, 11] (fun a i => ∃ k : Nat, k ≤ n ∧ i = .int .i64 ((k : Int) - 1) ∧ ∃ z : Int, a = .int .i64 z ∧ Hid (z = idxI ((freeP (x.p.slots.drop k)).map (· + k)))) (fun _ i => (intOf i + 1).toNat)
      case atStart =>
       refine ⟨n, Nat.le_refl _, rfl, -1, rfl, ?_⟩
       show (-1 : Int) = _
       rw [List.drop_eq_nil_of_le (by show (x.slots.map (Option.map KS.bs)).length ≤ n; rw [List.length_map, HNN.out]; exact Nat.le_refl _)]
       rfl
      case round =>
       obtain ⟨k, hk, rfl, z, rfl, HZ⟩ := hrel
       by_cases hkp : 0 < k
       ·obtain ⟨i, rfl⟩ : ∃ i, k = i + 1 := ⟨k - 1, by omega⟩
        have hil : i < x.slots.length := by rw [HNN.out]; omega
        have hget : x.slots[i]? = some (x.slots.getD i none) := by
         rw [List.getD_eq_getElem?_getD, List.getElem?_eq_getElem hil]
         rfl
        obtain ⟨gb', hgb', hc⟩ := HR2.out.slot hget
        rw [HGB.out] at hgb'
        injection hgb' with hgb'
        subst hgb'
        have hst := free_step (l := x.p.slots) (k := i) (by show i < (x.slots.map (Option.map KS.bs)).length; rw [List.length_map]; exact hil) HZ.out
        have hpg : x.p.slots.getD i none = (x.slots.getD i none).map KS.bs := by
         show (x.slots.map (Option.map KS.bs)).getD i none = _
         rw [List.getD_eq_getElem?_getD, List.getElem?_map, hget]
         rfl
        rw [hpg] at hst
        cases hs : x.slots.getD i none with
        | none =>
         rw [hs] at hst hc
         unfold slotV at hc
         have HST := toHid hst
         clear hst hpg hs hget hil
         go_wp2
         exact ⟨⟨i, by omega, by go_num, _, rfl, toHid (by rw [show (((i + 1 : Nat) : Int) - 1) = (i : Int) by omega]; simpa using HST.out)⟩, by simp [intOf] <;> omega⟩
        | some ks =>
         rw [hs] at hst hc
         unfold slotV KS.v at hc
         have HST := toHid hst
         clear hst hpg hs hget hil
         go_wp2
         exact ⟨⟨i, by omega, by go_num, z, rfl, toHid (by simpa using HST.out)⟩, by simp [intOf] <;> omega⟩
       ·obtain rfl : k = 0 := by omega
        have hz : z = idxI (freeP x.p.slots) := by
         rw [HZ.out, List.drop_zero]
         cases freeP x.p.slots <;> rfl
        cases hfr : freeP x.p.slots with
        | some fr =>
         rw [hfr] at hz
         obtain rfl : z = (fr : Int) := hz
         have hfl : fr < x.slots.length := by
          have := freeP_lt hfr
          have h2 : x.p.slots.length = x.slots.length := by show (x.slots.map _).length = _; simp
          omega
         obtain rfl : pr = (((fr : Int), true, 0), x.p.laid fr bs) := by
          rw [HV4.out]
          unfold PX.room
          rw [hfr]
         have HFL := toHid hfl
         have hfn : fr < n := by rw [← HNN.out]; exact hfl
         clear hfr HZ HV4 hfl
         have hR0 := HR2.out.touch ((Touch.refl [] w3).drew) (by simp)
         obtain ⟨g1, cap1, w4, hr1, hA1, ht1, hg1⟩ := keyat_append (HH.out.2.2.2.touch (HT.out.drew)) HSZ.out.1 HSZ.out.2 kc
         have hlaid := hR0.laid HGB.out (j := fr) HFL.out hA1 ht1 hg1
         have HS0 := toHid (show w3.drew.cell? ⟨x.r, 3, none⟩ = some (.slice (some ⟨gb, 0, none⟩) n x.scap) from c3)
         have HS1 := toHid (((Touch.refl [] w3.drew).alloc (.cells #[] 5)).cell HS0.out (by simp))
         have HS2 := toHid (ht1.cell HS0.out (by simp))
         have hx2 := hlaid.1.c3
         have hx0 := hlaid.1.c0
         have HS3 : Hid ((w4.setCell ⟨gb, fr, none⟩ (.slice (some ⟨g1, 0, none⟩) sl cap1)).cell? ⟨x.r, 3, none⟩ = some (.slice (some ⟨gb, 0, none⟩) n x.scap)) := by
          have e1 : slV x.g (x.slots.set fr (some ⟨g1, cap1, bs⟩)).length x.scap = .slice (some ⟨gb, 0, none⟩) n x.scap := by
           rw [HGB.out, List.length_set, HNN.out]
           rfl
          have e2 : (⟨g1, cap1, bs⟩ : KS).v = .slice (some ⟨g1, 0, none⟩) sl cap1 := by
           rw [HH.out.2.2.2.1]
           rfl
          rw [← e2, ← e1]
          exact hx2
         have e2 : (⟨g1, cap1, bs⟩ : KS).v = .slice (some ⟨g1, 0, none⟩) sl cap1 := by
          rw [HH.out.2.2.2.1]
          rfl
         rw [e2] at hlaid hx0
         have hget : x.slots[fr]? = some (x.slots.getD fr none) := by
          rw [List.getD_eq_getElem?_getD, List.getElem?_eq_getElem HFL.out]
          rfl
         obtain ⟨gb', hgb', hc⟩ := (hR0.touch ht1 (by simp)).slot hget
         have hfz : w4.frozen? ⟨gb, fr, none⟩ = false := by
          have hq := (hR0.touch ht1 (by simp)).row.2.2.2
          rw [HGB.out] at hq
          obtain ⟨_, hB, _⟩ := hq
          exact hB.frozen _
         rw [HGB.out] at hgb'
         injection hgb' with hgb'
         subst hgb'
         generalize slotV (x.slots.getD fr none) = oldv at hc
         have hx0 : (w4.setCell ⟨gb, fr, none⟩ (.slice (some ⟨g1, 0, none⟩) sl cap1)).cell? ⟨x.r, 0, none⟩ = some (.int .i64 x.kind) := hx0
         have H3 := toHid (touch_any hlaid.1 (idxI (some (fr))) (by show ((fr : Nat) : Int) < (x.whens.length : Int); rw [HH.out.2.1.lens, HNN.out]; have := HFL.out; rw [HNN.out] at this; omega) HH.out.2.1.clock0 (by have := HH.out.2.1.clock1; show x.clock ≤ _; omega))
         have HLL := toHid hlaid
         have HR1 := toHid hr1
         have hk3' : (x.kind == 3) = false := by simpa using HH.out.2.2.1
         unfold idxI at H3
         simp only at H3
         have hsz : w3.drew.heap.size = w3.heap.size := rfl
         rw [hsz] at HR1
         generalize hRR : x.r = R at *
         generalize hSC : x.scap = sc at *
         have HRC := toHid (And.intro hRR hSC)
         clear hR0 hr1 hA1 ht1 hg1 hlaid hget hx2 e2 hsz hRR hSC
         go_upto_region 29 with fail
         refine wp_region_held_drew (S := (fun w' => w'.cell? ⟨R, 3, none⟩ = some (.slice (some ⟨gb, 0, none⟩) n sc))) (by kernel_rfl) ?_ (fun hHeld => ?_)
         ·exact HS0.out
         refine tk 0 (v := ?_) rfl ?_ ?_
         rotate_left
         ·(intro w hSw; (try dsimp only at hSw); go_simp; try with_reducible rfl)
         simp only [Act.put, AP]
         refine tk 1 (v := ?_) rfl ?_ ?_
         rotate_left
         ·(intro w hSw; (try dsimp only at hSw); go_simp; try with_reducible rfl)
         simp only [Act.put, AP]
         refine tk 2 (v := ?_) rfl ?_ ?_
         rotate_left
         ·(intro w hSw; (try dsimp only at hSw); go_simp; try with_reducible rfl)
         simp only [Act.put, AP]
         refine tk 3 (v := ?_) rfl ?_ ?_
         rotate_left
         ·(intro w hSw; (try dsimp only at hSw); go_simp; try with_reducible rfl)
         simp only [Act.put, AP]
         refine tk 4 (v := ?_) rfl ?_ ?_
         rotate_left
         ·(intro w hSw; (try dsimp only at hSw); go_simp; try with_reducible rfl)
         simp only [Act.put, AP]
         refine tk 6 (v := ?_) rfl ?_ ?_
         rotate_left
         ·(intro w hSw; (try dsimp only at hSw); go_simp; try with_reducible rfl)
         simp only [Act.put, AP]
         refine wpAnyH_ready (rs := [5]) (by kernel_rfl) (by simp) ?_
         refine AllReadyH.cons rfl (fun K hK => ?_) AllReadyH.nil
         simp only [AP]
         go_simp
         refine hK.out _ _ ?_ (fun hHeld => ?_)
         ·exact HS1.out
         clear hK K
         try simp only [Act.put, AP]
         refine wpAnyH_ready (rs := [7]) (by kernel_rfl) (by simp) ?_
         refine AllReadyH.cons rfl (fun K hK => ?_) AllReadyH.nil
         refine step_append_known rfl (.tmp 106) (.tmp 107) 39 39 rfl (.slice (some ⟨w3.heap.size, 0, none⟩) 0 0) (.slice sa sl kc) (by simp [Act.eval]) (by simp [Act.eval]) HR1.out ?_
         refine hK.out _ _ ?_ (fun hHeld => ?_)
         ·exact HS2.out
         clear hK K
         try simp only [Act.put, AP]
         refine tk 8 (v := ?_) rfl ?_ ?_
         rotate_left
         ·(intro w hSw; (try dsimp only at hSw); go_simp; try with_reducible rfl)
         simp only [Act.put, AP]
         refine wpAnyH_ready (rs := [9]) (by kernel_rfl) (by simp) ?_
         refine AllReadyH.cons rfl (fun K hK => ?_) AllReadyH.nil
         simp only [AP]
         go_simp
         refine hK.out _ _ ?_ (fun hHeld => ?_)
         ·exact HS3.out
         clear hK K
         try simp only [Act.put, AP]
         refine wpAnyH_done (by kernel_rfl) ?_ _
         clear c0 c3
         go_wp2_with fail
         refine Calls.mono H3.out ?_
         rintro e w5 ⟨rfl, hr5, ht5⟩
         obtain ⟨hRR, hSC⟩ := HRC.out
         subst hRR
         subst hSC
         have HF : Hid (∃ x', Step w w5 x x' (x.p.laid (fr) bs)) := ⟨_, Step.laid (HT.out.drew) HFL.out HLL.out.2.1 HLL.out.2.2 hr5 ht5⟩
         clear hr5 ht5 H3 HLL
         go_wp2
         go_ret3
         exact ⟨rfl, HF.out⟩
        | none =>
         rw [hfr] at hz
         obtain rfl : z = -1 := hz
         by_cases hk2 : x.kind = 2
         ·have HPR : Hid (pr = ((((oldP x.whens : Nat) : Int), true, 0), x.p.laid (oldP x.whens) bs)) := by
           show pr = ((((oldP x.whens : Nat) : Int), true, 0), x.p.laid (oldP x.whens) bs)
           rw [HV4.out]
           unfold PX.room
           rw [hfr]
           simp only
           rw [if_pos (show x.p.kind = 2 from hk2)]
           rfl
          have hk2' : (x.kind != 2) = false := by simpa using hk2
          have HK2 := toHid hk2
          have HLW := toHid (HH.out.2.1.lens.trans HNN.out)
          clear hfr hk2 HZ HV4
          go_wp2_with fail
          go_loopw [9, 81] (fun a i w' => ∃ k : Nat, k ≤ n ∧ i = .int .i64 k ∧ ∃ z : Nat, a = .int .i64 z ∧ z < n ∧ Hid (oldFrom x.whens (n - k) z = oldP x.whens ∧ Touch [] w3 w')) (fun _ i _ => n - (intOf i).toNat)
          case atStart => exact ⟨0, by omega, rfl, 0, rfl, by omega, by unfold oldP; rw [HLW.out]; rfl, Touch.refl _ _⟩
          case round =>
           obtain ⟨k, hk, rfl, z, rfl, hzn, HO⟩ := hrel
           by_cases hkn : k < n
           ·have hxr := HR2.out.touch HO.out.2 (by simp)
            obtain ⟨wb, rest, hwb, hWB⟩ := hxr.when (j := k) (by rw [HLW.out]; exact hkn)
            have d4 := hxr.c4
            rw [hwb, HLW.out, slV_some] at d4
            have cell : ∀ j, j < n → wr.cell? ⟨wb, j, none⟩ = some (.int .i64 (x.whens.getD j 0)) := fun j hj => hWB.cell (by
             rw [List.getElem?_append_left (by rw [List.length_map, HLW.out]; exact hj), List.getElem?_map, List.getD_eq_getElem?_getD, List.getElem?_eq_getElem (by rw [HLW.out]; exact hj)]
             rfl)
            have v1 := cell k hkn
            have v2 := cell z hzn
            have hstep : oldFrom x.whens (n - k) z = oldFrom x.whens (n - (k + 1)) (if x.whens.getD k 0 < x.whens.getD z 0 then k else z) := by
             obtain ⟨q, hq⟩ : ∃ q, n - k = q + 1 := ⟨n - k - 1, by omega⟩
             rw [hq, show n - (k + 1) = q by omega, oldFrom_succ, HLW.out, show n - (q + 1) = k by omega]
            have HST := toHid hstep
            generalize x.whens.getD k 0 = a1 at *
            generalize x.whens.getD z 0 = a2 at *
            clear cell hWB hwb hxr hstep
            go_wp2_with fail
            go_region
            by_cases hlt : a1 < a2
            ·have HNX : Hid (oldFrom x.whens (n - (k + 1)) k = oldP x.whens ∧ Touch [] w3 wr.drew) := by
              have h1 := HST.out
              rw [if_pos hlt] at h1
              exact ⟨h1.symm.trans HO.out.1, HO.out.2.drew⟩
             clear HST HO
             go_wp2
             go_roundw
             case rel => exact ⟨k + 1, by omega, by go_num, k, rfl, hkn, HNX⟩
             case measure => simp [intOf]; omega
            ·have HNX : Hid (oldFrom x.whens (n - (k + 1)) z = oldP x.whens ∧ Touch [] w3 wr.drew) := by
              have h1 := HST.out
              rw [if_neg hlt] at h1
              exact ⟨h1.symm.trans HO.out.1, HO.out.2.drew⟩
             clear HST HO
             go_wp2
             go_roundw
             case rel => exact ⟨k + 1, by omega, by go_num, z, rfl, hzn, HNX⟩
             case measure => simp [intOf]; omega
           ·obtain rfl : n = k := by omega
            have hzo : oldP x.whens = z := by
             have h1 := HO.out.1
             rw [Nat.sub_self] at h1
             exact h1.symm
            obtain rfl : pr = (((z : Int), true, 0), x.p.laid z bs) := by rw [HPR.out, hzo]
            replace c0 := HO.out.2.cell c0 (by simp)
            replace c3 := HO.out.2.cell c3 (by simp)
            replace HT := toHid (HT.out.trans HO.out.2 (by simp))
            replace HR2 := toHid (HR2.out.touch HO.out.2 (by simp))
            have HFL : Hid (z < x.slots.length) := toHid (by rw [HNN.out]; exact hzn)
            clear HPR hzo HN HO hk2'
            generalize hww : wr = w7 at *
            clear hww
            have hR0 := HR2.out.touch ((Touch.refl [] w7).drew) (by simp)
            obtain ⟨g1, cap1, w4, hr1, hA1, ht1, hg1⟩ := keyat_append (HH.out.2.2.2.touch (HT.out.drew)) HSZ.out.1 HSZ.out.2 kc
            have hlaid := hR0.laid HGB.out (j := z) HFL.out hA1 ht1 hg1
            have HS0 := toHid (show w7.drew.cell? ⟨x.r, 3, none⟩ = some (.slice (some ⟨gb, 0, none⟩) n x.scap) from c3)
            have HS1 := toHid (((Touch.refl [] w7.drew).alloc (.cells #[] 5)).cell HS0.out (by simp))
            have HS2 := toHid (ht1.cell HS0.out (by simp))
            have hx2 := hlaid.1.c3
            have hx0 := hlaid.1.c0
            have HS3 : Hid ((w4.setCell ⟨gb, z, none⟩ (.slice (some ⟨g1, 0, none⟩) sl cap1)).cell? ⟨x.r, 3, none⟩ = some (.slice (some ⟨gb, 0, none⟩) n x.scap)) := by
             have e1 : slV x.g (x.slots.set z (some ⟨g1, cap1, bs⟩)).length x.scap = .slice (some ⟨gb, 0, none⟩) n x.scap := by
              rw [HGB.out, List.length_set, HNN.out]
              rfl
             have e2 : (⟨g1, cap1, bs⟩ : KS).v = .slice (some ⟨g1, 0, none⟩) sl cap1 := by
              rw [HH.out.2.2.2.1]
              rfl
             rw [← e2, ← e1]
             exact hx2
            have e2 : (⟨g1, cap1, bs⟩ : KS).v = .slice (some ⟨g1, 0, none⟩) sl cap1 := by
             rw [HH.out.2.2.2.1]
             rfl
            rw [e2] at hlaid hx0
            have hget : x.slots[z]? = some (x.slots.getD z none) := by
             rw [List.getD_eq_getElem?_getD, List.getElem?_eq_getElem HFL.out]
             rfl
            obtain ⟨gb', hgb', hc⟩ := (hR0.touch ht1 (by simp)).slot hget
            have hfz : w4.frozen? ⟨gb, z, none⟩ = false := by
             have hq := (hR0.touch ht1 (by simp)).row.2.2.2
             rw [HGB.out] at hq
             obtain ⟨_, hB, _⟩ := hq
             exact hB.frozen _
            rw [HGB.out] at hgb'
            injection hgb' with hgb'
            subst hgb'
            generalize slotV (x.slots.getD z none) = oldv at hc
            have hx0 : (w4.setCell ⟨gb, z, none⟩ (.slice (some ⟨g1, 0, none⟩) sl cap1)).cell? ⟨x.r, 0, none⟩ = some (.int .i64 x.kind) := hx0
            have H3 := toHid (touch_any hlaid.1 (idxI (some (z))) (by show ((z : Nat) : Int) < (x.whens.length : Int); rw [HH.out.2.1.lens, HNN.out]; have := HFL.out; rw [HNN.out] at this; omega) HH.out.2.1.clock0 (by have := HH.out.2.1.clock1; show x.clock ≤ _; omega))
            have HLL := toHid hlaid
            have HR1 := toHid hr1
            have hk3' : (x.kind == 3) = false := by simpa using HH.out.2.2.1
            unfold idxI at H3
            simp only at H3
            have hsz : w7.drew.heap.size = w7.heap.size := rfl
            rw [hsz] at HR1
            generalize hRR : x.r = R at *
            generalize hSC : x.scap = sc at *
            have HRC := toHid (And.intro hRR hSC)
            clear hR0 hr1 hA1 ht1 hg1 hlaid hget hx2 e2 hsz hRR hSC
            go_upto_region 29 with fail
            refine wp_region_held_drew (S := (fun w' => w'.cell? ⟨R, 3, none⟩ = some (.slice (some ⟨gb, 0, none⟩) n sc))) (by kernel_rfl) ?_ (fun hHeld => ?_)
            ·exact HS0.out
            refine tk 0 (v := ?_) rfl ?_ ?_
            rotate_left
            ·(intro w hSw; (try dsimp only at hSw); go_simp; try with_reducible rfl)
            simp only [Act.put, AP]
            refine tk 1 (v := ?_) rfl ?_ ?_
            rotate_left
            ·(intro w hSw; (try dsimp only at hSw); go_simp; try with_reducible rfl)
            simp only [Act.put, AP]
            refine tk 2 (v := ?_) rfl ?_ ?_
            rotate_left
            ·(intro w hSw; (try dsimp only at hSw); go_simp; try with_reducible rfl)
            simp only [Act.put, AP]
            refine tk 3 (v := ?_) rfl ?_ ?_
            rotate_left
            ·(intro w hSw; (try dsimp only at hSw); go_simp; try with_reducible rfl)
            simp only [Act.put, AP]
            refine tk 4 (v := ?_) rfl ?_ ?_
            rotate_left
            ·(intro w hSw; (try dsimp only at hSw); go_simp; try with_reducible rfl)
            simp only [Act.put, AP]
            refine tk 6 (v := ?_) rfl ?_ ?_
            rotate_left
            ·(intro w hSw; (try dsimp only at hSw); go_simp; try with_reducible rfl)
            simp only [Act.put, AP]
            refine wpAnyH_ready (rs := [5]) (by kernel_rfl) (by simp) ?_
            refine AllReadyH.cons rfl (fun K hK => ?_) AllReadyH.nil
            simp only [AP]
            go_simp
            refine hK.out _ _ ?_ (fun hHeld => ?_)
            ·exact HS1.out
            clear hK K
            try simp only [Act.put, AP]
            refine wpAnyH_ready (rs := [7]) (by kernel_rfl) (by simp) ?_
            refine AllReadyH.cons rfl (fun K hK => ?_) AllReadyH.nil
            refine step_append_known rfl (.tmp 106) (.tmp 107) 39 39 rfl (.slice (some ⟨w7.heap.size, 0, none⟩) 0 0) (.slice sa sl kc) (by simp [Act.eval]) (by simp [Act.eval]) HR1.out ?_
            refine hK.out _ _ ?_ (fun hHeld => ?_)
            ·exact HS2.out
            clear hK K
            try simp only [Act.put, AP]
            refine tk 8 (v := ?_) rfl ?_ ?_
            rotate_left
            ·(intro w hSw; (try dsimp only at hSw); go_simp; try with_reducible rfl)
            simp only [Act.put, AP]
            refine wpAnyH_ready (rs := [9]) (by kernel_rfl) (by simp) ?_
            refine AllReadyH.cons rfl (fun K hK => ?_) AllReadyH.nil
            simp only [AP]
            go_simp
            refine hK.out _ _ ?_ (fun hHeld => ?_)
            ·exact HS3.out
            clear hK K
            try simp only [Act.put, AP]
            refine wpAnyH_done (by kernel_rfl) ?_ _
            clear c0 c3
            go_wp2_with fail
            refine Calls.mono H3.out ?_
            rintro e w5 ⟨rfl, hr5, ht5⟩
            obtain ⟨hRR, hSC⟩ := HRC.out
            subst hRR
            subst hSC
            have HF : Hid (∃ x', Step w w5 x x' (x.p.laid (z) bs)) := ⟨_, Step.laid (HT.out.drew) HFL.out HLL.out.2.1 HLL.out.2.2 hr5 ht5⟩
            clear hr5 ht5 H3 HLL
            go_wp2
            go_ret3
            exact ⟨rfl, HF.out⟩
         ·obtain rfl : pr = ((0, false, 71), x.p) := by
           rw [HV4.out]
           unfold PX.room
           rw [hfr]
           simp only
           rw [if_neg (show ¬ x.p.kind = 2 from hk2)]
          have hk2' : (x.kind != 2) = true := by simpa using hk2
          clear hfr hk2 HZ HV4
          go_wp2
          go_ret3
          exact ⟨rfl, HN.out⟩
 ·rw [decide_eq_false he] at H1
  rw [show x.p.put bs fl = ((0, false, 2), x.p) from if_neg (by show ¬ (bs.length : Int) = x.size; omega)]
  have HH := toHid h
  clear h u hk he hl hk3
  go_enter Tryz.func61, Tryz.ntmps61
  go_wp2_with fail
  refine Calls.mono H1.out ?_
  rintro e w2 ⟨rfl, ht2⟩
  have HF : Hid (∃ x', Step w w2 x x' x.p) := ⟨x, Step.refl HH.out ht2⟩
  clear ht2 H1
  go_wp2
  go_ret3
  exact ⟨rfl, HF.out⟩
end Go.Proofs.YtmhhahmjkopjhaaGreat
end
section
namespace Go.Proofs.YtmhhahmjkopjhaaGreat
open Go.RowKit
def FindPost (w : World) (x : RX) (a : Option Nat × PX) (e : Ending) (w' : World) : Prop := e = .returned (.int .i64 (idxI a.1)) ∧ ∃ x', Step w w' x x' a.2
theorem rfindP_any {w : World} {x : RX} (h : RAt w x) (u : RUp x) (hk3 : x.kind ≠ 3) {sa : Option Addr} {sl : Nat} {bs : List Int} (hk : KeyAt w sa sl bs) (sc : Nat) :
  Calls Tryz.prog 60 #[.pointer (some ⟨x.r, 0, none⟩), .slice sa sl sc] w (FindPost w x (x.p.find bs)) := by
 have H1 := toHid (fits_any h hk3 sa sl sc (by rw [hk.1]; exact hk.2.2.1))
 have hl := hk.1
 by_cases he : (sl : Int) = x.size
 ·rw [decide_eq_true he] at H1
  rw [show x.p.find bs = (sameP x.p.slots bs, x.p.touch (sameP x.p.slots bs)) from if_pos (by show (bs.length : Int) = x.size; omega)]
  have HH := toHid (And.intro h (And.intro u (And.intro hk3 hk)))
  clear h u hk he hl hk3
  go_enter Tryz.func60, Tryz.ntmps60
  go_wp2_with fail
  refine Calls.mono H1.out ?_
  rintro e w2 ⟨rfl, ht2⟩
  have h2 := HH.out.1.touch ht2 (by simp)
  have c0 := h2.c0
  have hkd : (x.kind != 3) = true := by simpa using HH.out.2.2.1
  have H2 := toHid (same_any h2 HH.out.2.2.1 (by have := HH.out.2.1.many; omega) (HH.out.2.2.2.touch ht2) sc)
  have H3 := toHid (touch_any h2 (sameI x.slots bs) (same_lt x HH.out.2.1 bs) HH.out.2.1.clock0 (by have := HH.out.2.1.clock1; omega))
  have hsp : sameP (x.slots.map (Option.map KS.bs)) bs = sameP x.p.slots bs := rfl
  rw [sameI_eq, hsp] at H2 H3
  have HT := toHid ht2
  generalize sameP x.p.slots bs = ao at *
  generalize hao : idxI ao = a at *
  have HA := toHid hao
  clear ht2 h2 H1 hsp hao
  go_wp2_with fail
  refine Calls.mono H2.out ?_
  rintro e w3 ⟨rfl, rfl⟩
  go_wp2_with fail
  refine Calls.mono H3.out ?_
  rintro e w4 ⟨rfl, hr4, ht4⟩
  rw [← HA.out] at hr4
  have HF : Hid (∃ x', Step w w4 x x' (x.p.touch ao)) := ⟨_, Step.touched HT.out ao hr4 ht4⟩
  clear hr4 ht4 H2 H3 HT HH
  go_wp2
  go_ret
  exact ⟨by rw [HA.out]; rfl, HF.out⟩
 ·rw [decide_eq_false he] at H1
  rw [show x.p.find bs = (none, x.p) from if_neg (by show ¬ (bs.length : Int) = x.size; omega)]
  have HH := toHid h
  clear h u hk he hl hk3
  go_enter Tryz.func60, Tryz.ntmps60
  go_wp2_with fail
  refine Calls.mono H1.out ?_
  rintro e w2 ⟨rfl, ht2⟩
  have HF : Hid (∃ x', Step w w2 x x' x.p) := ⟨x, Step.refl HH.out ht2⟩
  clear ht2 H1
  go_wp2
  go_ret
  exact ⟨rfl, HF.out⟩
def DelPost (w : World) (x : RX) (a : (Int × Int) × PX) (e : Ending) (w' : World) : Prop := e = .returned (.tuple #[.int .i64 a.1.1, .int .i64 a.1.2]) ∧ ∃ x', Step w w' x x' a.2
theorem rdel_any {w : World} {x : RX} (h : RAt w x) (u : RUp x) (hk3 : x.kind ≠ 3) {sa : Option Addr} {sl : Nat} {bs : List Int} (hk : KeyAt w sa sl bs) (sc : Nat) :
  Calls Tryz.prog 63 #[.pointer (some ⟨x.r, 0, none⟩), .slice sa sl sc] w (DelPost w x (x.p.del bs)) := by
 have c0 := h.c0
 by_cases hk0 : x.kind = 0
 ·rw [show x.p.del bs = ((0, 2), x.p) from if_pos hk0]
  have HF : Hid (∃ x', Step w w x x' x.p) := ⟨x, Step.refl h (Touch.refl _ _)⟩
  rw [hk0] at c0
  clear h u hk hk0 hk3
  go_enter Tryz.func63, Tryz.ntmps63
  go_wp2
  go_ret2
  exact ⟨rfl, HF.out⟩
 ·have HV : Hid (x.p.del bs = (if (bs.length : Int) = x.size then match sameP x.p.slots bs with
    | some i => (((i : Int), 0), { x.p with slots := x.p.slots.set i none })
    | none => ((0, 14), x.p)
   else ((0, 2), x.p) : (Int × Int) × PX)) := if_neg hk0
  have hk0' : (x.kind == 0) = false := by simpa using hk0
  have H1 := toHid (fits_any h hk3 sa sl sc (by rw [hk.1]; exact hk.2.2.1))
  have hl := hk.1
  generalize x.p.del bs = pr at *
  by_cases he : (sl : Int) = x.size
  ·rw [decide_eq_true he] at H1
   have HV2 := toHid (HV.out.trans (if_pos (by omega)))
   clear HV
   have HH := toHid (And.intro h (And.intro u (And.intro hk3 hk)))
   clear h u hk he hl hk3 hk0
   go_enter Tryz.func63, Tryz.ntmps63
   go_wp2_with fail
   refine Calls.mono H1.out ?_
   rintro e w2 ⟨rfl, ht2⟩
   have h2 := HH.out.1.touch ht2 (by simp)
   have H2 := toHid (same_any h2 HH.out.2.2.1 (by have := HH.out.2.1.many; omega) (HH.out.2.2.2.touch ht2) sc)
   rw [sameI_eq] at H2
   have HT := toHid ht2
   have HR2 := toHid h2
   have c3 := h2.c3
   clear ht2 h2 H1 c0
   cases hsm : sameP x.p.slots bs with
   | none =>
    have hsm' : sameP (x.slots.map (Option.map KS.bs)) bs = none := hsm
    rw [hsm'] at H2
    obtain rfl : pr = ((0, 14), x.p) := by rw [HV2.out, hsm]
    have HF : Hid (∃ x', Step w w2 x x' x.p) := ⟨x, Step.refl HH.out.1 HT.out⟩
    unfold idxI at H2
    simp only at H2
    clear hsm hsm'
    go_wp2_with fail
    refine Calls.mono H2.out ?_
    rintro e w3 ⟨rfl, rfl⟩
    go_wp2
    go_ret2
    exact ⟨rfl, HF.out⟩
   | some i =>
    have hsm' : sameP (x.slots.map (Option.map KS.bs)) bs = some i := hsm
    rw [hsm'] at H2
    obtain rfl : pr = (((i : Int), 0), { x.p with slots := x.p.slots.set i none }) := by rw [HV2.out, hsm]
    have hil : i < x.slots.length := by have := sameP_lt hsm'; simpa using this
    have hget : x.slots[i]? = some (x.slots.getD i none) := by
     rw [List.getD_eq_getElem?_getD, List.getElem?_eq_getElem hil]
     rfl
    obtain ⟨gb, hgb, hc⟩ := HR2.out.slot hget
    have hfz : w2.frozen? ⟨gb, i, none⟩ = false := by
     have hq := HR2.out.row.2.2.2
     rw [hgb] at hq
     obtain ⟨_, hB, _⟩ := hq
     exact hB.frozen _
    have hpl := HR2.out.placed hgb hil none (fun k hk => by cases hk)
    have HF : Hid (∃ x', Step w (w2.setCell ⟨gb, i, none⟩ (.slice none 0 0)) x x' { x.p with slots := x.p.slots.set i none }) := by
     refine ⟨_, ⟨hpl, ?_, rfl, (Touch.nil HT.out).setCell _ _ (Or.inl (RX.mem_g hgb)), fun b hb => Or.inl ?_, rfl, by simp⟩⟩
     ·unfold RX.p
      rw [List.map_set]
      rfl
     ·rcases List.mem_append.1 hb with hb | hb
      ·exact List.mem_append_left _ hb
      ·obtain ⟨a, ha, hab⟩ := List.mem_filterMap.1 hb
       rcases List.mem_or_eq_of_mem_set ha with ha | ha
       ·exact List.mem_append_right _ (List.mem_filterMap.2 ⟨a, ha, hab⟩)
       ·subst ha
        cases hab
    rw [hgb, slV_some] at c3
    have hil' : (i : Int) < x.slots.length := by omega
    have hnn := HH.out.2.1.many
    unfold idxI at H2
    simp only at H2
    generalize slotV (x.slots.getD i none) = oldv at hc
    clear hsm hsm' hget hpl hgb
    go_wp2_with fail
    refine Calls.mono H2.out ?_
    rintro e w3 ⟨rfl, rfl⟩
    go_wp2
    go_ret2
    exact ⟨rfl, HF.out⟩
  ·rw [decide_eq_false he] at H1
   obtain rfl : pr = ((0, 2), x.p) := by rw [HV.out, if_neg (by omega)]
   have HH := toHid h
   clear h u hk he hl hk3 hk0
   go_enter Tryz.func63, Tryz.ntmps63
   go_wp2_with fail
   refine Calls.mono H1.out ?_
   rintro e w2 ⟨rfl, ht2⟩
   have HF : Hid (∃ x', Step w w2 x x' x.p) := ⟨x, Step.refl HH.out ht2⟩
   clear ht2 H1
   go_wp2
   go_ret2
   exact ⟨rfl, HF.out⟩
end Go.Proofs.YtmhhahmjkopjhaaGreat
end
section
namespace Go.Proofs.YtmhhahmjkopjhaaGreat
open Go.RowKit
attribute [local go_sem ↓] Go.wp_at_zero Go.wp_at_succ
def RX.fresh (R sb wb : Nat) (kind size : Int) (m : Nat) : RX := ⟨R, kind, size, m, 0, some sb, m, some wb, m, List.replicate m none, List.replicate m 0⟩
structure FreshAt (w w' : World) (R sb wb : Nat) (kind size : Int) (m : Nat) : Prop where
 at_ : RAt w' (RX.fresh R sb wb kind size m)
 own : ∀ b ∈ (RX.fresh R sb wb kind size m).blocks, w.heap.size ≤ b
 touch : Touch [] w w'
theorem fresh_zero {w w' : World} {R sb wb m : Nat} {kind size : Int} (hR : Blk w' R [.int .i64 kind, .int .i64 size, .int .i64 m, .slice (some ⟨sb, 0, none⟩) m m, .slice (some ⟨wb, 0, none⟩) m m, .int .i64 0] 114)
  (hs : Blk w' sb (List.replicate m (.slice none 0 0)) 39) (hw : Blk w' wb (List.replicate m (.int .i64 0)) 3) (h1 : w.heap.size ≤ R) (h2 : w.heap.size ≤ sb) (h3 : w.heap.size ≤ wb) (n1 : R ≠ sb) (n2 : R ≠ wb) (n3 : sb ≠ wb)
  (hm : m ≤ 64) (ht : Touch [] w w') : FreshAt w w' R sb wb kind size m where
 at_ :=
  {self := by simpa [RX.fresh, slV] using hR
   row := ⟨by simp [RX.fresh], by simp [RX.fresh], by show m ≤ maxLen; unfold maxLen; omega, [], by simpa [RX.fresh, slotV] using hs, by simp [RX.fresh]⟩
   wrow := ⟨by simp [RX.fresh], by simp [RX.fresh], by show m ≤ maxLen; unfold maxLen; omega, [], by simpa [RX.fresh] using hw, by simp [RX.fresh]⟩
   keys := fun k hk => absurd hk (by simp [RX.fresh])
   apart := by simp [RX.top, RX.fresh, n1, n2, n3]
   apartK := fun k hk => absurd hk (by simp [RX.fresh]) }
 own := fun b hb => by
  simp [RX.blocks, RX.top, RX.fresh] at hb
  rcases hb with rfl | rfl | rfl
  ·exact h1
  ·exact h2
  ·exact h3
 touch := ht
def FreshPost (w : World) (kind size : Int) (m : Nat) (e : Ending) (w' : World) : Prop := ∃ R sb wb, e = .returned (.tuple #[.pointer (some ⟨R, 0, none⟩), .bool true]) ∧ FreshAt w w' R sb wb kind size m
theorem rnewK_any (w : World) (kind size : Int) (m : Nat) (hk0 : kind ≠ 0) (hk3 : kind ≠ 3) (s1 : 1 ≤ size) (s2 : size ≤ 16) (h1 : 1 ≤ m) (h2 : m ≤ 64) : Calls Tryz.prog 50 #[.int .i64 kind, .int .i64 size, .int .i64 (m : Int)] w (FreshPost w kind size m) := by
 have hmk := run_make_blk (P := Tryz.prog) Tryz.underlying105 info32 rfl m (by omega) (by omega) .i64
 have hmk2 := run_make_blk (P := Tryz.prog) Tryz.underlying112 info3 rfl m (by omega) (by omega) .i64
 have k0 : (kind == 0) = false := by simpa using hk0
 have k3 : (kind == 3) = false := by simpa using hk3
 clear hk0 hk3
 go_enter Tryz.func50, Tryz.ntmps50
 go_upto_region 8 with fail
 go_cut [10] from 10 to 40 (fun p wx => ∃ R sb wb, p = .pointer (some ⟨R, 0, none⟩) ∧ Hid (FreshAt w wx R sb wb kind size m))
 case first =>
  go_region
  ·go_wp2
   go_meet
   have b1 := Blk.newA w (Array.replicate m (Value.slice none 0 0)) (List.replicate m (.slice none 0 0)) 39 (by simp)
   have b2 := Blk.newA (w.alloc (Obj.cells (Array.replicate m (Value.slice none 0 0)) 39)) (Array.replicate m (Value.int .i64 0)) (List.replicate m (.int .i64 0)) 3 (by simp)
   have b3 := Blk.newA ((w.alloc (Obj.cells (Array.replicate m (Value.slice none 0 0)) 39)).alloc (Obj.cells (Array.replicate m (Value.int .i64 0)) 3)) #[.int .i64 kind, .int .i64 size, .int .i64 (m : Int), .slice (some ⟨w.heap.size, 0, none⟩) m m, .slice (some ⟨w.heap.size + 1, 0, none⟩) m m, .int .i64 0] _ 114 rfl
   simp only [World.size_alloc] at b2 b3
   exact ⟨w.heap.size + 1 + 1, w.heap.size, w.heap.size + 1, rfl, fresh_zero b3.drew ((b1.alloc _).alloc _).drew (b2.alloc _).drew (by omega) (by omega) (by omega) (by omega) (by omega) (by omega) h2 ((((Touch.refl [] w).alloc _).alloc _).alloc _).drew⟩
  ·go_wp2
   go_meet
   have b1 := Blk.newA w (Array.replicate m (Value.int .i64 0)) (List.replicate m (.int .i64 0)) 3 (by simp)
   have b2 := Blk.newA (w.alloc (Obj.cells (Array.replicate m (Value.int .i64 0)) 3)) (Array.replicate m (Value.slice none 0 0)) (List.replicate m (.slice none 0 0)) 39 (by simp)
   have b3 := Blk.newA ((w.alloc (Obj.cells (Array.replicate m (Value.int .i64 0)) 3)).alloc (Obj.cells (Array.replicate m (Value.slice none 0 0)) 39)) #[.int .i64 kind, .int .i64 size, .int .i64 (m : Int), .slice (some ⟨w.heap.size + 1, 0, none⟩) m m, .slice (some ⟨w.heap.size, 0, none⟩) m m, .int .i64 0] _ 114 rfl
   simp only [World.size_alloc] at b2 b3
   exact ⟨w.heap.size + 1 + 1, w.heap.size + 1, w.heap.size, rfl, fresh_zero b3.drew (b2.alloc _).drew ((b1.alloc _).alloc _).drew (by omega) (by omega) (by omega) (by omega) (by omega) (by omega) h2 ((((Touch.refl [] w).alloc _).alloc _).alloc _).drew⟩
 case rest =>
  obtain ⟨R, sb, wb, rfl, HZ⟩ := hcut
  clear hmk hmk2
  go_wp2_with fail
  go_loopw [11] (fun t w' => t = .int .i64 0 ∧ Hid (FreshAt w w' R sb wb kind size m)) (fun _ _ => 0)
  case atStart => exact ⟨rfl, HZ.out⟩
  case round =>
   clear HZ
   obtain ⟨rfl, HI⟩ := hrel
   go_wp2
   go_ret2
   exact ⟨R, sb, wb, rfl, HI.out⟩
theorem rnewK_bad (w : World) (kind size m : Int) (hk0 : kind ≠ 0) (hk3 : kind ≠ 3) (h1 : ¬ (1 ≤ m ∧ m ≤ 64 ∧ 1 ≤ size ∧ size ≤ 16)) : Calls Tryz.prog 50 #[.int .i64 kind, .int .i64 size, .int .i64 m] w fun e w' => e = .returned (.tuple #[.pointer none, .bool false]) ∧ w' = w := by
 have k0 : (kind == 0) = false := by simpa using hk0
 have k3 : (kind == 3) = false := by simpa using hk3
 clear hk0 hk3
 by_cases a1 : m < 1
 ·go_enter Tryz.func50, Tryz.ntmps50
  go_wp2
  go_ret2
  exact ⟨rfl, rfl⟩
 ·by_cases a2 : 64 < m
  ·go_enter Tryz.func50, Tryz.ntmps50
   go_wp2
   go_ret2
   exact ⟨rfl, rfl⟩
  ·by_cases a3 : size < 1
   ·clear h1
    go_enter Tryz.func50, Tryz.ntmps50
    go_wp2
    go_ret2
    exact ⟨rfl, rfl⟩
   ·have a4 : 16 < size := by omega
    clear h1
    go_enter Tryz.func50, Tryz.ntmps50
    go_wp2
    go_ret2
    exact ⟨rfl, rfl⟩
end Go.Proofs.YtmhhahmjkopjhaaGreat
end
section
namespace Go.Proofs.YtmhhahmjkopjhaaGreat
open Go.RowKit
def byteOf (v : Int) (j : Nat) : Int := v / 256 ^ j % 256
theorem byteOf_bd (v : Int) (j : Nat) : 0 ≤ byteOf v j ∧ byteOf v j ≤ 255 := by unfold byteOf; omega
theorem byte_shift (v : Int) (k : Nat) : v / 2 ^ (8 * k) % 256 = byteOf v k := by
 unfold byteOf
 rw [Int.pow_mul]
 rfl
def le4 (v : Int) : List Int := (List.range 4).map (byteOf v)
theorem le4_eq (v : Int) : le4 v = [byteOf v 0, byteOf v 1, byteOf v 2, byteOf v 3] := rfl
theorem le4_len (v : Int) : (le4 v).length = 4 := rfl
theorem le4_bd (v : Int) : ∀ x ∈ le4 v, 0 ≤ x ∧ x ≤ 255 := fun x hx => by
 obtain ⟨j, _, rfl⟩ := List.mem_map.1 hx
 exact byteOf_bd v j
def allKeys (m : Nat) : List (List Int) := (List.range m).map fun i : Nat => le4 (i : Int)
def keyNum (bs : List Int) : Int := num (fun j => bs.getD j 0) 4
theorem KeyAt.num4 {w : World} {sa : Option Addr} {sl : Nat} {bs : List Int} (h : KeyAt w sa sl bs) : 0 ≤ keyNum bs ∧ keyNum bs ≤ 4294967295 := by
 have := h.nums 4
 unfold keyNum
 omega
end Go.Proofs.YtmhhahmjkopjhaaGreat
end
section
namespace Go.Proofs.YtmhhahmjkopjhaaGreat
open Go.RowKit
attribute [local go_sem ↓] Go.wp_at_zero Go.wp_at_succ
def OwnAt (w0 w : World) (v : Value) (bs : List Int) : Prop := ∃ g cap, v = slV g bs.length cap ∧ RowAt w 5 1 g bs.length cap (bs.map (Value.int .u8)) ∧ ∀ b, g = some b → w0.heap.size ≤ b
theorem OwnAt.nil (w0 w : World) : OwnAt w0 w (.slice none 0 0) [] := ⟨none, 0, rfl, ⟨rfl, Nat.le_refl _, by unfold maxLen; omega, rfl⟩, fun b hb => by cases hb⟩
theorem OwnAt.touch {w0 w w' : World} {v : Value} {bs : List Int} (h : OwnAt w0 w v bs) (ht : Touch [] w w') : OwnAt w0 w' v bs := by
 obtain ⟨g, cap, h1, h2, h3⟩ := h
 exact ⟨g, cap, h1, h2.touch ht (by simp), h3⟩
theorem OwnAt.push {w0 w : World} {v : Value} {bs : List Int} (h : OwnAt w0 w v bs) (ht : Touch [] w0 w) (x : Int) (hl : bs.length ≤ 100000) :
  ∃ v' w', (Builtin.append_ #[39, 39] 39 #[v, .slice (some ⟨w.heap.size, 0, none⟩) 1 1]).run Tryz.prog (w.alloc (.cells #[.int .u8 x] 5)) = .ok v' w' ∧ OwnAt w0 w' v' (bs ++ [x]) ∧ Touch [] w0 w' := by
 have hN := Blk.newA w #[.int .u8 x] _ 5 rfl
 have hta : Touch [] w (w.alloc (.cells #[.int .u8 x] 5)) := (Touch.refl _ w).alloc _
 obtain ⟨g, cap, rfl, hrow, hg⟩ := h.touch hta
 obtain ⟨i, hi, hz, hs, hb⟩ := info_of info5
 obtain ⟨g', cap', w', hr, h2, h3, h4, _⟩ := run_append_row (P := Tryz.prog) (w.alloc (.cells #[.int .u8 x] 5)) 39 39 5 i (.int .u8 0) 1 Tryz.underlying39 hi hz hs rfl (by omega) g bs.length cap _ hrow ⟨w.heap.size, 0, none⟩ 1 1 [.int .u8 x] rfl
  (fun j u hj => by
   rw [Addr.add_lit]
   have : j = 0 := by have := (List.getElem?_eq_some_iff.1 hj).1; simp at this; exact this
   subst this
   exact hN.cell hj) (fun u hu => by
   simp only [List.mem_singleton] at hu
   subst hu
   rfl) (by rw [hb]; omega) (by omega)
 have ht2 := ht.trans hta (by simp)
 have hsz := ht2.size
 refine ⟨_, w', hr, ⟨g', cap', by simp, by simpa using h2, fun b hb => ?_⟩, ht2.trans h3 (fun y hy => Or.inr (hg y (by simpa using hy)))⟩
 rcases h4 with rfl | rfl
 ·exact hg b hb
 ·injection hb with hb
  omega
theorem rbytes_any (v : Int) (n : Nat) (w : World) (hv0 : 0 ≤ v) (hv1 : v ≤ 18446744073709551615) (hn : n ≤ 8) :
  Calls Tryz.prog 67 #[.int .u64 v, .int .i64 n] w fun e w' => (∃ x, e = .returned x ∧ OwnAt w w' x ((List.range n).map (byteOf v))) ∧ Touch [] w w' := by
 have HD : ∀ k : Nat, 0 ≤ v / 256 ^ k ∧ v / 256 ^ k ≤ 18446744073709551615 := fun k => by
  have h1 : 0 ≤ v / 256 ^ k := Int.ediv_nonneg hv0 (Int.pow_nonneg (by omega))
  have h2 : v / 256 ^ k ≤ v := Int.ediv_le_self _ hv0
  omega
 have HDD := toHid HD
 clear HD
 go_enter Tryz.func67, Tryz.ntmps67
 go_wp2
 go_loopw [0, 5, 6] (fun x o t w' => ∃ k : Nat, k ≤ n ∧ t = .int .i64 k ∧ x = .int .u64 (v / 256 ^ k) ∧ Hid (OwnAt w w' o ((List.range k).map (byteOf v)) ∧ Touch [] w w')) (fun _ _ t _ => n - (intOf t).toNat)
 case atStart => exact ⟨0, by omega, rfl, by simp, OwnAt.nil _ _, Touch.refl _ _⟩
 case round =>
  obtain ⟨k, hk, rfl, rfl, HI⟩ := hrel
  by_cases hlt : k < n
  ·have hd := HDD.out k
   obtain ⟨v', w', hr, ho, ht⟩ := HI.out.1.push HI.out.2 (byteOf v k) (by simp; omega)
   have HRR := toHid hr
   have HO := toHid (And.intro ho ht)
   have hby : v / 256 ^ k % 256 = byteOf v k := rfl
   have hbd := byteOf_bd v k
   have HDS : Hid (v / 256 ^ k / 256 = v / 256 ^ (k + 1)) := by
    show v / 256 ^ k / 256 = v / 256 ^ (k + 1)
    rw [Int.pow_succ, Int.ediv_ediv_of_nonneg (Int.pow_nonneg (by omega))]
   generalize hq : v / 256 ^ k = q at *
   generalize hy : byteOf v k = y at *
   have HY := toHid hy
   clear hr ho ht hq hy
   go_wp2_with (at_builtin; refine Lib.wpList_append_run _ rfl _ _ _ _ rfl _ _ rfl rfl _ _ HRR.out ?_)
   refine ⟨⟨k + 1, by omega, by go_num, by rw [HDS.out], ?_⟩, by simp [intOf]; omega⟩
   rw [List.range_succ, List.map_append, List.map_singleton, HY.out]
   exact HO.out
  ·obtain rfl : k = n := by omega
   go_wp2
   go_ret
   exact ⟨⟨_, rfl, HI.out.1⟩, HI.out.2⟩
theorem rkey_any (v : Int) (w : World) (hv0 : 0 ≤ v) (hv1 : v ≤ 18446744073709551615) :
  Calls Tryz.prog 67 #[.int .u64 v, .int .i64 4] w fun e w' => (∃ b cap, e = .returned (.slice (some ⟨b, 0, none⟩) 4 cap) ∧ (⟨b, cap, le4 v⟩ : KS).At w' ∧ w.heap.size ≤ b) ∧ Touch [] w w' := by
 refine (rbytes_any v 4 w hv0 hv1 (by omega)).mono ?_
 rintro e w' ⟨⟨x, rfl, g, cap, rfl, hrow, hg⟩, ht⟩
 cases g with
 | none =>
  have h1 := hrow.2.1
  have h2 : cap = 0 := hrow.2.2.2
  simp at h1
  omega
 | some b =>
  obtain ⟨_, hcp, _, rest, hB, _⟩ := hrow
  exact ⟨⟨b, cap, rfl, ⟨⟨rest, hB.toF⟩, le4_bd v, by rw [le4_len]; omega, by rw [le4_len]; omega, hcp⟩, hg b rfl⟩, ht⟩
def RX.arr (R sb wb m : Nat) (l : List KS) (q : Nat) : RX := ⟨R, 0, 4, m, 0, some sb, m, some wb, m, l.map some ++ List.replicate q none, List.replicate m 0⟩
structure NewAt (w w' : World) (R sb wb m k : Nat) (l : List KS) : Prop where
 at_ : RAt w' (RX.arr R sb wb m l (m - k))
 len : l.length = k
 eq : l.map KS.bs = allKeys k
 own : ∀ b ∈ (RX.arr R sb wb m l (m - k)).blocks, w.heap.size ≤ b
 touch : Touch [] w w'
theorem arr_set (R sb wb m : Nat) (l : List KS) (q : Nat) (s : KS) : { RX.arr R sb wb m l (q + 1) with slots := (RX.arr R sb wb m l (q + 1)).slots.set l.length (some s) } = RX.arr R sb wb m (l ++ [s]) q := by
 unfold RX.arr
 simp only [RX.mk.injEq, true_and, and_true]
 rw [List.set_append_right _ _ (by simp)]
 simp [List.replicate_succ]
theorem arr_slots (R sb wb m : Nat) (l : List KS) (q : Nat) : (RX.arr R sb wb m l q).slots.length = l.length + q := by simp [RX.arr]
theorem arr_blocks (R sb wb m : Nat) (l : List KS) (q : Nat) (b : Nat) : b ∈ (RX.arr R sb wb m l q).blocks ↔ b = R ∨ b = sb ∨ b = wb ∨ ∃ k ∈ l, k.b = b := by
 simp [RX.blocks, RX.top, RX.arr, List.filterMap_append]
theorem newAt_zero {w w' : World} {R sb wb m : Nat} (hR : Blk w' R [.int .i64 0, .int .i64 4, .int .i64 m, .slice (some ⟨sb, 0, none⟩) m m, .slice (some ⟨wb, 0, none⟩) m m, .int .i64 0] 114)
  (hs : Blk w' sb (List.replicate m (.slice none 0 0)) 39) (hw : Blk w' wb (List.replicate m (.int .i64 0)) 3) (h1 : w.heap.size ≤ R) (h2 : w.heap.size ≤ sb) (h3 : w.heap.size ≤ wb) (n1 : R ≠ sb) (n2 : R ≠ wb) (n3 : sb ≠ wb)
  (hm : m ≤ 64) (ht : Touch [] w w') : NewAt w w' R sb wb m 0 [] where
 at_ :=
  {self := by simpa [RX.arr, slV] using hR
   row := ⟨by simp [RX.arr], by simp [RX.arr], by show m ≤ maxLen; unfold maxLen; omega, [], by simpa [RX.arr, slotV] using hs, by simp [RX.arr]⟩
   wrow := ⟨by simp [RX.arr], by simp [RX.arr], by show m ≤ maxLen; unfold maxLen; omega, [], by simpa [RX.arr] using hw, by simp [RX.arr]⟩
   keys := fun k hk => absurd hk (by simp [RX.arr])
   apart := by simp [RX.top, RX.arr, n1, n2, n3]
   apartK := fun k hk => absurd hk (by simp [RX.arr]) }
 len := rfl
 eq := rfl
 own := fun b hb => by
  rw [arr_blocks] at hb
  rcases hb with rfl | rfl | rfl | ⟨k, hk, _⟩
  ·exact h1
  ·exact h2
  ·exact h3
  ·cases hk
 touch := ht
theorem NewAt.next {w w1 w2 : World} {R sb wb m k : Nat} {l : List KS} (h : NewAt w w1 R sb wb m k l) (hk : k < m) {b cap : Nat} (hA : (⟨b, cap, le4 (k : Int)⟩ : KS).At w2) (hb : w1.heap.size ≤ b) (ht : Touch [] w1 w2) :
  NewAt w (w2.setCell ⟨sb, k, none⟩ (.slice (some ⟨b, 0, none⟩) 4 cap)) R sb wb m (k + 1) (l ++ [⟨b, cap, le4 (k : Int)⟩]) := by
 obtain ⟨q, hq⟩ : ∃ q, m - k = q + 1 := ⟨m - k - 1, by omega⟩
 have hlt := h.at_.lt
 have h2 := h.at_.touch ht (by simp)
 have hlen := h.len
 have how := h.own
 rw [hq] at h2 hlt how
 have h3 := h2.placed (b := sb) (j := k) rfl (by rw [arr_slots]; omega) (some ⟨b, cap, le4 (k : Int)⟩) (fun y hy => by
  injection hy with hy
  subst hy
  refine ⟨hA, fun hx => ?_⟩
  have := hlt _ (RX.mem_top hx)
  simp at this
  omega)
 rw [← hlen, arr_set, hlen] at h3
 have hsz := h.touch.size
 refine ⟨by rw [show m - (k + 1) = q by omega]; exact h3, by simp [hlen], ?_, fun y hy => ?_, ?_⟩
 ·rw [List.map_append, h.eq, allKeys, allKeys, List.range_succ, List.map_append]
  rfl
 ·rw [arr_blocks] at hy
  rcases hy with hy | hy | hy | ⟨z, hz, hy⟩
  ·exact how y ((arr_blocks ..).2 (Or.inl hy))
  ·exact how y ((arr_blocks ..).2 (Or.inr (Or.inl hy)))
  ·exact how y ((arr_blocks ..).2 (Or.inr (Or.inr (Or.inl hy))))
  ·rcases List.mem_append.1 hz with hz | hz
   ·exact how y ((arr_blocks ..).2 (Or.inr (Or.inr (Or.inr ⟨z, hz, hy⟩))))
   ·simp only [List.mem_singleton] at hz
    subst hz
    subst hy
    show w.heap.size ≤ b
    omega
 ·exact (h.touch.trans ht (by simp)).setCell _ _ (Or.inr (how sb ((arr_blocks ..).2 (Or.inr (Or.inl rfl)))))
end Go.Proofs.YtmhhahmjkopjhaaGreat
end
section
namespace Go.Proofs.YtmhhahmjkopjhaaGreat
open Go.RowKit
theorem num_congr {f g : Nat → Int} : ∀ n, (∀ j, j < n → f j = g j) → num f n = num g n
 | 0, _ => rfl
 | n + 1, h => by unfold num; rw [num_congr n (fun j hj => h j (by omega)), h n (by omega)]
theorem num_shift (bs : Nat → Int) : ∀ n, num bs (n + 1) = bs 0 + 256 * num (fun j => bs (j + 1)) n
 | 0 => by simp [num]
 | n + 1 => by
  show num bs (n + 1) + bs (n + 1) * 256 ^ (n + 1) = bs 0 + 256 * (num (fun j => bs (j + 1)) n + bs (n + 1) * 256 ^ n)
  rw [num_shift bs n, Int.mul_add, Int.pow_succ, Int.add_assoc]
  congr 2
  rw [Int.mul_comm 256, Int.mul_assoc]
theorem rnumber_any (b off n c : Nat) (bs : Nat → Int) (w : World) (hn : n ≤ 8)
  (hc : ∀ j, j < n → w.cell? ⟨b, off + j, none⟩ = some (.int .u8 (bs j))) (hb : ∀ j, j < n → 0 ≤ bs j ∧ bs j ≤ 255) :
  Calls Tryz.prog 97 #[.slice (some ⟨b, off, none⟩) n c] w fun e w' => e = .returned (.int .u64 (num bs n)) ∧ w' = w := by
 have HC := toHid hc
 have HB := toHid hb
 clear hc hb
 go_enter Tryz.func97, Tryz.ntmps97
 go_wp2
 go_loop [3, 4] (fun x t => ∃ k : Nat, k ≤ n ∧ t = .int .i64 ((k : Int) - 1) ∧ x = .int .u64 (num (fun j => bs (k + j)) (n - k))) (fun _ t => ((intOf t) + 1).toNat)
 case atStart => exact ⟨n, by omega, by go_num, by rw [Nat.sub_self]; rfl⟩
 case round =>
  obtain ⟨k, hk, rfl, rfl⟩ := hrel
  by_cases hlt : 0 < k
  ·obtain ⟨q, rfl⟩ : ∃ q, k = q + 1 := ⟨k - 1, by omega⟩
   have c1 := HC.out q (by omega)
   have c2 := HB.out q (by omega)
   have hbd := num_bd (fun j => bs (q + 1 + j)) (n - (q + 1)) (fun j hj => HB.out _ (by omega))
   have hpow : (256 : Int) ^ (n - (q + 1)) ≤ 256 ^ 7 := by
    have : (256 : Nat) ^ (n - (q + 1)) ≤ 256 ^ 7 := Nat.pow_le_pow_right (by omega) (by omega)
    have h2 : ((256 ^ (n - (q + 1)) : Nat) : Int) ≤ ((256 ^ 7 : Nat) : Int) := by omega
    rw [Int.natCast_pow] at h2
    exact h2
   have hst : num (fun j => bs (q + j)) (n - q) = bs q + 256 * num (fun j => bs (q + 1 + j)) (n - (q + 1)) := by
    have e := num_shift (fun j => bs (q + j)) (n - (q + 1))
    rw [show n - (q + 1) + 1 = n - q by omega] at e
    rw [e]
    simp only [Nat.add_zero]
    congr 2
    exact num_congr _ (fun j _ => by rw [show q + (j + 1) = q + 1 + j by omega])
   have HST := toHid hst
   have hx0 := hbd.1
   have hx1 : num (fun j => bs (q + 1 + j)) (n - (q + 1)) < 72057594037927936 := by omega
   generalize num (fun j => bs (q + 1 + j)) (n - (q + 1)) = x at *
   have hw1 : IntKind.u64.wrap (x * 256) = x * 256 := by rw [IntKind.wrap_u64]; omega
   have hw2 : IntKind.u64.wrap (x * 256 + bs q) = x * 256 + bs q := by rw [IntKind.wrap_u64]; omega
   clear hbd hst hpow
   go_wp2
   refine ⟨⟨q, by omega, rfl, ?_⟩, by simp [intOf] <;> omega⟩
   rw [HST.out]
   congr 1
   omega
  ·obtain rfl : k = 0 := by omega
   go_wp2
   go_ret
   refine ⟨ret_int ?_, rfl⟩
   simp
theorem KeyAt.cut4 {w : World} {sa : Option Addr} {sl : Nat} {bs : List Int} (h : KeyAt w sa sl bs) (h4 : 4 ≤ bs.length) : ∃ b off, sa = some ⟨b, off, none⟩ ∧ KeyAt w (some ⟨b, off, none⟩) 4 (bs.take 4) ∧ ∀ j, j < bs.length → w.cell? ⟨b, off + j, none⟩ = some (.int .u8 (bs.getD j 0)) := by
 obtain ⟨h1, h2, h3, hc⟩ := h
 obtain ⟨b, off, rfl, hcell⟩ := hc (by omega)
 refine ⟨b, off, rfl, ⟨by simp; omega, fun x hx => h2 x (List.mem_of_mem_take hx), by simp; omega, fun _ => ⟨b, off, rfl, fun j hj => ?_⟩⟩, hcell⟩
 have hj4 : j < 4 := by simp at hj; omega
 rw [hcell j (by omega), List.getD_eq_getElem?_getD, List.getD_eq_getElem?_getD, List.getElem?_take, if_pos hj4]
theorem bits_any {w : World} {sa : Option Addr} {sl : Nat} {bs : List Int} (h : KeyAt w sa sl bs) (h4 : 4 ≤ bs.length) (sc : Nat) (hsc : sl ≤ sc) :
  Calls Tryz.prog 85 #[.slice sa sl sc] w fun e w' => e = .returned (.int .u64 (keyNum bs)) ∧ w' = w := by
 obtain ⟨b, off, rfl, _, hcell⟩ := h.cut4 h4
 have H1 := toHid (rnumber_any b off 4 sc (fun j => bs.getD j 0) w (by omega) (fun j hj => hcell j (by omega)) (fun j _ => getD_bd h.2.1 j))
 rw [show num (fun j => bs.getD j 0) 4 = keyNum bs from rfl] at H1
 have hl : 4 ≤ sc := by have := h.1; omega
 generalize keyNum bs = kn at *
 clear h hcell
 go_enter Tryz.func85, Tryz.ntmps85
 go_wp2_with fail
 refine Calls.mono H1.out ?_
 rintro e w ⟨rfl, rfl⟩
 go_wp2
 go_ret
 exact ⟨rfl, rfl⟩
def bitP (bs : List Int) (i : Nat) : Int := bs.getD (4 + i / 8) 0 / 2 ^ (7 - i % 8) % 2
theorem bitP_bd (bs : List Int) (i : Nat) : 0 ≤ bitP bs i ∧ bitP bs i ≤ 1 := by unfold bitP; omega
theorem bit_any {w : World} {sa : Option Addr} {sl : Nat} {bs : List Int} (h : KeyAt w sa sl bs) (i : Nat) (hi : 4 + i / 8 < bs.length) (hi2 : i ≤ 1000) (sc : Nat) :
  Calls Tryz.prog 98 #[.slice sa sl sc, .int .i64 (i : Int)] w fun e w' => e = .returned (.int .i64 (bitP bs i)) ∧ w' = w := by
 obtain ⟨b, off, rfl, _, hcell⟩ := h.cut4 (by omega)
 have c1 := hcell _ hi
 have hbd := getD_bd h.2.1 (4 + i / 8)
 have hsl : 4 + i / 8 < sl := by rw [h.1]; exact hi
 have HV : Hid (bitP bs i = bs.getD (4 + i / 8) 0 / 2 ^ (7 - i % 8) % 2) := rfl
 generalize bs.getD (4 + i / 8) 0 = v at *
 generalize bitP bs i = r at *
 clear h hcell hi
 have e1 : ((i : Int) / 8) = ((i / 8 : Nat) : Int) := by omega
 have e2 : ((i : Int) % 8) = ((i % 8 : Nat) : Int) := by omega
 have hm8 : i % 8 < 8 := Nat.mod_lt _ (by omega)
 generalize hd : i / 8 = d at *
 generalize hm : i % 8 = m at *
 go_enter Tryz.func98, Tryz.ntmps98
 go_wp2_with fail
 have HHD : Hid (∀ k : Nat, 0 ≤ v / 2 ^ k ∧ v / 2 ^ k ≤ 255) := fun k => by
  have h1 : 0 ≤ v / 2 ^ k := Int.ediv_nonneg hbd.1 (Int.pow_nonneg (by omega))
  have h2 : v / 2 ^ k ≤ v := Int.ediv_le_self _ hbd.1
  omega
 go_loop [5, 6] (fun x t => ∃ k : Nat, k ≤ 7 - m ∧ t = .int .i64 k ∧ x = .int .i64 (v / 2 ^ k)) (fun _ t => 7 - (intOf t).toNat)
 case atStart => exact ⟨0, by omega, rfl, by simp⟩
 case round =>
  obtain ⟨k, hk, rfl, rfl⟩ := hrel
  have hd2 := HHD.out k
  have HN : Hid (v / 2 ^ k / 2 = v / 2 ^ (k + 1)) := by
   show v / 2 ^ k / 2 = v / 2 ^ (k + 1)
   rw [Int.pow_succ, Int.ediv_ediv_of_nonneg (Int.pow_nonneg (by omega))]
  by_cases hlt : k < 7 - m
  ·have hlt' : (k : Int) < 7 - m := by omega
   generalize v / 2 ^ k = q at *
   go_wp2
   exact ⟨⟨k + 1, by omega, by go_num, by rw [← HN.out]⟩, by simp [intOf]; omega⟩
  ·have hlt' : ¬ (k : Int) < 7 - m := by omega
   obtain rfl : k = 7 - m := by omega
   have HV2 := toHid HV.out
   generalize v / 2 ^ (7 - m) = q at *
   go_wp2
   go_ret
   exact ⟨by rw [HV2.out]; rfl, rfl⟩
def cutAcc (bs : List Int) (i : Nat) : Nat → Int
 | 0 => 0
 | k + 1 => cutAcc bs i k * 2 + if ((8 * i + k : Nat) : Int) < keyNum bs then bitP bs (8 * i + k) else 0
theorem cutAcc_bd (bs : List Int) (i : Nat) : ∀ k, 0 ≤ cutAcc bs i k ∧ cutAcc bs i k < 2 ^ k
 | 0 => by simp [cutAcc]
 | k + 1 => by
  have h1 := cutAcc_bd bs i k
  have h2 := bitP_bd bs (8 * i + k)
  unfold cutAcc
  rw [Int.pow_succ]
  split <;> omega
def cutTo (bs : List Int) (n : Nat) : List Int := bs.take 4 ++ (List.range n).map fun i => cutAcc bs i 8
def cutP (bs : List Int) : List Int := cutTo bs (bs.length - 4)
theorem cutP_len {bs : List Int} (h : 4 ≤ bs.length) : (cutP bs).length = bs.length := by simp [cutP, cutTo]; omega
theorem cutP_bd {bs : List Int} (h : ∀ x ∈ bs, 0 ≤ x ∧ x ≤ 255) : ∀ x ∈ cutP bs, 0 ≤ x ∧ x ≤ 255 := by
 intro x hx
 rcases List.mem_append.1 hx with hx | hx
 ·exact h x (List.mem_of_mem_take hx)
 ·obtain ⟨i, _, rfl⟩ := List.mem_map.1 hx
  have := cutAcc_bd bs i 8
  omega
theorem cut_any {w : World} {sa : Option Addr} {sl : Nat} {bs : List Int} (h : KeyAt w sa sl bs) (h4 : 4 ≤ bs.length) (h16 : bs.length ≤ 16) (sc : Nat) (hsc : sl ≤ sc) :
  Calls Tryz.prog 86 #[.slice sa sl sc] w fun e w' => (∃ v, e = .returned v ∧ OwnAt w w' v (cutP bs)) ∧ Touch [] w w' := by
 obtain ⟨b, off, rfl, hk4, _⟩ := h.cut4 h4
 have hslb : sl = bs.length := h.1
 have h4s : 4 ≤ sc := by omega
 obtain ⟨g1, cap1, w1, hr1, hA1, ht1, hg1, hrw⟩ := keyat_append2 hk4 (by simp; omega) (by simp; omega) sc
 have HO : Hid (OwnAt w w1 (.slice (some ⟨g1, 0, none⟩) 4 cap1) (cutTo bs 0) ∧ Touch [] w w1) := by
  refine ⟨⟨some g1, cap1, by simp [cutTo, slV]; omega, ?_, fun b hb => by injection hb with hb; omega⟩, ht1⟩
  have e0 : cutTo bs 0 = bs.take 4 := by simp [cutTo]
  rw [e0]
  exact hrw
 have HR1 := toHid hr1
 have HK := toHid h
 generalize hn : bs.length = n at *
 have HN := toHid hn
 subst hslb
 clear hr1 hA1 ht1 hg1 h hk4 hn hrw
 go_enter Tryz.func86, Tryz.ntmps86
 go_wp2_with (at_builtin; refine Lib.wpList_append_run _ rfl _ _ _ _ rfl _ _ rfl rfl _ _ HR1.out ?_)
 go_loopw [3, 4] (fun o t w' => ∃ j : Nat, 4 ≤ j ∧ j ≤ sl ∧ t = .int .i64 j ∧ Hid (OwnAt w w' o (cutTo bs (j - 4)) ∧ Touch [] w w')) (fun _ t _ => sl - (intOf t).toNat)
 case atStart => exact ⟨4, by omega, by omega, rfl, HO.out⟩
 case round =>
  clear HO HR1
  obtain ⟨j, hj4, hj, rfl, HI⟩ := hrel
  by_cases hlt : j < sl
  ·have hkr := HK.out.touch HI.out.2
   have H1 := toHid (bits_any hkr (by rw [HN.out]; omega) sc hsc)
   have H2 : Hid (∀ q : Nat, q / 8 < sl - 4 → Calls Tryz.prog 98 #[.slice (some ⟨b, off, none⟩) sl sc, .int .i64 (q : Int)] wr fun e w' => e = .returned (.int .i64 (bitP bs q)) ∧ w' = wr) := toHid (fun q hq => bit_any hkr q (by rw [HN.out]; omega) (by omega) sc)
   have hkn := hkr.num4
   clear hkr
   go_wp2_with fail
   go_loop [5, 6] (fun x t => ∃ k : Nat, k ≤ 8 ∧ t = .int .i64 k ∧ x = .int .i64 (cutAcc bs (j - 4) k)) (fun _ t => 8 - (intOf t).toNat)
   case atStart => exact ⟨0, by omega, rfl, rfl⟩
   case round =>
    obtain ⟨k, hk, rfl, rfl⟩ := hrel
    have hbd := cutAcc_bd bs (j - 4) k
    by_cases hk8 : k < 8
    ·have hpow : (2 : Int) ^ k ≤ 2 ^ 8 := by
      have : (2 : Nat) ^ k ≤ 2 ^ 8 := Nat.pow_le_pow_right (by omega) (by omega)
      have h2 : ((2 ^ k : Nat) : Int) ≤ ((2 ^ 8 : Nat) : Int) := by omega
      rw [Int.natCast_pow] at h2
      exact h2
     have HA : Hid (cutAcc bs (j - 4) (k + 1) = cutAcc bs (j - 4) k * 2 + if ((8 * (j - 4) + k : Nat) : Int) < keyNum bs then bitP bs (8 * (j - 4) + k) else 0) := rfl
     have H3 := toHid (H2.out (8 * (j - 4) + k) (by omega))
     have hq : 8 * ((j : Int) - 4) + (k : Int) = ((8 * (j - 4) + k : Nat) : Int) := by omega
     have hq2 : 8 * (j - 4) + k ≤ 200 := by omega
     have hbb := bitP_bd bs (8 * (j - 4) + k)
     have hb0 := hbd.1
     have hb1 : cutAcc bs (j - 4) k ≤ 256 := by omega
     generalize hnx : cutAcc bs (j - 4) (k + 1) = nx at *
     have HNX := toHid hnx
     clear hnx
     generalize cutAcc bs (j - 4) k = cu at *
     generalize bitP bs (8 * (j - 4) + k) = bi at *
     generalize 8 * (j - 4) + k = q at *
     generalize keyNum bs = kn at *
     clear hbd hpow H2
     by_cases hlq : (q : Int) < kn
     ·have HA2 := HA.out
      rw [if_pos hlq] at HA2
      have HA3 := toHid HA2
      clear HA HA2
      go_wp2_with fail
      refine Calls.mono H1.out ?_
      rintro e w ⟨rfl, rfl⟩
      go_wp2_with fail
      refine Calls.mono H3.out ?_
      rintro e w ⟨rfl, rfl⟩
      go_wp2
      exact ⟨⟨k + 1, by omega, by go_num, by rw [HNX.out, HA3.out]⟩, by simp [intOf]; omega⟩
     ·have HA2 := HA.out
      rw [if_neg hlq] at HA2
      have HA3 := toHid HA2
      clear HA HA2
      go_wp2_with fail
      refine Calls.mono H1.out ?_
      rintro e w ⟨rfl, rfl⟩
      go_wp2
      exact ⟨⟨k + 1, by omega, by go_num, by rw [HNX.out, HA3.out, Int.add_zero]⟩, by simp [intOf]; omega⟩
    ·obtain rfl : k = 8 := by omega
     have hb1 : cutAcc bs (j - 4) 8 ≤ 255 := by omega
     have hb0 := hbd.1
     obtain ⟨v', w', hr, ho, ht⟩ := HI.out.1.push HI.out.2 (cutAcc bs (j - 4) 8) (by have : (cutTo bs (j - 4)).length ≤ 100 := (by simp [cutTo]; omega); omega)
     have HF : Hid (OwnAt w w' v' (cutTo bs (j + 1 - 4)) ∧ Touch [] w w') := by
      refine ⟨?_, ht⟩
      have e : cutTo bs (j + 1 - 4) = cutTo bs (j - 4) ++ [cutAcc bs (j - 4) 8] := by
       rw [show j + 1 - 4 = j - 4 + 1 by omega]
       unfold cutTo
       rw [List.range_succ, List.map_append, List.append_assoc]
       rfl
      rw [e]
      exact ho
     have HRR := toHid hr
     generalize cutAcc bs (j - 4) 8 = cu at *
     clear hr ho ht hbd H1 H2
     go_wp2_with (at_builtin; refine Lib.wpList_append_run _ rfl _ _ _ _ rfl _ _ rfl rfl _ _ HRR.out ?_)
     go_roundw
     case rel => exact ⟨j + 1, by omega, by omega, by go_num, HF⟩
     case measure => simp [intOf]; omega
  ·obtain rfl : sl = j := by omega
   go_wp2
   go_ret
   refine ⟨⟨_, rfl, ?_⟩, HI.out.2⟩
   have := HI.out.1
   unfold cutP
   rw [HN.out]
   exact this
end Go.Proofs.YtmhhahmjkopjhaaGreat
end
section
namespace Go.Proofs.YtmhhahmjkopjhaaGreat
open Go.RowKit
attribute [local go_sem ↓] Go.wp_at_zero Go.wp_at_succ
def fits3 (x : RX) (bs : List Int) : Bool := decide ((bs.length : Int) = x.size) && decide (keyNum bs ≤ 8 * (x.size - 4))
theorem fits3_any {w : World} {x : RX} (h : RAt w x) (hk3 : x.kind = 3) (hs1 : 5 ≤ x.size) (hs2 : x.size ≤ 16) {sa : Option Addr} {sl : Nat} {bs : List Int} (hk : KeyAt w sa sl bs) (sc : Nat) (hsc : sl ≤ sc) :
  Calls Tryz.prog 83 #[.pointer (some ⟨x.r, 0, none⟩), .slice sa sl sc] w fun e w' => e = .returned (.bool (fits3 x bs)) ∧ Touch [] w w' := by
 have c0 := h.c0
 have c1 := h.c1
 rw [hk3] at c0
 have hsl := hk.1
 have hsl63 := hk.2.2.1
 unfold fits3
 by_cases he : (bs.length : Int) = x.size
 ·have H1 := toHid (bits_any (hk.touch ((Touch.refl [] w).drew)) (by omega) sc hsc)
  have he1 : ((sl : Int) == x.size) = true := by rw [hsl]; simpa using he
  have hkn := hk.num4
  rw [decide_eq_true he, Bool.true_and]
  have hwr : IntKind.u64.wrap (8 * (x.size - 4)) = 8 * (x.size - 4) := by rw [IntKind.wrap_u64]; omega
  have hwa : IntKind.i64.wrap (x.size - 4) = x.size - 4 := by rw [IntKind.wrap_i64]; omega
  have hwb : IntKind.i64.wrap (8 * (x.size - 4)) = 8 * (x.size - 4) := by rw [IntKind.wrap_i64]; omega
  generalize keyNum bs = kn at *
  generalize x.size = sz at *
  generalize x.r = R at *
  replace c0 : w.drew.cell? ⟨R, 0, none⟩ = some (.int .i64 3) := c0
  replace c1 : w.drew.cell? ⟨R, 1, none⟩ = some (.int .i64 sz) := c1
  have hs63 : sl ≤ 9223372036854775807 := by omega
  clear h he hk hk3 hsl hsl63
  go_enter Tryz.func83, Tryz.ntmps83
  go_wp2_with fail
  refine wp_region_held_drew (S := (fun w' => w'.cell? ⟨R, 0, none⟩ = some (.int .i64 3) ∧ w'.cell? ⟨R, 1, none⟩ = some (.int .i64 sz))) (by kernel_rfl) ?_ (fun hHeld => ?_)
  ·exact ⟨c0, c1⟩
  refine tk 0 (v := ?_) rfl ?_ ?_
  rotate_left
  ·(intro w hSw; (try dsimp only at hSw); go_simp; try with_reducible rfl)
  simp only [Act.put, AP]
  refine tk 1 (v := ?_) rfl ?_ ?_
  rotate_left
  ·(intro w hSw; (try dsimp only at hSw); go_simp; try with_reducible rfl)
  simp only [Act.put, AP]
  refine tk 2 (v := ?_) rfl ?_ ?_
  rotate_left
  ·(intro w hSw; (try dsimp only at hSw); go_simp; try with_reducible rfl)
  simp only [Act.put, AP]
  refine tk 3 (v := ?_) rfl ?_ ?_
  rotate_left
  ·(intro w hSw; (try dsimp only at hSw); go_simp; try with_reducible rfl)
  simp only [Act.put, AP]
  refine tk 4 (v := ?_) rfl ?_ ?_
  rotate_left
  ·(intro w hSw; (try dsimp only at hSw); go_simp; try with_reducible rfl)
  simp only [Act.put, AP]
  refine tk 5 (v := ?_) rfl ?_ ?_
  rotate_left
  ·(intro w hSw; (try dsimp only at hSw); go_simp; try with_reducible rfl)
  simp only [Act.put, AP]
  refine tk 6 (v := ?_) rfl ?_ ?_
  rotate_left
  ·(intro w hSw; (try dsimp only at hSw); go_simp; try with_reducible rfl)
  simp only [Act.put, AP]
  refine tk 7 (v := ?_) rfl ?_ ?_
  rotate_left
  ·(intro w hSw; (try dsimp only at hSw); go_simp; try with_reducible rfl)
  simp only [Act.put, AP]
  refine tk 8 (v := ?_) rfl ?_ ?_
  rotate_left
  ·(intro w hSw; (try dsimp only at hSw); go_simp; try with_reducible rfl)
  simp only [Act.put, AP]
  refine tk 9 (v := ?_) rfl ?_ ?_
  rotate_left
  ·(intro w hSw; (try dsimp only at hSw); go_simp; try with_reducible rfl)
  simp only [Act.put, AP]
  refine tk 10 (v := ?_) rfl ?_ ?_
  rotate_left
  ·(intro w hSw; (try dsimp only at hSw); go_simp; try with_reducible rfl)
  simp only [Act.put, AP]
  refine tk 11 (v := ?_) rfl ?_ ?_
  rotate_left
  ·(intro w hSw; (try dsimp only at hSw); go_simp; try with_reducible rfl)
  simp only [Act.put, AP]
  refine tk 12 (v := ?_) rfl ?_ ?_
  rotate_left
  ·(intro w hSw; (try dsimp only at hSw); go_simp; try with_reducible rfl)
  simp only [Act.put, AP]
  refine tk 13 (v := ?_) rfl ?_ ?_
  rotate_left
  ·(intro w hSw; (try dsimp only at hSw); go_simp; try with_reducible rfl)
  simp only [Act.put, AP]
  refine tk 14 (v := ?_) rfl ?_ ?_
  rotate_left
  ·(intro w hSw; (try dsimp only at hSw); go_simp; try with_reducible rfl)
  simp only [Act.put, AP]
  refine tk 16 (v := ?_) rfl ?_ ?_
  rotate_left
  ·(intro w hSw; (try dsimp only at hSw); go_simp; try with_reducible rfl)
  simp only [Act.put, AP]
  refine tk 17 (v := ?_) rfl ?_ ?_
  rotate_left
  ·(intro w hSw; (try dsimp only at hSw); go_simp; try with_reducible rfl)
  simp only [Act.put, AP]
  refine tk 18 (v := ?_) rfl ?_ ?_
  rotate_left
  ·(intro w hSw; (try dsimp only at hSw); go_simp; try with_reducible rfl)
  simp only [Act.put, AP]
  refine tk 19 (v := ?_) rfl ?_ ?_
  rotate_left
  ·(intro w hSw; (try dsimp only at hSw); go_simp; try with_reducible rfl)
  simp only [Act.put, AP]
  refine tk 20 (v := ?_) rfl ?_ ?_
  rotate_left
  ·(intro w hSw; (try dsimp only at hSw); go_simp; try with_reducible rfl)
  simp only [Act.put, AP]
  refine tk 21 (v := ?_) rfl ?_ ?_
  rotate_left
  ·(intro w hSw; (try dsimp only at hSw); go_simp; try with_reducible rfl)
  simp only [Act.put, AP]
  refine tk 22 (v := ?_) rfl ?_ ?_
  rotate_left
  ·(intro w hSw; (try dsimp only at hSw); go_simp; try with_reducible rfl)
  simp only [Act.put, AP]
  refine wpAnyH_ready (rs := [15]) (by kernel_rfl) (by simp) ?_
  refine AllReadyH.cons rfl (fun K hK => ?_) AllReadyH.nil
  simp only [AP]
  go_simp
  refine Calls.mono H1.out ?_; rintro e w3 ⟨rfl, rfl⟩
  go_wp2_with fail
  refine hK.out _ _ ?_ (fun hHeld => ?_)
  ·exact hHeld
  clear hK K
  try simp only [Act.put, AP]
  refine tk 23 (v := ?_) rfl ?_ ?_
  rotate_left
  ·(intro w hSw; (try dsimp only at hSw); go_simp; try with_reducible rfl)
  simp only [Act.put, AP]
  refine tk 24 (v := ?_) rfl ?_ ?_
  rotate_left
  ·(intro w hSw; (try dsimp only at hSw); go_simp; try with_reducible rfl)
  simp only [Act.put, AP]
  refine tk 25 (v := ?_) rfl ?_ ?_
  rotate_left
  ·(intro w hSw; (try dsimp only at hSw); go_simp; try with_reducible rfl)
  simp only [Act.put, AP]
  refine tk 26 (v := ?_) rfl ?_ ?_
  rotate_left
  ·(intro w hSw; (try dsimp only at hSw); go_simp; try with_reducible rfl)
  simp only [Act.put, AP]
  refine wpAnyH_done (by kernel_rfl) ?_ _
  go_wp2
  go_ret
  exact ⟨rfl, (Touch.refl [] w).drew⟩
 ·have he1 : ((sl : Int) == x.size) = false := by rw [hsl]; simpa using he
  rw [decide_eq_false he, Bool.false_and]
  generalize x.size = sz at *
  generalize x.r = R at *
  have hs63 : sl ≤ 9223372036854775807 := by omega
  clear h he hk hk3 hsl hsl63
  go_enter Tryz.func83, Tryz.ntmps83
  go_wp2_with fail
  go_quiet (fail)
  go_wp2
  go_ret
  exact ⟨rfl, (Touch.refl [] w).drewN nq⟩
theorem OwnAt.key {w0 w : World} {v : Value} {bs : List Int} (h : OwnAt w0 w v bs) (h1 : 1 ≤ bs.length) (h2 : bs.length ≤ 16) (hb : ∀ x ∈ bs, 0 ≤ x ∧ x ≤ 255) : ∃ k : KS, v = k.v ∧ k.bs = bs ∧ k.At w ∧ w0.heap.size ≤ k.b := by
 obtain ⟨g, cap, rfl, hrow, hg⟩ := h
 cases g with
 | none =>
  have q1 := hrow.2.1
  have q2 : cap = 0 := hrow.2.2.2
  omega
 | some b =>
  obtain ⟨_, hcp, _, rest, hB, _⟩ := hrow
  exact ⟨⟨b, cap, bs⟩, rfl, rfl, ⟨⟨rest, hB.toF⟩, hb, h2, h1, hcp⟩, hg b rfl⟩
theorem same3_any {w : World} {x : RX} (h : RAt w x) (hk3 : x.kind = 3) (hn : x.slots.length ≤ 1000) {sa : Option Addr} {sl : Nat} {bs : List Int} (hk : KeyAt w sa sl bs) (h4 : 4 ≤ bs.length) (h16 : bs.length ≤ 16) (sc : Nat) (hsc : sl ≤ sc) :
  Calls Tryz.prog 84 #[.pointer (some ⟨x.r, 0, none⟩), .slice sa sl sc] w fun e w' => e = .returned (.int .i64 (sameI x.slots (cutP bs))) ∧ Touch [] w w' := by
 have c0 := h.c0
 rw [hk3] at c0
 have H1 := toHid (cut_any hk h4 h16 sc hsc)
 have HH := toHid h
 have hcl := cutP_len h4
 have HCL := toHid (And.intro (show 1 ≤ (cutP bs).length by omega) (And.intro (show (cutP bs).length ≤ 16 by omega) (cutP_bd hk.2.1)))
 generalize hln : x.slots.length = n at *
 have HL := toHid hln
 generalize cutP bs = cs at *
 clear h hk hk3 hln hcl
 go_enter Tryz.func84, Tryz.ntmps84
 go_wp2_with fail
 refine Calls.mono H1.out ?_
 rintro e w2 ⟨⟨v, rfl, hO⟩, ht2⟩
 obtain ⟨kk, rfl, hkb, hkA, _⟩ := hO.key HCL.out.1 HCL.out.2.1 HCL.out.2.2
 have hkey := hkA.key
 rw [hkb] at hkey
 have hcv := hkey.conv kk.cap
 have HK := toHid hkey
 have hR := HH.out.touch ht2 (by simp)
 have c3 := hR.c3
 have HR := toHid hR
 have HT := toHid ht2
 rw [HL.out] at c3
 unfold slV at c3
 generalize hsg : (x.g.map fun b => (⟨b, 0, none⟩ : Addr)) = sg at *
 have HG := toHid hsg
 have ev : kk.v = .slice (some ⟨kk.b, 0, none⟩) cs.length kk.cap := by unfold KS.v; rw [hkb]
 rw [ev]
 clear H1 hO hkA hkey hR ht2 hsg ev c0 HH hkb
 go_wp2_with fail
 go_loop [19] (fun t => ∃ k : Nat, k ≤ n ∧ t = .int .i64 k ∧ Hid (∀ j, j < k → (x.slots.getD j none).map KS.bs ≠ some cs)) (fun t => n - (intOf t).toNat)
 case atStart => exact ⟨0, by omega, rfl, fun j hj => absurd hj (by omega)⟩
 case round =>
  obtain ⟨k, hk, rfl, HI⟩ := hrel
  by_cases hlt : k < n
  ·have hkl : k < x.slots.length := by rw [HL.out]; exact hlt
   have hget : x.slots[k]? = some (x.slots.getD k none) := by rw [List.getD_eq_getElem?_getD, List.getElem?_eq_getElem hkl]; rfl
   obtain ⟨b, hb, hc⟩ := HR.out.slot hget
   have hsg := HG.out
   rw [hb, Option.map_some] at hsg
   subst hsg
   cases hs : x.slots.getD k none with
   | none =>
    rw [hs] at hc
    unfold slotV at hc
    have HN : Hid (∀ j, j < k + 1 → (x.slots.getD j none).map KS.bs ≠ some cs) := fun j hj => by
     by_cases hjk : j < k
     ·exact HI.out j hjk
     ·obtain rfl : j = k := by omega
      rw [hs]
      simp
    clear hget hs hkl hb
    go_wp2
    exact ⟨⟨k + 1, by omega, by go_num, HN⟩, by simp [intOf]; omega⟩
   | some ks =>
    rw [hs] at hc
    unfold slotV KS.v at hc
    have hkA := HR.out.keys ks (by rw [hs] at hget; exact List.mem_of_getElem? hget)
    have hcv2 := hkA.key.conv ks.cap
    have hse := str_eq hkA.2.1 HK.out.2.1
    by_cases heq : ks.bs = cs
    ·rw [beq_iff_eq.2 heq] at hse
     have HRR := toHid (same_some HI.out hkl (by rw [hs, ← heq]; rfl))
     generalize strOfNums ks.bs = A at *
     generalize strOfNums cs = B at *
     clear hget hs hkl hb heq hkA
     go_wp2
     go_ret
     exact ⟨by rw [HRR.out]; rfl, HT.out⟩
    ·rw [beq_false_of_ne heq] at hse
     have HN : Hid (∀ j, j < k + 1 → (x.slots.getD j none).map KS.bs ≠ some cs) := fun j hj => by
      by_cases hjk : j < k
      ·exact HI.out j hjk
      ·obtain rfl : j = k := by omega
       rw [hs]
       simpa using heq
     generalize strOfNums ks.bs = A at *
     generalize strOfNums cs = B at *
     clear hget hs hkl hb heq hkA
     go_wp2
     exact ⟨⟨k + 1, by omega, by go_num, HN⟩, by simp [intOf]; omega⟩
  ·obtain rfl : k = n := by omega
   have HRR := toHid (same_none (fun j hj => HI.out j (by rw [← HL.out]; exact hj)))
   go_wp2
   go_ret
   exact ⟨by rw [HRR.out]; rfl, HT.out⟩
end Go.Proofs.YtmhhahmjkopjhaaGreat
end
section
namespace Go.Proofs.YtmhhahmjkopjhaaGreat
open Go.RowKit
attribute [local go_sem ↓] Go.wp_at_zero Go.wp_at_succ
def skipP (l : List (Option (List Int))) (bs : List Int) (a : Option Nat) : Option (List Int) → Bool
 | none => true
 | some y => decide (keyNum bs < keyNum y) || match a with
  | none => false
  | some i => decide (keyNum y ≤ keyNum ((l.getD i none).getD []))
def longStep (l : List (Option (List Int))) (bs : List Int) (a : Option Nat) (k : Nat) : Option Nat :=
 if skipP l bs a (l.getD k none) = true then a else if cutP (((l.getD k none).getD []).take 4 ++ bs.drop 4) = (l.getD k none).getD [] then some k else a
def longTo (l : List (Option (List Int))) (bs : List Int) : Nat → Option Nat
 | 0 => none
 | k + 1 => longStep l bs (longTo l bs k) k
theorem longTo_some {l : List (Option (List Int))} {bs : List Int} : ∀ {k i : Nat}, longTo l bs k = some i → i < k ∧ ∃ y, l.getD i none = some y
 | 0, i, h => by cases h
 | k + 1, i, h => by
  have h' : longStep l bs (longTo l bs k) k = some i := h
  unfold longStep at h'
  split at h'
  ·have := longTo_some h'
   exact ⟨by omega, this.2⟩
  ·split at h'
   ·injection h' with h'
    subst h'
    refine ⟨by omega, ?_⟩
    cases hs : l.getD k none with
    | none =>
     rename_i hsk _
     rw [hs] at hsk
     exact absurd rfl hsk
    | some y => exact ⟨y, rfl⟩
   ·have := longTo_some h'
    exact ⟨by omega, this.2⟩
def PX.fits3 (x : PX) (bs : List Int) : Bool := decide ((bs.length : Int) = x.size) && decide (keyNum bs ≤ 8 * (x.size - 4))
def PX.find3 (x : PX) (bs : List Int) : Option Nat × PX :=
 if x.fits3 bs = true then (longTo x.slots bs x.slots.length, x.touch (longTo x.slots bs x.slots.length)) else (none, x)
theorem OwnAt.more {w0 w : World} {v : Value} {bs : List Int} (h : OwnAt w0 w v bs) (ht : Touch [] w0 w) (b off m c : Nat) (cs : List Int) (hm : cs.length = m) (hcell : ∀ j u, (cs.map (Value.int .u8))[j]? = some u → w.cell? ⟨b, off + j, none⟩ = some u)
  (hl : bs.length + m ≤ 140737488355328) :
  ∃ v' w', (Builtin.append_ #[39, 39] 39 #[v, .slice (some ⟨b, off, none⟩) m c]).run Tryz.prog w = .ok v' w' ∧ OwnAt w0 w' v' (bs ++ cs) ∧ Touch [] w0 w' := by
 subst hm
 obtain ⟨g, cap, rfl, hrow, hg⟩ := h
 obtain ⟨i, hi, hz, hs, hb⟩ := info_of info5
 obtain ⟨g', cap', w', hr, h2, h3, h4, _⟩ := run_append_row (P := Tryz.prog) w 39 39 5 i (.int .u8 0) 1 Tryz.underlying39 hi hz hs rfl (by omega) g bs.length cap _ hrow ⟨b, off, none⟩ cs.length c (cs.map (Value.int .u8)) (by simp)
  (fun j u hj => by rw [Addr.add_lit]; exact hcell j u hj) (fun u hu => by
   obtain ⟨x, _, rfl⟩ := List.mem_map.1 hu
   rfl) (by rw [hb]; omega) (by omega)
 have hsz := ht.size
 refine ⟨_, w', hr, ⟨g', cap', by simp, by simpa using h2, fun b hb => ?_⟩, ht.trans h3 (fun y hy => Or.inr (hg y (by simpa using hy)))⟩
 rcases h4 with rfl | rfl
 ·exact hg b hb
 ·injection hb with hb
  omega
theorem rfind3_any {w : World} {x : RX} (h : RAt w x) (u : RUp x) (hk3 : x.kind = 3) (hs1 : 5 ≤ x.size) (hs2 : x.size ≤ 16) (hlen : ∀ k, some k ∈ x.slots → (k.bs.length : Int) = x.size) {sa : Option Addr} {sl : Nat} {bs : List Int} (hk : KeyAt w sa sl bs) (sc : Nat) (hsc : sl ≤ sc) :
  Calls Tryz.prog 60 #[.pointer (some ⟨x.r, 0, none⟩), .slice sa sl sc] w (FindPost w x (x.p.find3 bs)) := by
 have H1 := toHid (fits3_any h hk3 hs1 hs2 hk sc hsc)
 have hfe : x.p.fits3 bs = fits3 x bs := rfl
 by_cases hf : fits3 x bs = true
 ·rw [hf] at H1
  have HV : Hid (x.p.find3 bs = (longTo x.p.slots bs x.p.slots.length, x.p.touch (longTo x.p.slots bs x.p.slots.length))) := if_pos hf
  have hsz : (bs.length : Int) = x.size := by
   unfold fits3 at hf
   simp at hf
   exact hf.1
  have HH := toHid (And.intro h (And.intro u (And.intro hk hlen)))
  have HSZ := toHid (And.intro hsz (And.intro hs1 hs2))
  have hpl : x.p.slots.length = x.slots.length := by show (x.slots.map _).length = _; simp
  have HPL := toHid hpl
  have c0 := h.c0
  rw [hk3] at c0
  clear h u hk hlen hf hfe hs1 hs2 hsz hpl
  generalize x.p.find3 bs = pr at *
  go_enter Tryz.func60, Tryz.ntmps60
  go_wp2_with fail
  refine Calls.mono H1.out ?_
  rintro e w2 ⟨rfl, ht2⟩
  have hR2 := HH.out.1.touch ht2 (by simp)
  replace c0 := ht2.cell c0 (by simp)
  have c3 := hR2.c3
  have HT := toHid ht2
  have hnm := HH.out.2.1.many
  unfold slV at c3
  generalize hsg : (x.g.map fun b => (⟨b, 0, none⟩ : Addr)) = sg at *
  have HG := toHid hsg
  generalize hnn : x.slots.length = n at *
  have HNN := toHid hnn
  have hnil : ∀ (w : World) (a : Option Addr) (n c : Nat), (binOp .eql 39 (.slice a n c) (.slice none 0 0)).run Tryz.prog w = .ok (.bool a.isNone) w := fun w a n c => Lib.run_eql_slice_nil w _ _ a n c 0 0 Tryz.underlying39
  clear ht2 hR2 hsg hnn H1
  go_wp2_with fail
  clear c0 c3
  go_loopw [5, 26] (fun a i w' => ∃ k : Nat, k ≤ n ∧ i = .int .i64 k ∧ ∃ z : Int, a = .int .i64 z ∧ Hid (z = idxI (longTo x.p.slots bs k) ∧ Touch [] w w')) (fun _ i _ => n - (intOf i).toNat)
  case atStart => exact ⟨0, by omega, rfl, -1, rfl, rfl, HT.out⟩
  case round =>
   clear HT
   obtain ⟨k, hk, rfl, z, rfl, HI⟩ := hrel
   by_cases hlt : k < n
   ·have hkl : k < x.slots.length := by rw [HNN.out]; exact hlt
    have hget : x.slots[k]? = some (x.slots.getD k none) := by rw [List.getD_eq_getElem?_getD, List.getElem?_eq_getElem hkl]; rfl
    have hR := HH.out.1.touch HI.out.2 (by simp)
    obtain ⟨b, hb, hc⟩ := hR.slot hget
    have hsg := HG.out
    rw [hb, Option.map_some] at hsg
    subst hsg
    have hpg : ∀ j, x.p.slots.getD j none = (x.slots.getD j none).map KS.bs := fun j => by
     show (x.slots.map (Option.map KS.bs)).getD j none = _
     rw [List.getD_eq_getElem?_getD, List.getElem?_map, List.getD_eq_getElem?_getD]
     cases x.slots[j]? <;> rfl
    have HB := toHid hb
    have HST : Hid (longTo x.p.slots bs (k + 1) = longStep x.p.slots bs (longTo x.p.slots bs k) k) := rfl
    have HPG := toHid hpg
    have HR := toHid hR
    generalize hs : x.slots.getD k none = s at *
    have HS := toHid (And.intro hs hget)
    have hps : x.p.slots.getD k none = s.map KS.bs := by rw [hpg, hs]
    have HPS := toHid hps
    clear hR hb hs hget hps hpg hkl
    go_upto_region 9 with fail
    generalize hsk : skipP x.p.slots bs (longTo x.p.slots bs k) (s.map KS.bs) = sk at *
    have HSK := toHid hsk
    clear hsk
    go_cut [56] from 31 to 56 (fun v wx => v = .bool sk ∧ wx = wr)
    case first =>
     cases s with
     | none =>
      unfold slotV
      obtain rfl : sk = true := by rw [← HSK.out]; rfl
      go_wp2
      go_meet
      exact ⟨rfl, rfl⟩
     | some ks =>
      have hmem : some ks ∈ x.slots := List.mem_of_getElem? HS.out.2
      have hA := HR.out.keys ks hmem
      have hksl := HH.out.2.2.2 ks hmem
      have hs := HSZ.out
      have H1 := toHid (bits_any hA.key (by omega) ks.cap hA.2.2.2.2)
      have H2 := toHid (bits_any (HH.out.2.2.1.touch HI.out.2) (by omega) sc hsc)
      have hcs : skipP x.p.slots bs (longTo x.p.slots bs k) ((some ks).map KS.bs) = (decide (keyNum bs < keyNum ks.bs) || match longTo x.p.slots bs k with
       | none => false
       | some i => decide (keyNum ks.bs ≤ keyNum ((x.p.slots.getD i none).getD []))) := rfl
      have HCS := toHid (HSK.out.symm.trans hcs)
      unfold slotV KS.v
      by_cases hgt : keyNum bs < keyNum ks.bs
      ·obtain rfl : sk = true := by rw [HCS.out, decide_eq_true hgt, Bool.true_or]
       generalize keyNum bs = n1 at *
       generalize keyNum ks.bs = n2 at *
       clear hmem hA hksl hs hcs HSK HCS
       go_wp2_with fail
       refine Calls.mono H1.out ?_
       rintro e w6 ⟨rfl, rfl⟩
       go_wp2_with fail
       refine Calls.mono H2.out ?_
       rintro e w6 ⟨rfl, rfl⟩
       go_wp2
       go_meet
       exact ⟨rfl, rfl⟩
      ·cases hlo : longTo x.p.slots bs k with
       | none =>
        obtain rfl : sk = false := by rw [HCS.out, decide_eq_false hgt, hlo]; rfl
        obtain rfl : z = -1 := by rw [HI.out.1, hlo]; rfl
        generalize keyNum bs = n1 at *
        generalize keyNum ks.bs = n2 at *
        clear hmem hA hksl hs hcs HSK HCS hlo
        go_wp2_with fail
        refine Calls.mono H1.out ?_
        rintro e w6 ⟨rfl, rfl⟩
        go_wp2_with fail
        refine Calls.mono H2.out ?_
        rintro e w6 ⟨rfl, rfl⟩
        go_wp2
        go_meet
        exact ⟨by simp; omega, rfl⟩
       | some i =>
        obtain rfl : z = (i : Int) := by rw [HI.out.1, hlo]; rfl
        obtain ⟨hik, y, hy⟩ := longTo_some hlo
        have hy2 := HPG.out i
        rw [hy] at hy2
        obtain ⟨ki, hki, hkib⟩ : ∃ ki, x.slots.getD i none = some ki ∧ ki.bs = y := by
         cases hq : x.slots.getD i none with
         | none => rw [hq] at hy2; cases hy2
         | some ki =>
          rw [hq] at hy2
          injection hy2 with hy2
          exact ⟨ki, rfl, hy2.symm⟩
        have hil : i < x.slots.length := by rw [HNN.out]; omega
        have hgi : x.slots[i]? = some (some ki) := by
         rw [← hki, List.getD_eq_getElem?_getD, List.getElem?_eq_getElem hil]
         rfl
        obtain ⟨b', hb', hci⟩ := HR.out.slot hgi
        have hbb : b' = b := by
         have := HB.out
         rw [hb'] at this
         exact Option.some.inj this
        subst hbb
        have hmi : some ki ∈ x.slots := List.mem_of_getElem? hgi
        have hAi := HR.out.keys ki hmi
        have hkil := HH.out.2.2.2 ki hmi
        have H3 := toHid (bits_any hAi.key (by omega) ki.cap hAi.2.2.2.2)
        have c3 := HR.out.c3
        rw [hb', HNN.out, slV_some] at c3
        have hske : sk = decide (keyNum ks.bs ≤ keyNum ki.bs) := by
         rw [HCS.out, decide_eq_false hgt, hlo, hkib]
         simp only [Bool.false_or]
         rw [hy]
         rfl
        unfold slotV KS.v at hci
        have HSE := toHid hske
        have hin : (i : Int) < n := by omega
        generalize keyNum bs = n1 at *
        generalize keyNum ks.bs = n2 at *
        generalize keyNum ki.bs = n3 at *
        clear hmem hA hksl hs hcs HSK HCS hlo hy hy2 hki hkib hil hgi hb' hmi hAi hkil hske
        by_cases hge : n2 ≤ n3
        ·obtain rfl : sk = true := by rw [HSE.out, decide_eq_true hge]
         go_wp2_with fail
         refine Calls.mono H1.out ?_
         rintro e w6 ⟨rfl, rfl⟩
         go_wp2_with fail
         refine Calls.mono H2.out ?_
         rintro e w6 ⟨rfl, rfl⟩
         go_wp2_with fail
         refine Calls.mono H3.out ?_
         rintro e w6 ⟨rfl, rfl⟩
         go_wp2_with fail
         refine Calls.mono H1.out ?_
         rintro e w6 ⟨rfl, rfl⟩
         go_wp2
         go_meet
         exact ⟨rfl, rfl⟩
        ·obtain rfl : sk = false := by rw [HSE.out, decide_eq_false hge]
         go_wp2_with fail
         refine Calls.mono H1.out ?_
         rintro e w6 ⟨rfl, rfl⟩
         go_wp2_with fail
         refine Calls.mono H2.out ?_
         rintro e w6 ⟨rfl, rfl⟩
         go_wp2_with fail
         refine Calls.mono H3.out ?_
         rintro e w6 ⟨rfl, rfl⟩
         go_wp2_with fail
         refine Calls.mono H1.out ?_
         rintro e w6 ⟨rfl, rfl⟩
         go_wp2
         go_meet
         exact ⟨by simp; omega, rfl⟩
    case rest =>
     obtain ⟨rfl, rfl⟩ := hcut
     generalize hw5 : wc = w5 at *
     clear hw5
     cases sk with
     | true =>
      have HN : Hid (z = idxI (longTo x.p.slots bs (k + 1)) ∧ Touch [] w w5) := by
       refine ⟨?_, HI.out.2⟩
       rw [HST.out]
       unfold longStep
       rw [HPS.out, if_pos HSK.out]
       exact HI.out.1
      clear HST HSK HI HS
      go_wp2
      go_roundw
      case rel => exact ⟨k + 1, by omega, by go_num, z, rfl, HN⟩
      case measure => simp [intOf]; omega
     | false =>
      cases s with
      | none => exact absurd HSK.out (by simp [skipP])
      | some ks =>
       have hmem : some ks ∈ x.slots := List.mem_of_getElem? HS.out.2
       have hA := HR.out.keys ks hmem
       have hksl := HH.out.2.2.2 ks hmem
       have hs := HSZ.out
       have hsl := HH.out.2.2.1.1
       have hA0 := hA.touch ((Touch.refl [] w5).drew) (by simp)
       obtain ⟨q1, q2, hq, hk4, _⟩ := hA0.key.cut4 (by omega)
       obtain ⟨rfl, rfl⟩ : q1 = ks.b ∧ q2 = 0 := by
        injection hq with hq
        injection hq with h1 h2
        exact ⟨h1.symm, h2.symm⟩
       obtain ⟨g1, cap1, w6, hr1, hA1, ht1, hg1, hrw⟩ := keyat_append2 hk4 (by simp; omega) (by simp; omega) ks.cap
       have hO1 : OwnAt w5.drew w6 (.slice (some ⟨g1, 0, none⟩) 4 cap1) (ks.bs.take 4) := ⟨some g1, cap1, by simp [slV]; omega, hrw, fun b hb => by injection hb with hb; subst hb; exact hg1⟩
       obtain ⟨kb, koff, rfl, _, hkc⟩ := (HH.out.2.2.1.touch (HI.out.2.drew.trans ht1 (by simp))).cut4 (by omega)
       obtain ⟨v7, w7, hr2, hO7, ht7⟩ := hO1.more ht1 kb (koff + 4) (sl - 4) (sc - 4) (bs.drop 4) (by simp; omega) (fun j u hj => by
        rw [List.getElem?_map, List.getElem?_drop] at hj
        have hjl : 4 + j < bs.length := by
         cases hq : bs[4 + j]? with
         | none => rw [hq] at hj; cases hj
         | some y => exact (List.getElem?_eq_some_iff.1 hq).1
        have := hkc (4 + j) hjl
        rw [List.getD_eq_getElem?_getD, List.getElem?_eq_getElem hjl] at this
        rw [List.getElem?_eq_getElem hjl] at hj
        rw [show koff + 4 + j = koff + (4 + j) by omega, this]
        exact hj) (by simp; omega)
       have hc7b : ∀ y ∈ ks.bs.take 4 ++ bs.drop 4, 0 ≤ y ∧ y ≤ 255 := fun y hy => by
        rcases List.mem_append.1 hy with hy | hy
        ·exact hA.2.1 y (List.mem_of_mem_take hy)
        ·exact HH.out.2.2.1.2.1 y (List.mem_of_mem_drop hy)
       have hc7l : (ks.bs.take 4 ++ bs.drop 4).length = bs.length := by simp; omega
       obtain ⟨k7, rfl, hk7b, hk7A, _⟩ := hO7.key (by omega) (by omega) hc7b
       have hk7d := (hk7A.touch ((Touch.refl [] w7).drew) (by simp)).key
       rw [hk7b] at hk7d
       have H5 := toHid (cut_any hk7d (by omega) (by omega) k7.cap (by have := hk7A.2.2.2.2; rw [hk7b] at this; exact this))
       have hT7 := HI.out.2.drew.trans ht7 (by simp)
       have HC8 := toHid (And.intro (show 1 ≤ (cutP (ks.bs.take 4 ++ bs.drop 4)).length by rw [cutP_len (by omega)]; omega) (And.intro (show (cutP (ks.bs.take 4 ++ bs.drop 4)).length ≤ 16 by rw [cutP_len (by omega)]; omega) (cutP_bd hc7b)))
       have hse := str_eq HC8.out.2.2 hA.2.1
       have HCV0 := toHid ((hA0.touch (ht7.drew) (by simp)).key.conv ks.cap)
       have HKA : Hid (∀ w8, Touch [] w7.drew w8 → (convert 39 9 (.slice (some ⟨ks.b, 0, none⟩) ks.bs.length ks.cap)).run Tryz.prog w8 = .ok (.string (strOfNums ks.bs)) w8 ∧ Touch [] w w8) := fun w8 h8 => ⟨((hA0.touch (ht7.drew) (by simp)).touch h8 (by simp)).key.conv ks.cap, hT7.drew.trans h8 (by simp)⟩
       have hstep : longTo x.p.slots bs (k + 1) = if cutP (ks.bs.take 4 ++ bs.drop 4) = ks.bs then some k else longTo x.p.slots bs k := by
        rw [HST.out]
        unfold longStep
        rw [HPS.out, if_neg (by rw [HSK.out]; simp)]
        rfl
       have HSTP := toHid hstep
       have ev7 : k7.v = .slice (some ⟨k7.b, 0, none⟩) bs.length k7.cap := by unfold KS.v; rw [hk7b, hc7l]
       rw [ev7] at hr2
       rw [hc7l] at H5
       have HR1 := toHid hr1
       have HR2 := toHid hr2
       have hszd : w5.drew.heap.size = w5.heap.size := rfl
       rw [hszd] at HR1
       have h4c : 4 ≤ ks.cap := by have := hA.2.2.2.2; omega
       have h4l : 4 ≤ ks.bs.length := by omega
       have h4s : 4 ≤ sl := by omega
       have h4sc : 4 ≤ sc := by omega
       have i4c : (4 : Int) ≤ (ks.cap : Int) := by omega
       have i4s : (4 : Int) ≤ (sl : Int) := by omega
       have i4sc : (sl : Int) ≤ (sc : Int) := by omega
       have i5 : ¬ sc = 4 := by omega
       have HIZ := toHid HI.out.1
       unfold slotV KS.v
       generalize hcl7 : cutP (ks.bs.take 4 ++ bs.drop 4) = c8 at *
       generalize heqb : (c8 == ks.bs) = eqb at *
       have HEQ := toHid heqb
       clear heqb
       generalize hA' : strOfNums ks.bs = A at *
       generalize hklen : ks.bs.length = kl at *
       generalize hbl : bs.length = bl at *
       clear hmem hA hksl hs hsl hA0 hk4 hr1 hA1 ht1 hg1 hrw hO1 hkc hr2 hO7 ht7 hc7b hc7l hk7b hk7A hk7d hT7 hstep ev7 hszd HST HSK HI HPS HS HR HB HPG hc
       go_upto_region 10 with fail
       refine wp_region_held_drew (S := (fun _ => True)) (by kernel_rfl) ?_ (fun hHeld => ?_)
       ·trivial
       refine tk 1 (v := ?_) rfl ?_ ?_
       rotate_left
       ·(intro w hSw; (try dsimp only at hSw); go_simp; try with_reducible rfl)
       simp only [Act.put, AP]
       refine tk 2 (v := ?_) rfl ?_ ?_
       rotate_left
       ·(intro w hSw; (try dsimp only at hSw); go_simp; try with_reducible rfl)
       simp only [Act.put, AP]
       refine tk 4 (v := ?_) rfl ?_ ?_
       rotate_left
       ·(intro w hSw; (try dsimp only at hSw); go_simp; try with_reducible rfl)
       simp only [Act.put, AP]
       refine tk 5 (v := ?_) rfl ?_ ?_
       rotate_left
       ·(intro w hSw; (try dsimp only at hSw); go_simp; try with_reducible rfl)
       simp only [Act.put, AP]
       refine wpAnyH_ready (rs := [0]) (by kernel_rfl) (by simp) ?_
       refine AllReadyH.cons rfl (fun K hK => ?_) AllReadyH.nil
       simp only [List.getElem_toArray, List.getElem_cons_zero]
       go_simp
       refine hK.out _ _ ?_ (fun hHeld => ?_)
       ·trivial
       clear hK K
       try simp only [Act.put, AP]
       refine wpAnyH_ready (rs := [3]) (by kernel_rfl) (by simp) ?_
       refine AllReadyH.cons rfl (fun K hK => ?_) AllReadyH.nil
       refine step_append_known rfl (.tmp 57) (.tmp 59) 39 39 rfl (.slice (some ⟨w5.heap.size, 0, none⟩) 0 0) (.slice (some ⟨ks.b, 0, none⟩) 4 ks.cap) (by simp [Act.eval]) (by simp [Act.eval]) HR1.out ?_
       refine hK.out _ _ ?_ (fun hHeld => ?_)
       ·trivial
       clear hK K
       try simp only [Act.put, AP]
       refine wpAnyH_ready (rs := [6]) (by kernel_rfl) (by simp) ?_
       refine AllReadyH.cons rfl (fun K hK => ?_) AllReadyH.nil
       refine step_append_known rfl (.tmp 60) (.tmp 62) 39 39 rfl (.slice (some ⟨g1, 0, none⟩) 4 cap1) (.slice (some ⟨kb, koff + 4, none⟩) (sl - 4) (sc - 4)) (by simp [Act.eval]) (by simp [Act.eval]) HR2.out ?_
       refine hK.out _ _ ?_ (fun hHeld => ?_)
       ·trivial
       clear hK K
       try simp only [Act.put, AP]
       refine tk 7 (v := ?_) rfl ?_ ?_
       rotate_left
       ·(intro w hSw; (try dsimp only at hSw); go_simp; try with_reducible rfl)
       simp only [Act.put, AP]
       refine wpAnyH_done (by kernel_rfl) ?_ _
       go_upto_region 11 with fail
       refine wp_region_held_drew (S := (fun w' => (convert 39 9 (.slice (some ⟨ks.b, 0, none⟩) kl ks.cap)).run Tryz.prog w' = .ok (.string A) w')) (by kernel_rfl) ?_ (fun hHeld => ?_)
       ·exact HCV0.out
       refine tk 0 (v := ?_) rfl ?_ ?_
       rotate_left
       ·(intro w hSw; (try dsimp only at hSw); go_simp; try with_reducible rfl)
       simp only [Act.put, AP]
       refine tk 3 (v := ?_) rfl ?_ ?_
       rotate_left
       ·(intro w hSw; (try dsimp only at hSw); go_simp; try with_reducible rfl)
       simp only [Act.put, AP]
       refine tk 4 (v := ?_) rfl ?_ ?_
       rotate_left
       ·(intro w hSw; (try dsimp only at hSw); go_simp; try with_reducible rfl)
       simp only [Act.put, AP]
       refine wpAnyH_ready (rs := [1]) (by kernel_rfl) (by simp) ?_
       refine AllReadyH.cons rfl (fun K hK => ?_) AllReadyH.nil
       simp only [AP]
       go_simp
       refine Calls.mono H5.out ?_; rintro e w8 ⟨⟨v8, rfl, hO8⟩, ht8⟩
       go_wp2_with fail
       refine hK.out _ _ ?_ (fun hHeld => ?_)
       ·exact (HKA.out w8 ht8).1
       clear hK K
       try simp only [Act.put, AP]
       obtain ⟨k8, rfl, hk8b, hk8A, _⟩ := hO8.key HC8.out.1 HC8.out.2.1 HC8.out.2.2
       have hcv8 := hk8A.key.conv k8.cap
       rw [hk8b] at hcv8
       have ev8 : k8.v = .slice (some ⟨k8.b, 0, none⟩) c8.length k8.cap := by unfold KS.v; rw [hk8b]
       rw [ev8]
       generalize hB8 : strOfNums c8 = B at *
       refine wpAnyH_ready (rs := [2]) (by kernel_rfl) (by simp) ?_
       refine AllReadyH.cons rfl (fun K hK => ?_) AllReadyH.nil
       simp only [AP]
       go_simp
       refine hK.out _ _ ?_ (fun hHeld => ?_)
       ·exact hHeld
       clear hK K
       try simp only [Act.put, AP]
       refine tk 5 (v := ?_) rfl ?_ ?_
       rotate_left
       ·(intro w hSw; (try dsimp only at hSw); go_simp; try with_reducible rfl)
       simp only [Act.put, AP]
       refine wpAnyH_done (by kernel_rfl) ?_ _
       have HT8 := toHid (HKA.out w8 ht8).2
       cases eqb with
       | true =>
        have hq8 : c8 = ks.bs := beq_iff_eq.1 HEQ.out
        have HN : Hid ((k : Int) = idxI (longTo x.p.slots bs (k + 1)) ∧ Touch [] w w8) := by
         refine ⟨?_, HT8.out⟩
         rw [HSTP.out, if_pos hq8]
         rfl
        clear HSTP HKA HCV0 hcv8 ht8 hO8 hk8A hk8b ev8 hq8 hB8 hcl7 hA' hklen hbl HC8 HIZ HEQ
        go_wp2
        go_roundw
        case rel => exact ⟨k + 1, by omega, by go_num, (k : Int), rfl, HN⟩
        case measure => simp [intOf]; omega
       | false =>
        have hq8 : ¬ c8 = ks.bs := fun e => by
         have h1 := HEQ.out
         rw [beq_iff_eq.2 e] at h1
         cases h1
        have HN : Hid (z = idxI (longTo x.p.slots bs (k + 1)) ∧ Touch [] w w8) := by
         refine ⟨?_, HT8.out⟩
         rw [HSTP.out, if_neg hq8]
         exact HIZ.out
        clear HSTP HKA HCV0 hcv8 ht8 hO8 hk8A hk8b ev8 hq8 hB8 hcl7 hA' hklen hbl HC8 HIZ HEQ
        go_wp2
        go_roundw
        case rel => exact ⟨k + 1, by omega, by go_num, z, rfl, HN⟩
        case measure => simp [intOf]; omega
   ·obtain rfl : n = k := by omega
    have hR := HH.out.1.touch HI.out.2 (by simp)
    generalize hao : longTo x.p.slots bs n = ao at *
    have hzo := HI.out.1
    have hal : idxI ao < (x.whens.length : Int) := by
     have hle := HH.out.2.1.lens
     have hnn := HNN.out
     cases ao with
     | none => show (-1 : Int) < _; omega
     | some i =>
      have := (longTo_some hao).1
      show (i : Int) < _
      omega
    have H3 := toHid (touch_any hR (idxI ao) hal HH.out.2.1.clock0 (by have := HH.out.2.1.clock1; omega))
    rw [← hzo] at H3
    have HP2 : Hid (pr = (ao, x.p.touch ao)) := by
     have h1 := HV.out
     rw [HPL.out, hao] at h1
     exact h1
    have HZO := toHid (And.intro hzo HI.out.2)
    clear hao hzo hal hR HI HV
    go_wp2_with fail
    refine Calls.mono H3.out ?_
    rintro e w4 ⟨rfl, hr4, ht4⟩
    rw [HZO.out.1] at hr4
    have HF : Hid (∃ x', Step w w4 x x' (x.p.touch ao)) := ⟨_, Step.touched HZO.out.2 ao hr4 ht4⟩
    clear hr4 ht4 H3
    go_wp2
    go_ret
    rw [HP2.out]
    exact ⟨by rw [← HZO.out.1]; rfl, HF.out⟩
 ·have hf2 : fits3 x bs = false := by simpa using hf
  rw [hf2] at H1
  rw [show x.p.find3 bs = (none, x.p) from if_neg (by rw [hfe]; exact hf)]
  have HH := toHid h
  clear h u hk hk3 hf hf2 hfe hlen hs1 hs2
  go_enter Tryz.func60, Tryz.ntmps60
  go_wp2_with fail
  refine Calls.mono H1.out ?_
  rintro e w2 ⟨rfl, ht2⟩
  have HF : Hid (∃ x', Step w w2 x x' x.p) := ⟨x, Step.refl HH.out ht2⟩
  clear ht2 H1
  go_wp2
  go_ret
  exact ⟨rfl, HF.out⟩
end Go.Proofs.YtmhhahmjkopjhaaGreat
end
section
namespace Go.Proofs.YtmhhahmjkopjhaaGreat
open Go.RowKit
attribute [local go_sem ↓] Go.wp_at_zero Go.wp_at_succ
def PX.put3 (x : PX) (bs : List Int) (fl : Int) : (Int × Bool × Int) × PX :=
 if x.fits3 bs = true then
  if 2 < fl then ((0, false, 72), x)
  else match sameP x.slots (cutP bs) with
   | some i => if fl = 1 then ((0, false, 70), x) else (((i : Int), false, 0), x.touch (some i))
   | none => if fl = 2 then ((0, false, 14), x) else match freeP x.slots with
    | some f => (((f : Int), true, 0), x.laid f (cutP bs))
    | none => ((0, false, 71), x)
 else ((0, false, 2), x)
theorem rput3_any {w : World} {x : RX} (h : RAt w x) (u : RUp x) (hk3 : x.kind = 3) (hs1 : 5 ≤ x.size) (hs2 : x.size ≤ 16) (hmin : 1 ≤ x.slots.length) {sa : Option Addr} {sl : Nat} {bs : List Int} (hk : KeyAt w sa sl bs) (hout : ∀ b, b < w.heap.size → b ∈ x.blocks → ∀ off, sa ≠ some ⟨b, off, none⟩) (kc : Nat) (hsc : sl ≤ kc) (fl : Int) (f0 : 0 ≤ fl) :
  Calls Tryz.prog 61 #[.pointer (some ⟨x.r, 0, none⟩), .slice sa sl kc, .int .u64 fl] w (PutPost w x (x.p.put3 bs fl)) := by
 have H1 := toHid (fits3_any h hk3 hs1 hs2 hk kc hsc)
 have hfe : x.p.fits3 bs = fits3 x bs := rfl
 by_cases hf : fits3 x bs = true
 ·rw [hf] at H1
  have HV : Hid (x.p.put3 bs fl = (if 2 < fl then ((0, false, 72), x.p)
    else match sameP x.p.slots (cutP bs) with
     | some i => if fl = 1 then ((0, false, 70), x.p) else (((i : Int), false, 0), x.p.touch (some i))
     | none => if fl = 2 then ((0, false, 14), x.p) else match freeP x.p.slots with
      | some f => (((f : Int), true, 0), x.p.laid f (cutP bs))
      | none => ((0, false, 71), x.p) : (Int × Bool × Int) × PX)) := if_pos hf
  have hsz : (bs.length : Int) = x.size := by
   unfold fits3 at hf
   simp at hf
   exact hf.1
  have HH := toHid (And.intro h (And.intro u (And.intro hk (show ∀ b, b < w.heap.size → b ∈ x.blocks → ∀ off, sa ≠ some ⟨b, off, none⟩ from hout))))
  have HSZ := toHid (And.intro (show 4 ≤ bs.length by omega) (show bs.length ≤ 16 by omega))
  have HK3 := toHid hk3
  have h1b : 1 ≤ bs.length := by omega
  have hnm := u.many
  clear h u hk hf hfe hs1 hs2 hsz hout
  generalize hpr : x.p.put3 bs fl = pr at *
  clear hpr
  by_cases hf2 : 2 < fl
  ·obtain rfl : pr = ((0, false, 72), x.p) := by rw [HV.out, if_pos hf2]
   go_enter Tryz.func61, Tryz.ntmps61
   go_wp2_with fail
   refine Calls.mono H1.out ?_
   rintro e w2 ⟨rfl, ht2⟩
   have HF : Hid (∃ x', Step w w2 x x' x.p) := ⟨x, Step.refl HH.out.1 ht2⟩
   clear ht2 H1
   go_wp2
   go_ret3
   exact ⟨rfl, HF.out⟩
  ·have HV2 := toHid (HV.out.trans (if_neg hf2))
   clear HV
   go_enter Tryz.func61, Tryz.ntmps61
   go_wp2_with fail
   refine Calls.mono H1.out ?_
   rintro e w2 ⟨rfl, ht2⟩
   have h2 := HH.out.1.touch ht2 (by simp)
   have H2 := toHid (same3_any h2 HK3.out (by omega) (HH.out.2.2.1.touch ht2) HSZ.out.1 HSZ.out.2 kc hsc)
   rw [sameI_eq] at H2
   have HT2 := toHid ht2
   clear ht2 h2 H1
   cases hsm : sameP x.p.slots (cutP bs) with
   | some i =>
    have hsm' : sameP (x.slots.map (Option.map KS.bs)) (cutP bs) = some i := hsm
    rw [hsm'] at H2
    have HV := HV2.out
    rw [hsm] at HV
    simp only at HV
    have hil : i < x.slots.length := by have := sameP_lt hsm'; simpa using this
    have HV3 := toHid HV
    unfold idxI at H2
    simp only at H2
    clear hsm hsm' HV HV2
    go_wp2_with fail
    refine Calls.mono H2.out ?_
    rintro e w3 ⟨rfl, ht3⟩
    have HT := toHid (HT2.out.trans ht3 (by simp))
    have hR3 := HH.out.1.touch HT.out (by simp)
    have c0 := hR3.c0
    rw [HK3.out] at c0
    have H3 := toHid (touch_any hR3 (idxI (some i)) (by show (i : Int) < _; rw [HH.out.2.1.lens]; omega) HH.out.2.1.clock0 (by have := HH.out.2.1.clock1; omega))
    have HN : Hid (∃ x', Step w w3 x x' x.p) := ⟨x, Step.refl HH.out.1 HT.out⟩
    clear H2 ht3 hR3
    by_cases h1 : fl = 1
    ·subst h1
     obtain rfl : pr = ((0, false, 70), x.p) := by rw [HV3.out, if_pos rfl]
     go_wp2
     go_ret3
     exact ⟨rfl, HN.out⟩
    ·obtain rfl : pr = (((i : Int), false, 0), x.p.touch (some i)) := by rw [HV3.out, if_neg h1]
     unfold idxI at H3
     simp only at H3
     go_wp2_with fail
     refine Calls.mono H3.out ?_
     rintro e w4 ⟨rfl, hr4, ht4⟩
     have HF : Hid (∃ x', Step w w4 x x' (x.p.touch (some i))) := ⟨_, Step.touched HT.out (some i) hr4 ht4⟩
     clear hr4 ht4 H3 HT HH HN
     go_wp2
     go_ret3
     exact ⟨rfl, HF.out⟩
   | none =>
    have hsm' : sameP (x.slots.map (Option.map KS.bs)) (cutP bs) = none := hsm
    rw [hsm'] at H2
    have HV := HV2.out
    rw [hsm] at HV
    simp only at HV
    have HV3 := toHid HV
    unfold idxI at H2
    simp only at H2
    clear hsm hsm' HV HV2
    go_wp2_with fail
    refine Calls.mono H2.out ?_
    rintro e w3 ⟨rfl, ht3⟩
    have HT := toHid (HT2.out.trans ht3 (by simp))
    have hR3 := HH.out.1.touch HT.out (by simp)
    have c0 := hR3.c0
    rw [HK3.out] at c0
    have c3 := hR3.c3
    have HR2 := toHid hR3
    have HN : Hid (∃ x', Step w w3 x x' x.p) := ⟨x, Step.refl HH.out.1 HT.out⟩
    clear H2 ht3 hR3
    by_cases hf2' : fl = 2
    ·subst hf2'
     obtain rfl : pr = ((0, false, 14), x.p) := by rw [HV3.out, if_pos rfl]
     go_wp2
     go_ret3
     exact ⟨rfl, HN.out⟩
    ·have HV4 := toHid (HV3.out.trans (if_neg hf2'))
     have hf3' : (fl == 2) = false := by simpa using hf2'
     clear HV3 hf2'
     obtain ⟨gb, hgb⟩ : ∃ gb, x.g = some gb := by
      have hq := HR2.out.row
      cases hg : x.g with
      | none =>
       rw [hg] at hq
       have q1 := hq.2.1
       have q2 : x.scap = 0 := hq.2.2.2
       omega
      | some b => exact ⟨b, rfl⟩
     have HGB := toHid hgb
     rw [hgb, slV_some] at c3
     generalize hnn : x.slots.length = n at *
     have HNN := toHid hnn
     clear hgb hnn
     have hnil : ∀ (w : World) (a : Option Addr) (n c : Nat), (binOp .eql 39 (.slice a n c) (.slice none 0 0)).run Tryz.prog w = .ok (.bool a.isNone) w := fun w a n c => Lib.run_eql_slice_nil w _ _ a n c 0 0 Tryz.underlying39
     go_wp2_with fail
     go_loop [9, 11] (fun a i => ∃ k : Nat, k ≤ n ∧ i = .int .i64 ((k : Int) - 1) ∧ ∃ z : Int, a = .int .i64 z ∧ Hid (z = idxI ((freeP (x.p.slots.drop k)).map (· + k)))) (fun _ i => (intOf i + 1).toNat)
     case atStart =>
      refine ⟨n, Nat.le_refl _, rfl, -1, rfl, ?_⟩
      show (-1 : Int) = _
      rw [List.drop_eq_nil_of_le (by show (x.slots.map (Option.map KS.bs)).length ≤ n; rw [List.length_map, HNN.out]; exact Nat.le_refl _)]
      rfl
     case round =>
      obtain ⟨k, hk, rfl, z, rfl, HZ⟩ := hrel
      by_cases hkp : 0 < k
      ·obtain ⟨i, rfl⟩ : ∃ i, k = i + 1 := ⟨k - 1, by omega⟩
       have hil : i < x.slots.length := by rw [HNN.out]; omega
       have hget : x.slots[i]? = some (x.slots.getD i none) := by
        rw [List.getD_eq_getElem?_getD, List.getElem?_eq_getElem hil]
        rfl
       obtain ⟨gb', hgb', hc⟩ := HR2.out.slot hget
       rw [HGB.out] at hgb'
       injection hgb' with hgb'
       subst hgb'
       have hst := free_step (l := x.p.slots) (k := i) (by show i < (x.slots.map (Option.map KS.bs)).length; rw [List.length_map]; exact hil) HZ.out
       have hpg : x.p.slots.getD i none = (x.slots.getD i none).map KS.bs := by
        show (x.slots.map (Option.map KS.bs)).getD i none = _
        rw [List.getD_eq_getElem?_getD, List.getElem?_map, hget]
        rfl
       rw [hpg] at hst
       cases hs : x.slots.getD i none with
       | none =>
        rw [hs] at hst hc
        unfold slotV at hc
        have HST := toHid hst
        clear hst hpg hs hget hil
        go_wp2
        exact ⟨⟨i, by omega, by go_num, _, rfl, toHid (by rw [show (((i + 1 : Nat) : Int) - 1) = (i : Int) by omega]; simpa using HST.out)⟩, by simp [intOf] <;> omega⟩
       | some ks =>
        rw [hs] at hst hc
        unfold slotV KS.v at hc
        have HST := toHid hst
        clear hst hpg hs hget hil
        go_wp2
        exact ⟨⟨i, by omega, by go_num, z, rfl, toHid (by simpa using HST.out)⟩, by simp [intOf] <;> omega⟩
      ·obtain rfl : k = 0 := by omega
       have hz : z = idxI (freeP x.p.slots) := by
        rw [HZ.out, List.drop_zero]
        cases freeP x.p.slots <;> rfl
       cases hfr : freeP x.p.slots with
       | some fr =>
        rw [hfr] at hz
        obtain rfl : z = (fr : Int) := hz
        have hfl : fr < x.slots.length := by
         have := freeP_lt hfr
         have h2 : x.p.slots.length = x.slots.length := by show (x.slots.map _).length = _; simp
         omega
        obtain rfl : pr = (((fr : Int), true, 0), x.p.laid fr (cutP bs)) := by rw [HV4.out, hfr]
        have HFL := toHid hfl
        have hfn : fr < n := by rw [← HNN.out]; exact hfl
        clear hfr HZ HV4 hfl
        have hR0 := HR2.out.touch ((Touch.refl [] w3).drew) (by simp)
        obtain ⟨g1, cap1, w4, hr1, hA1, ht1, hg1⟩ := keyat_append (HH.out.2.2.1.touch (HT.out.drew)) (by omega) HSZ.out.2 kc
        have hlaid := hR0.laid HGB.out (j := fr) HFL.out hA1 ht1 hg1
        have HS0 := toHid (show w3.drew.cell? ⟨x.r, 3, none⟩ = some (.slice (some ⟨gb, 0, none⟩) n x.scap) from c3)
        have HS1 := toHid (((Touch.refl [] w3.drew).alloc (.cells #[] 5)).cell HS0.out (by simp))
        have HS2 := toHid (ht1.cell HS0.out (by simp))
        have hx2 := hlaid.1.c3
        have hx0 := hlaid.1.c0
        have HS3 : Hid ((w4.setCell ⟨gb, fr, none⟩ (.slice (some ⟨g1, 0, none⟩) sl cap1)).cell? ⟨x.r, 3, none⟩ = some (.slice (some ⟨gb, 0, none⟩) n x.scap)) := by
         have e1 : slV x.g (x.slots.set fr (some ⟨g1, cap1, bs⟩)).length x.scap = .slice (some ⟨gb, 0, none⟩) n x.scap := by
          rw [HGB.out, List.length_set, HNN.out]
          rfl
         have e2 : (⟨g1, cap1, bs⟩ : KS).v = .slice (some ⟨g1, 0, none⟩) sl cap1 := by
          rw [HH.out.2.2.1.1]
          rfl
         rw [← e2, ← e1]
         exact hx2
        have e2 : (⟨g1, cap1, bs⟩ : KS).v = .slice (some ⟨g1, 0, none⟩) sl cap1 := by
         rw [HH.out.2.2.1.1]
         rfl
        rw [e2] at hlaid hx0
        have hget : x.slots[fr]? = some (x.slots.getD fr none) := by
         rw [List.getD_eq_getElem?_getD, List.getElem?_eq_getElem HFL.out]
         rfl
        obtain ⟨gb', hgb', hc⟩ := (hR0.touch ht1 (by simp)).slot hget
        have hfz : w4.frozen? ⟨gb, fr, none⟩ = false := by
         have hq := (hR0.touch ht1 (by simp)).row.2.2.2
         rw [HGB.out] at hq
         obtain ⟨_, hB, _⟩ := hq
         exact hB.frozen _
        rw [HGB.out] at hgb'
        injection hgb' with hgb'
        subst hgb'
        generalize slotV (x.slots.getD fr none) = oldv at hc
        have hx0 : (w4.setCell ⟨gb, fr, none⟩ (.slice (some ⟨g1, 0, none⟩) sl cap1)).cell? ⟨x.r, 0, none⟩ = some (.int .i64 x.kind) := hx0
        rw [HK3.out] at hx0
        have hgl : gb < w3.drew.heap.size := hR0.lt gb (RX.mem_top (RX.mem_g HGB.out))
        have hkb : ∀ b off, sa = some ⟨b, off, none⟩ → b ∉ x.top := fun b off hb hx => by
         obtain ⟨b2, off2, h2, hcell⟩ := HH.out.2.2.1.2.2.2 (by omega)
         rw [hb] at h2
         injection h2 with h2
         injection h2 with h2 h3
         subst h2
         exact HH.out.2.2.2 b (World.block_lt_of_cell? w _ (hcell 0 (by omega))) (RX.mem_top hx) off hb
        have hkey4 : KeyAt (w4.setCell ⟨gb, fr, none⟩ (.slice (some ⟨g1, 0, none⟩) sl cap1)).drew sa sl bs := by
         obtain ⟨q1, q2, q3, q4⟩ := HH.out.2.2.1
         refine ⟨q1, q2, q3, fun hp => ?_⟩
         obtain ⟨b, off, hb, hcell⟩ := q4 hp
         exact ⟨b, off, hb, fun j hj => (Touch.trans (Touch.nil HT.out.drew) hlaid.2.1.drew (fun y hy => Or.inl hy)).cell (hcell j hj) (hkb b off hb)⟩
        have H4 := toHid (cut_any hkey4 HSZ.out.1 HSZ.out.2 kc hsc)
        have hcl6 := cutP_len HSZ.out.1
        have HC6 := toHid (And.intro (show 1 ≤ (cutP bs).length by omega) (And.intro (show (cutP bs).length ≤ 16 by have := HSZ.out.2; omega) (cutP_bd HH.out.2.2.1.2.1)))
        have HLL := toHid hlaid
        have HR1 := toHid hr1
        have hsz : w3.drew.heap.size = w3.heap.size := rfl
        rw [hsz] at HR1
        generalize hRR : x.r = R at *
        generalize hSC : x.scap = sc at *
        have HRC := toHid (And.intro hRR hSC)
        clear hR0 hr1 hA1 ht1 hg1 hlaid hget hx2 e2 hsz hRR hSC hgl hkb hkey4 hcl6
        go_upto_region 29 with fail
        refine wp_region_held_drew (S := (fun w' => w'.cell? ⟨R, 3, none⟩ = some (.slice (some ⟨gb, 0, none⟩) n sc))) (by kernel_rfl) ?_ (fun hHeld => ?_)
        ·exact HS0.out
        refine tk 0 (v := ?_) rfl ?_ ?_
        rotate_left
        ·(intro w hSw; (try dsimp only at hSw); go_simp; try with_reducible rfl)
        simp only [Act.put, AP]
        refine tk 1 (v := ?_) rfl ?_ ?_
        rotate_left
        ·(intro w hSw; (try dsimp only at hSw); go_simp; try with_reducible rfl)
        simp only [Act.put, AP]
        refine tk 2 (v := ?_) rfl ?_ ?_
        rotate_left
        ·(intro w hSw; (try dsimp only at hSw); go_simp; try with_reducible rfl)
        simp only [Act.put, AP]
        refine tk 3 (v := ?_) rfl ?_ ?_
        rotate_left
        ·(intro w hSw; (try dsimp only at hSw); go_simp; try with_reducible rfl)
        simp only [Act.put, AP]
        refine tk 4 (v := ?_) rfl ?_ ?_
        rotate_left
        ·(intro w hSw; (try dsimp only at hSw); go_simp; try with_reducible rfl)
        simp only [Act.put, AP]
        refine tk 6 (v := ?_) rfl ?_ ?_
        rotate_left
        ·(intro w hSw; (try dsimp only at hSw); go_simp; try with_reducible rfl)
        simp only [Act.put, AP]
        refine wpAnyH_ready (rs := [5]) (by kernel_rfl) (by simp) ?_
        refine AllReadyH.cons rfl (fun K hK => ?_) AllReadyH.nil
        simp only [AP]
        go_simp
        refine hK.out _ _ ?_ (fun hHeld => ?_)
        ·exact HS1.out
        clear hK K
        try simp only [Act.put, AP]
        refine wpAnyH_ready (rs := [7]) (by kernel_rfl) (by simp) ?_
        refine AllReadyH.cons rfl (fun K hK => ?_) AllReadyH.nil
        refine step_append_known rfl (.tmp 106) (.tmp 107) 39 39 rfl (.slice (some ⟨w3.heap.size, 0, none⟩) 0 0) (.slice sa sl kc) (by simp [Act.eval]) (by simp [Act.eval]) HR1.out ?_
        refine hK.out _ _ ?_ (fun hHeld => ?_)
        ·exact HS2.out
        clear hK K
        try simp only [Act.put, AP]
        refine tk 8 (v := ?_) rfl ?_ ?_
        rotate_left
        ·(intro w hSw; (try dsimp only at hSw); go_simp; try with_reducible rfl)
        simp only [Act.put, AP]
        refine wpAnyH_ready (rs := [9]) (by kernel_rfl) (by simp) ?_
        refine AllReadyH.cons rfl (fun K hK => ?_) AllReadyH.nil
        simp only [AP]
        go_simp
        refine hK.out _ _ ?_ (fun hHeld => ?_)
        ·exact HS3.out
        clear hK K
        try simp only [Act.put, AP]
        refine wpAnyH_done (by kernel_rfl) ?_ _
        clear c0 c3
        go_upto_region 31 with fail
        refine wp_region_held_drew (S := (fun w' => w'.cell? ⟨R, 3, none⟩ = some (.slice (some ⟨gb, 0, none⟩) n sc))) (by kernel_rfl) ?_ (fun hHeld => ?_)
        ·exact HS3.out
        refine tk 0 (v := ?_) rfl ?_ ?_
        rotate_left
        ·(intro w hSw; (try dsimp only at hSw); go_simp; try with_reducible rfl)
        simp only [Act.put, AP]
        refine tk 1 (v := ?_) rfl ?_ ?_
        rotate_left
        ·(intro w hSw; (try dsimp only at hSw); go_simp; try with_reducible rfl)
        simp only [Act.put, AP]
        refine tk 2 (v := ?_) rfl ?_ ?_
        rotate_left
        ·(intro w hSw; (try dsimp only at hSw); go_simp; try with_reducible rfl)
        simp only [Act.put, AP]
        refine tk 3 (v := ?_) rfl ?_ ?_
        rotate_left
        ·(intro w hSw; (try dsimp only at hSw); go_simp; try with_reducible rfl)
        simp only [Act.put, AP]
        refine tk 4 (v := ?_) rfl ?_ ?_
        rotate_left
        ·(intro w hSw; (try dsimp only at hSw); go_simp; try with_reducible rfl)
        simp only [Act.put, AP]
        refine tk 5 (v := ?_) rfl ?_ ?_
        rotate_left
        ·(intro w hSw; (try dsimp only at hSw); go_simp; try with_reducible rfl)
        simp only [Act.put, AP]
        refine wpAnyH_ready (rs := [6]) (by kernel_rfl) (by simp) ?_
        refine AllReadyH.cons rfl (fun K hK => ?_) AllReadyH.nil
        simp only [AP]
        go_simp
        refine Calls.mono H4.out ?_; rintro e w6 ⟨⟨v6, rfl, hO6⟩, ht6⟩
        go_wp2_with fail
        refine hK.out _ _ ?_ (fun hHeld => ?_)
        ·exact ht6.cell HS3.out (by simp)
        clear hK K
        try simp only [Act.put, AP]
        obtain ⟨k6, rfl, hk6b, hk6A, hk60⟩ := hO6.key HC6.out.1 HC6.out.2.1 HC6.out.2.2
        have hRR := HRC.out.1
        have hSC := HRC.out.2
        subst hRR
        subst hSC
        have hl6 := (HLL.out.1.touch ((Touch.refl [] _).drew) (by simp)).laid HGB.out (j := fr) (by show fr < (x.slots.set fr _).length; rw [List.length_set]; exact HFL.out) hk6A ht6 hk60
        have hss : (x.slots.set fr (some (⟨g1, cap1, bs⟩ : KS))).set fr (some k6) = x.slots.set fr (some k6) := List.set_set ..
        have hget6 : (x.slots.set fr (some (⟨g1, cap1, bs⟩ : KS)))[fr]? = some (some ⟨g1, cap1, bs⟩) := by
         rw [List.getElem?_set_self HFL.out]
        have hR6 := (HLL.out.1.touch ((Touch.refl [] _).drew) (by simp)).touch ht6 (by simp)
        obtain ⟨gb6, hgb6, hc6⟩ := hR6.slot hget6
        have hgb6 : x.g = some gb6 := hgb6
        have hfz6 : w6.frozen? ⟨gb, fr, none⟩ = false := by
         have hq := hR6.row.2.2.2
         rw [show ({ x with slots := x.slots.set fr (some (⟨g1, cap1, bs⟩ : KS)) } : RX).g = some gb from HGB.out] at hq
         obtain ⟨_, hB, _⟩ := hq
         exact hB.frozen _
        rw [HGB.out] at hgb6
        injection hgb6 with hgb6
        subst hgb6
        generalize slotV (some (⟨g1, cap1, bs⟩ : KS)) = oldv6 at hc6
        simp only [hss] at hl6
        have H3 := toHid (touch_any hl6.1 (idxI (some fr)) (by show (fr : Int) < (x.whens.length : Int); rw [HH.out.2.1.lens]; have := HFL.out; omega) HH.out.2.1.clock0 (by have := HH.out.2.1.clock1; show x.clock ≤ _; omega))
        have HS6 : Hid ((w6.setCell ⟨gb, fr, none⟩ k6.v).cell? ⟨x.r, 3, none⟩ = some (.slice (some ⟨gb, 0, none⟩) n x.scap)) := by
         have h1 := hl6.1.c3
         have e1 : slV x.g (x.slots.set fr (some k6)).length x.scap = .slice (some ⟨gb, 0, none⟩) n x.scap := by
          rw [HGB.out, List.length_set, HNN.out]
          rfl
         rw [← e1]
         exact h1
        have HL6 := toHid (And.intro hl6 hk6b)
        unfold idxI at H3
        simp only at H3
        unfold KS.v at H3 HS6 HL6 ⊢
        clear hO6 ht6 hk6A hk60 hl6 hget6 hR6 hss hk6b
        refine tk 7 (v := ?_) rfl ?_ ?_
        rotate_left
        ·(intro w hSw; (try dsimp only at hSw); go_simp; try with_reducible rfl)
        simp only [Act.put, AP]
        refine wpAnyH_ready (rs := [8]) (by kernel_rfl) (by simp) ?_
        refine AllReadyH.cons rfl (fun K hK => ?_) AllReadyH.nil
        simp only [AP]
        go_simp
        refine hK.out _ _ ?_ (fun hHeld => ?_)
        ·exact HS6.out
        clear hK K
        try simp only [Act.put, AP]
        refine wpAnyH_done (by kernel_rfl) ?_ _
        go_wp2_with fail
        refine Calls.mono H3.out ?_
        rintro e w7 ⟨rfl, hr7, ht7⟩
        have HF : Hid (∃ x', Step w w7 x x' (x.p.laid fr (cutP bs))) := by
         refine ⟨(({ x with slots := x.slots.set fr (some k6) } : RX).touched (idxI (some fr))), ⟨hr7, ?_, rfl, ?_, fun b hb => ?_, touched_len _ _, by show (x.slots.set fr (some k6)).length = x.slots.length; simp⟩⟩
         ·rw [p_touched]
          unfold PX.laid RX.p
          rw [List.map_set, Option.map_some, HL6.out.2]
         ·exact Touch.trans (Touch.trans (Touch.trans (Touch.nil HT.out.drew) HLL.out.2.1.drew (fun y hy => Or.inl hy)) HL6.out.1.2.1 (fun y hy => Or.inl hy)) ht7 (fun y hy => Or.inl hy)
         ·have hz1 := HT.out.size
          have hz2 := HLL.out.2.1.size
          rcases HL6.out.1.2.2 b hb with hb | hb
          ·rcases HLL.out.2.2 b hb with hb | hb
           ·exact Or.inl hb
           ·exact Or.inr (Nat.le_trans hz1 hb)
          ·exact Or.inr (Nat.le_trans hz1 (Nat.le_trans hz2 hb))
        clear hr7 ht7 H3 HLL HL6
        go_wp2
        go_ret3
        exact ⟨rfl, HF.out⟩
       | none =>
        rw [hfr] at hz
        obtain rfl : z = -1 := hz
        obtain rfl : pr = ((0, false, 71), x.p) := by rw [HV4.out, hfr]
        clear hfr HZ HV4
        go_wp2
        go_ret3
        exact ⟨rfl, HN.out⟩
 ·have hf2 : fits3 x bs = false := by simpa using hf
  rw [hf2] at H1
  rw [show x.p.put3 bs fl = ((0, false, 2), x.p) from if_neg (by rw [hfe]; exact hf)]
  have HH := toHid h
  clear h u hk hk3 hf hf2 hfe hs1 hs2 hout
  go_enter Tryz.func61, Tryz.ntmps61
  go_wp2_with fail
  refine Calls.mono H1.out ?_
  rintro e w2 ⟨rfl, ht2⟩
  have HF : Hid (∃ x', Step w w2 x x' x.p) := ⟨x, Step.refl HH.out ht2⟩
  clear ht2 H1
  go_wp2
  go_ret3
  exact ⟨rfl, HF.out⟩
end Go.Proofs.YtmhhahmjkopjhaaGreat
end
section
namespace Go.Proofs.YtmhhahmjkopjhaaGreat
open Go.RowKit
attribute [local go_sem ↓] Go.wp_at_zero Go.wp_at_succ
def PX.del3 (x : PX) (bs : List Int) : (Int × Int) × PX :=
 if x.fits3 bs = true then match sameP x.slots (cutP bs) with
  | some i => (((i : Int), 0), { x with slots := x.slots.set i none })
  | none => ((0, 14), x)
 else ((0, 2), x)
theorem rdel3_any {w : World} {x : RX} (h : RAt w x) (u : RUp x) (hk3 : x.kind = 3) (hs1 : 5 ≤ x.size) (hs2 : x.size ≤ 16) {sa : Option Addr} {sl : Nat} {bs : List Int} (hk : KeyAt w sa sl bs) (sc : Nat) (hsc : sl ≤ sc) :
  Calls Tryz.prog 63 #[.pointer (some ⟨x.r, 0, none⟩), .slice sa sl sc] w (DelPost w x (x.p.del3 bs)) := by
 have c0 := h.c0
 have HV : Hid (x.p.del3 bs = (if x.p.fits3 bs = true then match sameP x.p.slots (cutP bs) with
   | some i => (((i : Int), 0), { x.p with slots := x.p.slots.set i none })
   | none => ((0, 14), x.p)
  else ((0, 2), x.p) : (Int × Int) × PX)) := rfl
 have H1 := toHid (fits3_any h hk3 hs1 hs2 hk sc hsc)
 have hl := hk.1
 generalize x.p.del3 bs = pr at *
 have hfe : x.p.fits3 bs = fits3 x bs := rfl
 by_cases he : fits3 x bs = true
 ·rw [he] at H1
  have HV2 := toHid (HV.out.trans (if_pos (by rw [hfe]; exact he)))
  clear HV
  have hsz : (bs.length : Int) = x.size := by
   unfold fits3 at he
   simp at he
   exact he.1
  have HSZ := toHid (And.intro (show 4 ≤ bs.length by omega) (show bs.length ≤ 16 by omega))
  have HH := toHid (And.intro h (And.intro u (And.intro hk3 hk)))
  rw [hk3] at c0
  clear h u hk he hl hk3 hfe hs1 hs2
  go_enter Tryz.func63, Tryz.ntmps63
  go_wp2_with fail
  refine Calls.mono H1.out ?_
  rintro e w2 ⟨rfl, ht2⟩
  have h2 := HH.out.1.touch ht2 (by simp)
  have H2 := toHid (same3_any h2 HH.out.2.2.1 (by have := HH.out.2.1.many; omega) (HH.out.2.2.2.touch ht2) HSZ.out.1 HSZ.out.2 sc hsc)
  rw [sameI_eq] at H2
  have HT := toHid ht2
  have HR2 := toHid h2
  have c3 := h2.c3
  clear ht2 h2 H1 c0
  cases hsm : sameP x.p.slots (cutP bs) with
  | none =>
   have hsm' : sameP (x.slots.map (Option.map KS.bs)) (cutP bs) = none := hsm
   rw [hsm'] at H2
   obtain rfl : pr = ((0, 14), x.p) := by rw [HV2.out, hsm]
   unfold idxI at H2
   simp only at H2
   clear hsm hsm'
   go_wp2_with fail
   refine Calls.mono H2.out ?_
   rintro e w3 ⟨rfl, ht3⟩
   have HF : Hid (∃ x', Step w w3 x x' x.p) := ⟨x, Step.refl HH.out.1 (HT.out.trans ht3 (by simp))⟩
   clear ht3 H2
   go_wp2
   go_ret2
   exact ⟨rfl, HF.out⟩
  | some i =>
   have hsm' : sameP (x.slots.map (Option.map KS.bs)) (cutP bs) = some i := hsm
   rw [hsm'] at H2
   obtain rfl : pr = (((i : Int), 0), { x.p with slots := x.p.slots.set i none }) := by rw [HV2.out, hsm]
   have hil : i < x.slots.length := by have := sameP_lt hsm'; simpa using this
   have hget : x.slots[i]? = some (x.slots.getD i none) := by
    rw [List.getD_eq_getElem?_getD, List.getElem?_eq_getElem hil]
    rfl
   unfold idxI at H2
   simp only at H2
   have HGT := toHid (And.intro hil hget)
   clear hsm hsm' hget c3
   go_wp2_with fail
   refine Calls.mono H2.out ?_
   rintro e w3 ⟨rfl, ht3⟩
   have HT3 := toHid (HT.out.trans ht3 (by simp))
   have hR3 := HR2.out.touch ht3 (by simp)
   have hget := HGT.out.2
   obtain ⟨gb, hgb, hc⟩ := hR3.slot hget
   have hfz : w3.frozen? ⟨gb, i, none⟩ = false := by
    have hq := hR3.row.2.2.2
    rw [hgb] at hq
    obtain ⟨_, hB, _⟩ := hq
    exact hB.frozen _
   have hpl := hR3.placed hgb hil none (fun k hk => by cases hk)
   have HF : Hid (∃ x', Step w (w3.setCell ⟨gb, i, none⟩ (.slice none 0 0)) x x' { x.p with slots := x.p.slots.set i none }) := by
    refine ⟨_, ⟨hpl, ?_, rfl, (Touch.nil HT3.out).setCell _ _ (Or.inl (RX.mem_g hgb)), fun b hb => Or.inl ?_, rfl, by simp⟩⟩
    ·unfold RX.p
     rw [List.map_set]
     rfl
    ·rcases List.mem_append.1 hb with hb | hb
     ·exact List.mem_append_left _ hb
     ·obtain ⟨a, ha, hab⟩ := List.mem_filterMap.1 hb
      rcases List.mem_or_eq_of_mem_set ha with ha | ha
      ·exact List.mem_append_right _ (List.mem_filterMap.2 ⟨a, ha, hab⟩)
      ·subst ha
       cases hab
   have c3 := hR3.c3
   rw [hgb, slV_some] at c3
   have hil' : (i : Int) < x.slots.length := by omega
   have hnn := HH.out.2.1.many
   generalize slotV (x.slots.getD i none) = oldv at hc
   clear hget hpl hgb ht3 hR3 H2
   go_wp2
   go_ret2
   exact ⟨rfl, HF.out⟩
 ·have he2 : fits3 x bs = false := by simpa using he
  rw [he2] at H1
  obtain rfl : pr = ((0, 2), x.p) := by rw [HV.out, if_neg (by rw [hfe, he2]; simp)]
  have HH := toHid h
  rw [hk3] at c0
  clear h u hk he hl hk3 hfe hs1 hs2
  go_enter Tryz.func63, Tryz.ntmps63
  go_wp2_with fail
  refine Calls.mono H1.out ?_
  rintro e w2 ⟨rfl, ht2⟩
  have HF : Hid (∃ x', Step w w2 x x' x.p) := ⟨x, Step.refl HH.out ht2⟩
  clear ht2 H1
  go_wp2
  go_ret2
  exact ⟨rfl, HF.out⟩
theorem rnew3_any (w : World) (size : Int) (m : Nat) (s1 : 5 ≤ size) (s2 : size ≤ 16) (h1 : 1 ≤ m) (h2 : m ≤ 64) : Calls Tryz.prog 50 #[.int .i64 3, .int .i64 size, .int .i64 (m : Int)] w (FreshPost w 3 size m) := by
 have hmk := run_make_blk (P := Tryz.prog) Tryz.underlying105 info32 rfl m (by omega) (by omega) .i64
 have hmk2 := run_make_blk (P := Tryz.prog) Tryz.underlying112 info3 rfl m (by omega) (by omega) .i64
 go_enter Tryz.func50, Tryz.ntmps50
 go_upto_region 8 with fail
 go_cut [10] from 10 to 40 (fun p wx => ∃ R sb wb, p = .pointer (some ⟨R, 0, none⟩) ∧ Hid (FreshAt w wx R sb wb 3 size m))
 case first =>
  go_region
  ·go_wp2
   go_meet
   have b1 := Blk.newA w (Array.replicate m (Value.slice none 0 0)) (List.replicate m (.slice none 0 0)) 39 (by simp)
   have b2 := Blk.newA (w.alloc (Obj.cells (Array.replicate m (Value.slice none 0 0)) 39)) (Array.replicate m (Value.int .i64 0)) (List.replicate m (.int .i64 0)) 3 (by simp)
   have b3 := Blk.newA ((w.alloc (Obj.cells (Array.replicate m (Value.slice none 0 0)) 39)).alloc (Obj.cells (Array.replicate m (Value.int .i64 0)) 3)) #[.int .i64 3, .int .i64 size, .int .i64 (m : Int), .slice (some ⟨w.heap.size, 0, none⟩) m m, .slice (some ⟨w.heap.size + 1, 0, none⟩) m m, .int .i64 0] _ 114 rfl
   simp only [World.size_alloc] at b2 b3
   exact ⟨w.heap.size + 1 + 1, w.heap.size, w.heap.size + 1, rfl, fresh_zero b3.drew ((b1.alloc _).alloc _).drew (b2.alloc _).drew (by omega) (by omega) (by omega) (by omega) (by omega) (by omega) h2 ((((Touch.refl [] w).alloc _).alloc _).alloc _).drew⟩
  ·go_wp2
   go_meet
   have b1 := Blk.newA w (Array.replicate m (Value.int .i64 0)) (List.replicate m (.int .i64 0)) 3 (by simp)
   have b2 := Blk.newA (w.alloc (Obj.cells (Array.replicate m (Value.int .i64 0)) 3)) (Array.replicate m (Value.slice none 0 0)) (List.replicate m (.slice none 0 0)) 39 (by simp)
   have b3 := Blk.newA ((w.alloc (Obj.cells (Array.replicate m (Value.int .i64 0)) 3)).alloc (Obj.cells (Array.replicate m (Value.slice none 0 0)) 39)) #[.int .i64 3, .int .i64 size, .int .i64 (m : Int), .slice (some ⟨w.heap.size + 1, 0, none⟩) m m, .slice (some ⟨w.heap.size, 0, none⟩) m m, .int .i64 0] _ 114 rfl
   simp only [World.size_alloc] at b2 b3
   exact ⟨w.heap.size + 1 + 1, w.heap.size + 1, w.heap.size, rfl, fresh_zero b3.drew (b2.alloc _).drew ((b1.alloc _).alloc _).drew (by omega) (by omega) (by omega) (by omega) (by omega) (by omega) h2 ((((Touch.refl [] w).alloc _).alloc _).alloc _).drew⟩
 case rest =>
  obtain ⟨R, sb, wb, rfl, HZ⟩ := hcut
  clear hmk hmk2
  go_wp2_with fail
  go_loopw [11] (fun t w' => t = .int .i64 0 ∧ Hid (FreshAt w w' R sb wb 3 size m)) (fun _ _ => 0)
  case atStart => exact ⟨rfl, HZ.out⟩
  case round =>
   clear HZ
   obtain ⟨rfl, HI⟩ := hrel
   go_wp2
   go_ret2
   exact ⟨R, sb, wb, rfl, HI.out⟩
theorem rnew3_bad (w : World) (size m : Int) (h1 : ¬ (1 ≤ m ∧ m ≤ 64 ∧ 5 ≤ size ∧ size ≤ 16)) : Calls Tryz.prog 50 #[.int .i64 3, .int .i64 size, .int .i64 m] w fun e w' => e = .returned (.tuple #[.pointer none, .bool false]) ∧ w' = w := by
 by_cases a1 : m < 1
 ·go_enter Tryz.func50, Tryz.ntmps50
  go_wp2
  go_ret2
  exact ⟨rfl, rfl⟩
 ·by_cases a2 : 64 < m
  ·go_enter Tryz.func50, Tryz.ntmps50
   go_wp2
   go_ret2
   exact ⟨rfl, rfl⟩
  ·by_cases a3 : size < 5
   ·clear h1
    go_enter Tryz.func50, Tryz.ntmps50
    go_wp2
    go_ret2
    exact ⟨rfl, rfl⟩
   ·have a4 : 16 < size := by omega
    clear h1
    go_enter Tryz.func50, Tryz.ntmps50
    go_wp2
    go_ret2
    exact ⟨rfl, rfl⟩
end Go.Proofs.YtmhhahmjkopjhaaGreat
end
section
namespace Go.Proofs.YtmhhahmjkopjhaaGreat
open Go.RowKit
attribute [local go_sem ↓] Go.wp_at_zero Go.wp_at_succ
theorem rnew_bad (w : World) (m : Int) (h1 : ¬ (1 ≤ m ∧ m ≤ 64)) : Calls Tryz.prog 50 #[.int .i64 0, .int .i64 4, .int .i64 m] w fun e w' => e = .returned (.tuple #[.pointer none, .bool false]) ∧ w' = w := by
 by_cases h : m < 1
 ·go_enter Tryz.func50, Tryz.ntmps50
  go_wp2
  go_ret2
  exact ⟨rfl, rfl⟩
 ·have h2 : 64 < m := by omega
  go_enter Tryz.func50, Tryz.ntmps50
  go_wp2
  go_ret2
  exact ⟨rfl, rfl⟩
theorem rnew_any (w : World) (m : Nat) (h1 : 1 ≤ m) (h2 : m ≤ 64) : Calls Tryz.prog 50 #[.int .i64 0, .int .i64 4, .int .i64 (m : Int)] w fun e w' => ∃ R sb wb l, e = .returned (.tuple #[.pointer (some ⟨R, 0, none⟩), .bool true]) ∧ NewAt w w' R sb wb m m l := by
 have hmk := run_make_blk (P := Tryz.prog) Tryz.underlying105 info32 rfl m (by omega) (by omega) .i64
 have hmk2 := run_make_blk (P := Tryz.prog) Tryz.underlying112 info3 rfl m (by omega) (by omega) .i64
 go_enter Tryz.func50, Tryz.ntmps50
 go_upto_region 8 with fail
 go_cut [10] from 10 to 40 (fun p wx => ∃ R sb wb, p = .pointer (some ⟨R, 0, none⟩) ∧ Hid (NewAt w wx R sb wb m 0 []))
 case first =>
  go_region
  ·go_wp2
   go_meet
   have b1 := Blk.newA w (Array.replicate m (Value.slice none 0 0)) (List.replicate m (.slice none 0 0)) 39 (by simp)
   have b2 := Blk.newA (w.alloc (Obj.cells (Array.replicate m (Value.slice none 0 0)) 39)) (Array.replicate m (Value.int .i64 0)) (List.replicate m (.int .i64 0)) 3 (by simp)
   have b3 := Blk.newA ((w.alloc (Obj.cells (Array.replicate m (Value.slice none 0 0)) 39)).alloc (Obj.cells (Array.replicate m (Value.int .i64 0)) 3)) #[.int .i64 0, .int .i64 4, .int .i64 (m : Int), .slice (some ⟨w.heap.size, 0, none⟩) m m, .slice (some ⟨w.heap.size + 1, 0, none⟩) m m, .int .i64 0] _ 114 rfl
   simp only [World.size_alloc] at b2 b3
   exact ⟨w.heap.size + 1 + 1, w.heap.size, w.heap.size + 1, rfl, newAt_zero b3.drew ((b1.alloc _).alloc _).drew (b2.alloc _).drew (by omega) (by omega) (by omega) (by omega) (by omega) (by omega) h2 ((((Touch.refl [] w).alloc _).alloc _).alloc _).drew⟩
  ·go_wp2
   go_meet
   have b1 := Blk.newA w (Array.replicate m (Value.int .i64 0)) (List.replicate m (.int .i64 0)) 3 (by simp)
   have b2 := Blk.newA (w.alloc (Obj.cells (Array.replicate m (Value.int .i64 0)) 3)) (Array.replicate m (Value.slice none 0 0)) (List.replicate m (.slice none 0 0)) 39 (by simp)
   have b3 := Blk.newA ((w.alloc (Obj.cells (Array.replicate m (Value.int .i64 0)) 3)).alloc (Obj.cells (Array.replicate m (Value.slice none 0 0)) 39)) #[.int .i64 0, .int .i64 4, .int .i64 (m : Int), .slice (some ⟨w.heap.size + 1, 0, none⟩) m m, .slice (some ⟨w.heap.size, 0, none⟩) m m, .int .i64 0] _ 114 rfl
   simp only [World.size_alloc] at b2 b3
   exact ⟨w.heap.size + 1 + 1, w.heap.size + 1, w.heap.size, rfl, newAt_zero b3.drew (b2.alloc _).drew ((b1.alloc _).alloc _).drew (by omega) (by omega) (by omega) (by omega) (by omega) (by omega) h2 ((((Touch.refl [] w).alloc _).alloc _).alloc _).drew⟩
 case rest =>
  obtain ⟨R, sb, wb, rfl, HZ⟩ := hcut
  clear hmk hmk2
  go_wp2_with fail
  go_loopw [11] (fun t w' => ∃ k : Nat, k ≤ m ∧ t = .int .i64 k ∧ Hid (∃ l, NewAt w w' R sb wb m k l)) (fun t _ => m - (intOf t).toNat)
  case atStart => exact ⟨0, by omega, rfl, _, HZ.out⟩
  case round =>
   clear HZ
   obtain ⟨k, hk, rfl, HI⟩ := hrel
   by_cases hlt : k < m
   ·obtain ⟨l, hI⟩ := HI.out
    have H1 := fun w => toHid (rkey_any (k : Int) w (by omega) (by omega))
    have c3 := (hI.at_.touch ((Touch.refl [] wr).drew) (by simp)).c3
    have e3 : slV (RX.arr R sb wb m l (m - k)).g (RX.arr R sb wb m l (m - k)).slots.length (RX.arr R sb wb m l (m - k)).scap = .slice (some ⟨sb, 0, none⟩) m m := by
     rw [arr_slots, hI.len, show k + (m - k) = m by omega]
     rfl
    rw [e3] at c3
    have c3' : wr.drew.cell? ⟨R, 3, none⟩ = some (.slice (some ⟨sb, 0, none⟩) m m) := c3
    have hwk : IntKind.u64.wrap (k : Int) = k := by rw [IntKind.wrap_u64]; omega
    have HII := toHid hI
    clear hI HI e3 c3
    go_wp2_with fail
    refine wp_region_held_drew (S := (fun w' => w'.cell? ⟨R, 3, none⟩ = some (.slice (some ⟨sb, 0, none⟩) m m))) (by kernel_rfl) ?_ (fun hHeld => ?_)
    ·exact c3'
    refine tk 0 (v := ?_) rfl ?_ ?_
    rotate_left
    ·(intro w hSw; (try dsimp only at hSw); go_simp; try with_reducible rfl)
    simp only [Act.put, AP]
    refine tk 1 (v := ?_) rfl ?_ ?_
    rotate_left
    ·(intro w hSw; (try dsimp only at hSw); go_simp; try with_reducible rfl)
    simp only [Act.put, AP]
    refine tk 2 (v := ?_) rfl ?_ ?_
    rotate_left
    ·(intro w hSw; (try dsimp only at hSw); go_simp; try with_reducible rfl)
    simp only [Act.put, AP]
    refine tk 3 (v := ?_) rfl ?_ ?_
    rotate_left
    ·(intro w hSw; (try dsimp only at hSw); go_simp; try with_reducible rfl)
    simp only [Act.put, AP]
    refine tk 4 (v := ?_) rfl ?_ ?_
    rotate_left
    ·(intro w hSw; (try dsimp only at hSw); go_simp; try with_reducible rfl)
    simp only [Act.put, AP]
    refine tk 5 (v := ?_) rfl ?_ ?_
    rotate_left
    ·(intro w hSw; (try dsimp only at hSw); go_simp; try with_reducible rfl)
    simp only [Act.put, AP]
    refine tk 6 (v := ?_) rfl ?_ ?_
    rotate_left
    ·(intro w hSw; (try dsimp only at hSw); go_simp; try with_reducible rfl)
    simp only [Act.put, AP]
    refine wpAnyH_ready (rs := [7]) (by kernel_rfl) (by simp) ?_
    refine AllReadyH.cons rfl (fun K hK => ?_) AllReadyH.nil
    simp only [AP]
    go_simp
    refine Calls.mono (H1 _).out ?_; rintro e w2 ⟨⟨b, cap, rfl, hA, hb⟩, ht2⟩
    go_wp2_with fail
    refine hK.out _ _ ?_ (fun hHeld => ?_)
    ·exact ht2.cell hHeld (by simp)
    clear hK K
    try simp only [Act.put, AP]
    refine tk 8 (v := ?_) rfl ?_ ?_
    rotate_left
    ·(intro w hSw; (try dsimp only at hSw); go_simp; try with_reducible rfl)
    simp only [Act.put, AP]
    have hN := HII.out.next hlt hA (by simpa using hb) (((Touch.refl [] wr).drew).trans ht2 (by simp))
    have hRA := HII.out.at_.touch (((Touch.refl [] wr).drew).trans ht2 (by simp)) (by simp)
    obtain ⟨q, hq⟩ : ∃ q, m - k = q + 1 := ⟨m - k - 1, by omega⟩
    obtain ⟨sb', hsb, hc⟩ := hRA.slot (j := k) (s := none) (by
     show (l.map some ++ List.replicate (m - k) none)[k]? = some none
     rw [List.getElem?_append_right (by simp [HII.out.len]), hq]
     simp [HII.out.len])
    obtain rfl : sb' = sb := by
     have : (some sb : Option Nat) = some sb' := hsb
     injection this with this
     exact this.symm
    have hfz : w2.frozen? ⟨sb', k, none⟩ = false := by
     have := hRA.row.2.2.2
     rw [hsb] at this
     obtain ⟨_, hB, _⟩ := this
     exact hB.frozen k
    have h3' : (w2.setCell ⟨sb', k, none⟩ (.slice (some ⟨b, 0, none⟩) 4 cap)).cell? ⟨R, 3, none⟩ = some (.slice (some ⟨sb', 0, none⟩) m m) := by
     have h1 := hN.at_.c3
     have e3 : slV (RX.arr R sb' wb m (l ++ [⟨b, cap, le4 (k : Int)⟩]) (m - (k + 1))).g (RX.arr R sb' wb m (l ++ [⟨b, cap, le4 (k : Int)⟩]) (m - (k + 1))).slots.length (RX.arr R sb' wb m (l ++ [⟨b, cap, le4 (k : Int)⟩]) (m - (k + 1))).scap = .slice (some ⟨sb', 0, none⟩) m m := by
      rw [arr_slots, List.length_append, HII.out.len, show k + [(⟨b, cap, le4 (k : Int)⟩ : KS)].length + (m - (k + 1)) = m by simp; omega]
      rfl
     rw [e3] at h1
     exact h1
    unfold slotV at hc
    have HN := toHid hN
    clear hN hRA hA hb hq hsb
    refine wpAnyH_ready (rs := [9]) (by kernel_rfl) (by simp) ?_
    refine AllReadyH.cons rfl (fun K hK => ?_) AllReadyH.nil
    simp only [AP]
    go_simp
    refine hK.out _ _ h3' (fun hHeld => ?_)
    clear hK K
    try simp only [Act.put, AP]
    refine wpAnyH_done (by kernel_rfl) ?_ _
    go_wp2
    go_roundw
    case rel => exact ⟨k + 1, by omega, by go_num, _, HN.out⟩
    case measure => simp [intOf]; omega
   ·obtain rfl : k = m := by omega
    go_wp2
    go_ret2
    obtain ⟨l, hI⟩ := HI.out
    exact ⟨R, sb, wb, l, rfl, hI⟩
end Go.Proofs.YtmhhahmjkopjhaaGreat
end
section
namespace Go.Proofs.YtmhhahmjkopjhaaGreat
open Go.RowKit
structure PGood (q : PX) : Prop where
 k0 : 0 ≤ q.kind
 k3 : q.kind ≤ 3
 s1 : 1 ≤ q.size
 s2 : q.size ≤ 16
 s3 : q.kind = 3 → 5 ≤ q.size
 m1 : 1 ≤ q.slots.length
 m2 : q.slots.length ≤ 64
 whens : q.whens.length = q.slots.length
 clock : 0 ≤ q.clock
 lens : ∀ bs, some bs ∈ q.slots → (bs.length : Int) = q.size
theorem PGood.up {x : RX} (h : PGood x.p) (hc : x.clock ≤ 1000000000) : RUp x := by
 have h1 := h.whens
 have h2 := h.m2
 have h3 := h.clock
 simp only [RX.p, List.length_map] at h1 h2 h3
 exact ⟨h1, h2, h3, hc⟩
theorem PGood.keys {x : RX} (h : PGood x.p) : ∀ k, some k ∈ x.slots → (k.bs.length : Int) = x.size := fun k hk => h.lens k.bs (List.mem_map.2 ⟨_, hk, rfl⟩)
theorem PGood.many {x : RX} (h : PGood x.p) : 1 ≤ x.slots.length := by
 have := h.m1
 simpa [RX.p] using this
theorem PGood.touch {q : PX} (h : PGood q) (a : Option Nat) : PGood (q.touch a) := by
 refine ⟨h.k0, h.k3, h.s1, h.s2, h.s3, h.m1, h.m2, ?_, by have := h.clock; show 0 ≤ q.clock + 1; omega, h.lens⟩
 cases a with
 | none => exact h.whens
 | some i => show (q.whens.set i _).length = _; rw [List.length_set]; exact h.whens
theorem PGood.laid {q : PX} (h : PGood q) (i : Nat) {bs : List Int} (hb : (bs.length : Int) = q.size) : PGood (q.laid i bs) := by
 refine ⟨h.k0, h.k3, h.s1, h.s2, h.s3, ?_, ?_, ?_, by have := h.clock; show 0 ≤ q.clock + 1; omega, fun b hbm => ?_⟩
 ·show 1 ≤ (q.slots.set i (some bs)).length
  rw [List.length_set]
  exact h.m1
 ·show (q.slots.set i (some bs)).length ≤ 64
  rw [List.length_set]
  exact h.m2
 ·show (q.whens.set i _).length = (q.slots.set i (some bs)).length
  rw [List.length_set, List.length_set]
  exact h.whens
 ·rcases List.mem_or_eq_of_mem_set hbm with hx | hx
  ·exact h.lens b hx
  ·injection hx with hx
   rw [hx]
   exact hb
theorem PGood.drop {q : PX} (h : PGood q) (i : Nat) : PGood { q with slots := q.slots.set i none } := by
 refine ⟨h.k0, h.k3, h.s1, h.s2, h.s3, ?_, ?_, ?_, h.clock, fun b hbm => ?_⟩
 ·show 1 ≤ (q.slots.set i none).length
  rw [List.length_set]
  exact h.m1
 ·show (q.slots.set i none).length ≤ 64
  rw [List.length_set]
  exact h.m2
 ·show q.whens.length = (q.slots.set i none).length
  rw [List.length_set]
  exact h.whens
 ·rcases List.mem_or_eq_of_mem_set hbm with hx | hx
  ·exact h.lens b hx
  ·cases hx
def PX.findA (q : PX) (bs : List Int) : Option Nat × PX := if q.kind = 3 then q.find3 bs else q.find bs
def PX.putA (q : PX) (bs : List Int) (fl : Int) : (Int × Bool × Int) × PX := if q.kind = 3 then q.put3 bs fl else q.put bs fl
def PX.delA (q : PX) (bs : List Int) : (Int × Int) × PX := if q.kind = 3 then q.del3 bs else q.del bs
structure PKept (q q' : PX) : Prop where
 kind : q'.kind = q.kind
 size : q'.size = q.size
 slots : q'.slots.length = q.slots.length
 clock0 : q.clock ≤ q'.clock
 clock1 : q'.clock ≤ q.clock + 1
theorem PKept.refl (q : PX) : PKept q q := ⟨rfl, rfl, rfl, Int.le_refl _, by omega⟩
theorem PKept.touch (q : PX) (a : Option Nat) : PKept q (q.touch a) := ⟨rfl, rfl, rfl, by show q.clock ≤ q.clock + 1; omega, by show q.clock + 1 ≤ q.clock + 1; omega⟩
theorem PKept.laid (q : PX) (i : Nat) (bs : List Int) : PKept q (q.laid i bs) := ⟨rfl, rfl, by show (q.slots.set i (some bs)).length = _; rw [List.length_set], by show q.clock ≤ q.clock + 1; omega, by show q.clock + 1 ≤ q.clock + 1; omega⟩
theorem PKept.drop (q : PX) (i : Nat) : PKept q { q with slots := q.slots.set i none } := ⟨rfl, rfl, by show (q.slots.set i none).length = _; rw [List.length_set], Int.le_refl _, by show q.clock ≤ q.clock + 1; omega⟩
theorem fits3_len {q : PX} {bs : List Int} (h : q.fits3 bs = true) : (bs.length : Int) = q.size := by
 unfold PX.fits3 at h
 simp at h
 exact h.1
theorem PGood.findA {q : PX} (h : PGood q) (bs : List Int) : PGood (q.findA bs).2 ∧ PKept q (q.findA bs).2 := by
 unfold PX.findA
 split
 ·unfold PX.find3
  split
  ·exact ⟨h.touch _, PKept.touch _ _⟩
  ·exact ⟨h, PKept.refl _⟩
 ·unfold PX.find
  split
  ·exact ⟨h.touch _, PKept.touch _ _⟩
  ·exact ⟨h, PKept.refl _⟩
theorem PGood.putA {q : PX} (h : PGood q) (bs : List Int) (fl : Int) : PGood (q.putA bs fl).2 ∧ PKept q (q.putA bs fl).2 := by
 have h0 : PGood q ∧ PKept q q := ⟨h, PKept.refl q⟩
 unfold PX.putA
 split
 ·rename_i hk3
  unfold PX.put3
  split
  ·rename_i hf
   have hb := fits3_len hf
   have hc : ((cutP bs).length : Int) = q.size := by
    have := h.s3 hk3
    rw [cutP_len (by omega)]
    exact hb
   split
   ·exact h0
   ·cases sameP q.slots (cutP bs) with
    | some i =>
     dsimp only
     split
     ·exact h0
     ·exact ⟨h.touch (some i), PKept.touch q (some i)⟩
    | none =>
     dsimp only
     split
     ·exact h0
     ·cases freeP q.slots with
      | some f => exact ⟨h.laid f hc, PKept.laid _ _ _⟩
      | none => exact h0
  ·exact h0
 ·unfold PX.put
  split
  ·rename_i hb
   split
   ·exact h0
   ·cases sameP q.slots bs with
    | some i =>
     dsimp only
     split
     ·exact h0
     ·exact ⟨h.touch (some i), PKept.touch q (some i)⟩
    | none =>
     dsimp only
     split
     ·exact h0
     ·split
      ·exact h0
      ·cases q.room with
       | some f => exact ⟨h.laid f hb, PKept.laid _ _ _⟩
       | none => exact h0
  ·exact h0
theorem PGood.delA {q : PX} (h : PGood q) (bs : List Int) : PGood (q.delA bs).2 ∧ PKept q (q.delA bs).2 := by
 have h0 : PGood q ∧ PKept q q := ⟨h, PKept.refl q⟩
 unfold PX.delA
 split
 ·unfold PX.del3
  split
  ·cases sameP q.slots (cutP bs) with
   | some i => exact ⟨h.drop i, PKept.drop _ _⟩
   | none => exact h0
  ·exact h0
 ·unfold PX.del
  split
  ·exact h0
  ·split
   ·cases sameP q.slots bs with
    | some i => exact ⟨h.drop i, PKept.drop _ _⟩
    | none => exact h0
   ·exact h0
theorem rfindA_any {w : World} {x : RX} (h : RAt w x) (g : PGood x.p) (hc : x.clock ≤ 1000000000) {sa : Option Addr} {sl : Nat} {bs : List Int} (hk : KeyAt w sa sl bs) (sc : Nat) (hsc : sl ≤ sc) :
  Calls Tryz.prog 60 #[.pointer (some ⟨x.r, 0, none⟩), .slice sa sl sc] w (FindPost w x (x.p.findA bs)) := by
 unfold PX.findA
 by_cases e : x.kind = 3
 ·rw [if_pos (show x.p.kind = 3 from e)]
  exact rfind3_any h (g.up hc) e (g.s3 e) g.s2 g.keys hk sc hsc
 ·rw [if_neg (show ¬ x.p.kind = 3 from e)]
  exact rfindP_any h (g.up hc) e hk sc
theorem rputA_any {w : World} {x : RX} (h : RAt w x) (g : PGood x.p) (hc : x.clock ≤ 1000000000) {sa : Option Addr} {sl : Nat} {bs : List Int} (hk : KeyAt w sa sl bs) (hout : ∀ b, b < w.heap.size → b ∈ x.blocks → ∀ off, sa ≠ some ⟨b, off, none⟩) (sc : Nat) (hsc : sl ≤ sc) (fl : Int) (f0 : 0 ≤ fl) :
  Calls Tryz.prog 61 #[.pointer (some ⟨x.r, 0, none⟩), .slice sa sl sc, .int .u64 fl] w (PutPost w x (x.p.putA bs fl)) := by
 unfold PX.putA
 by_cases e : x.kind = 3
 ·rw [if_pos (show x.p.kind = 3 from e)]
  exact rput3_any h (g.up hc) e (g.s3 e) g.s2 g.many hk hout sc hsc fl f0
 ·rw [if_neg (show ¬ x.p.kind = 3 from e)]
  exact rput_any h (g.up hc) e g.s1 g.s2 g.many hk sc fl f0
theorem rdelA_any {w : World} {x : RX} (h : RAt w x) (g : PGood x.p) (hc : x.clock ≤ 1000000000) {sa : Option Addr} {sl : Nat} {bs : List Int} (hk : KeyAt w sa sl bs) (sc : Nat) (hsc : sl ≤ sc) :
  Calls Tryz.prog 63 #[.pointer (some ⟨x.r, 0, none⟩), .slice sa sl sc] w (DelPost w x (x.p.delA bs)) := by
 unfold PX.delA
 by_cases e : x.kind = 3
 ·rw [if_pos (show x.p.kind = 3 from e)]
  exact rdel3_any h (g.up hc) e (g.s3 e) g.s2 hk sc hsc
 ·rw [if_neg (show ¬ x.p.kind = 3 from e)]
  exact rdel_any h (g.up hc) e hk sc
def newOk (kind size m : Int) : Prop := 1 ≤ m ∧ m ≤ 64 ∧ (if kind = 0 then 4 else if kind = 3 then 5 else 1) ≤ size ∧ size ≤ (if kind = 0 then 4 else 16)
def PX.new (kind size : Int) (m : Nat) : PX := ⟨kind, size, m, 0, if kind = 0 then (allKeys m).map some else List.replicate m none, List.replicate m 0⟩
theorem allKeys_len (m : Nat) : (allKeys m).length = m := by simp [allKeys]
theorem PGood.new {kind size : Int} {m : Nat} (k0 : 0 ≤ kind) (k3 : kind ≤ 3) (h : newOk kind size m) : PGood (PX.new kind size m) := by
 unfold newOk at h
 obtain ⟨h1, h2, h3, h4⟩ := h
 have hl : (PX.new kind size m).slots.length = m := by
  unfold PX.new
  dsimp only
  split
  ·rw [List.length_map, allKeys_len]
  ·simp
 refine ⟨k0, k3, ?_, ?_, fun e => ?_, by omega, by omega, by rw [hl]; simp [PX.new], Int.le_refl _, fun bs hbs => ?_⟩
 ·show 1 ≤ size
  split at h3
  ·omega
  ·split at h3 <;> omega
 ·show size ≤ 16
  split at h4 <;> omega
 ·show 5 ≤ size
  have e : kind = 3 := e
  rw [if_neg (by omega), if_pos e] at h3
  exact h3
 ·show (bs.length : Int) = size
  unfold PX.new at hbs
  dsimp only at hbs
  split at hbs
  ·rename_i e
   rw [if_pos e] at h3 h4
   obtain ⟨b, hb, he⟩ := List.mem_map.1 hbs
   injection he with he
   subst he
   obtain ⟨i, _, rfl⟩ := List.mem_map.1 hb
   rw [le4_len]
   omega
  ·simp at hbs
def NewAPost (w : World) (kind size : Int) (m : Nat) (e : Ending) (w' : World) : Prop := ∃ x : RX, e = .returned (.tuple #[.pointer (some ⟨x.r, 0, none⟩), .bool true]) ∧ RAt w' x ∧ x.p = PX.new kind size m ∧ (∀ b ∈ x.blocks, w.heap.size ≤ b) ∧ Touch [] w w'
theorem rnewA_any (w : World) (kind size : Int) (m : Nat) (h : newOk kind size m) :
  Calls Tryz.prog 50 #[.int .i64 kind, .int .i64 size, .int .i64 (m : Int)] w (NewAPost w kind size m) := by
 unfold newOk at h
 obtain ⟨h1, h2, h3, h4⟩ := h
 by_cases e0 : kind = 0
 ·subst e0
  rw [if_pos rfl] at h3 h4
  obtain rfl : size = 4 := by omega
  refine (rnew_any w m (by omega) (by omega)).mono ?_
  rintro e w' ⟨R, sb, wb, l, rfl, hN⟩
  refine ⟨_, rfl, hN.at_, ?_, hN.own, hN.touch⟩
  have he := hN.eq
  rw [Nat.sub_self]
  unfold RX.p RX.arr PX.new
  rw [if_pos rfl, ← he]
  simp
 ·rw [if_neg e0] at h3 h4
  by_cases e3 : kind = 3
  ·subst e3
   rw [if_pos rfl] at h3
   refine (rnew3_any w size m h3 h4 (by omega) (by omega)).mono ?_
   rintro e w' ⟨R, sb, wb, rfl, hN⟩
   refine ⟨_, rfl, hN.at_, ?_, hN.own, hN.touch⟩
   simp [RX.p, RX.fresh, PX.new]
  ·rw [if_neg e3] at h3
   refine (rnewK_any w kind size m e0 e3 h3 h4 (by omega) (by omega)).mono ?_
   rintro e w' ⟨R, sb, wb, rfl, hN⟩
   refine ⟨_, rfl, hN.at_, ?_, hN.own, hN.touch⟩
   simp [RX.p, RX.fresh, PX.new, e0]
theorem rnew0_bad (w : World) (size m : Int) (h1 : ¬ (1 ≤ m ∧ m ≤ 64 ∧ size = 4)) : Calls Tryz.prog 50 #[.int .i64 0, .int .i64 size, .int .i64 m] w fun e w' => e = .returned (.tuple #[.pointer none, .bool false]) ∧ w' = w := by
 by_cases a1 : m < 1
 ·clear h1
  go_enter Tryz.func50, Tryz.ntmps50
  go_wp2
  go_ret2
  exact ⟨rfl, rfl⟩
 ·by_cases a2 : 64 < m
  ·clear h1
   go_enter Tryz.func50, Tryz.ntmps50
   go_wp2
   go_ret2
   exact ⟨rfl, rfl⟩
  ·by_cases a3 : size < 4
   ·clear h1
    go_enter Tryz.func50, Tryz.ntmps50
    go_wp2
    go_ret2
    exact ⟨rfl, rfl⟩
   ·have a4 : 4 < size := by omega
    clear h1
    go_enter Tryz.func50, Tryz.ntmps50
    go_wp2
    go_ret2
    exact ⟨rfl, rfl⟩
theorem rnewA_bad (w : World) (kind size m : Int) (h : ¬ newOk kind size m) : Calls Tryz.prog 50 #[.int .i64 kind, .int .i64 size, .int .i64 m] w fun e w' => e = .returned (.tuple #[.pointer none, .bool false]) ∧ w' = w := by
 unfold newOk at h
 by_cases e0 : kind = 0
 ·subst e0
  rw [if_pos rfl, if_pos rfl] at h
  exact rnew0_bad w size m (by omega)
 ·rw [if_neg e0, if_neg e0] at h
  by_cases e3 : kind = 3
  ·subst e3
   rw [if_pos rfl] at h
   exact rnew3_bad w size m (by omega)
  ·rw [if_neg e3] at h
   exact rnewK_bad w kind size m e0 e3 (by omega)
end Go.Proofs.YtmhhahmjkopjhaaGreat
end
section
namespace Go.Proofs.YtmhhahmjkopjhaaGreat.Arr
open Go.RowKit
theorem or_place (a x : Int) (k : Nat) (hk : k ≤ 3) (ha0 : 0 ≤ a) (ha1 : a < 256 ^ k) (hx0 : 0 ≤ x) (hx1 : x ≤ 255) :
  bits .or .u32 a (x * 2 ^ (8 * k) % 4294967296) = a + x * 256 ^ k := by
 obtain ⟨A, rfl⟩ := Int.eq_ofNat_of_zero_le ha0
 obtain ⟨X, rfl⟩ := Int.eq_ofNat_of_zero_le hx0
 have hp : (2 : Int) ^ (8 * k) = 256 ^ k := by rw [Int.pow_mul]; rfl
 have hA : A < 2 ^ (8 * k) := by
  have : ((A : Nat) : Int) < ((2 ^ (8 * k) : Nat) : Int) := by rw [Int.natCast_pow]; show (A : Int) < (2 : Int) ^ (8 * k); rw [hp]; exact ha1
  omega
 have hle : (2 : Nat) ^ (8 * k) ≤ 2 ^ 24 := Nat.pow_le_pow_right (by omega) (by omega)
 have hX : 2 ^ (8 * k) * X < 4294967296 := by
  have : 2 ^ (8 * k) * X ≤ 2 ^ 24 * 255 := Nat.mul_le_mul hle (by omega)
  omega
 have hc : (X : Int) * 2 ^ (8 * k) = ((2 ^ (8 * k) * X : Nat) : Int) := by rw [Int.natCast_mul, Int.natCast_pow, Int.mul_comm]; rfl
 rw [← hp, hc, Int.emod_eq_of_lt (by omega) (by omega), u32_or_nat A _ (by omega) hX, Nat.or_comm, ← Nat.two_pow_add_eq_or_of_lt hA]
 omega
theorem number_any (b off c : Nat) (bs : Nat → Int) (w : World)
  (hc : ∀ j, j < 4 → w.cell? ⟨b, off + j, none⟩ = some (.int .u8 (bs j))) (hb : ∀ j, j < 4 → 0 ≤ bs j ∧ bs j ≤ 255) :
  Calls Tryz.prog 123 #[.slice (some ⟨b, off, none⟩) 4 c] w fun e w' => e = .returned (.int .u32 (num bs 4)) ∧ w' = w := by
 have HC := toHid hc
 have HB := toHid hb
 clear hc hb
 go_enter Tryz.func123, Tryz.ntmps123
 go_wp2
 go_loop [3, 5] (fun v t => ∃ k : Nat, k ≤ 4 ∧ t = .int .i64 k ∧ v = .int .u32 (num bs k)) (fun _ t => 4 - (intOf t).toNat)
 case atStart => exact ⟨0, by omega, rfl, rfl⟩
 case round =>
  obtain ⟨k, hk, rfl, rfl⟩ := hrel
  by_cases hlt : k < 4
  ·have c1 := HC.out k hlt
   have c2 := HB.out k hlt
   go_wp2
   refine ⟨⟨k + 1, by omega, by go_num, ?_⟩, by simp [intOf]; omega⟩
   have h1 := num_bd bs k (fun j hj => HB.out j (by omega))
   rw [or_place _ _ k (by omega) h1.1 h1.2 c2.1 c2.2]
   rfl
  ·have hkn : k = 4 := by omega
   subst hkn
   go_wp2
   go_ret
   exact ⟨rfl, rfl⟩
def IdxAt (w : World) (x m : Nat) : Prop := Blk w x [.int .u32 (m : Int)] 178 ∧ 1 ≤ m ∧ m ≤ 64
theorem IdxAt.touch {S : List Nat} {w w' : World} {x m : Nat} (h : IdxAt w x m) (ht : Touch S w w') (hx : x ∉ S) : IdxAt w' x m := ⟨ht.blk h.1 hx, h.2⟩
def slotI (m n : Int) : Int × Bool := if n < m then (n, true) else (0, false)
theorem slot_any (x m : Nat) (n : Int) (w : World) (h : IdxAt w x m) (h0 : 0 ≤ n) (h1 : n ≤ 4294967295) :
  Calls Tryz.prog 122 #[.pointer (some ⟨x, 0, none⟩), .int .u32 n] w fun e w' => e = .returned (.tuple #[.int .i64 (slotI m n).1, .bool (slotI m n).2]) ∧ w' = w := by
 have c0 : w.cell? ⟨x, 0, none⟩ = some (.int .u32 (m : Int)) := h.1.cell rfl
 have hm := h.2
 have w1 : IntKind.i64.wrap n = n := by rw [IntKind.wrap_i64]; omega
 clear h
 by_cases hlt : n < m
 ·rw [show slotI m n = (n, true) from if_pos hlt]
  have hd : ¬ (m : Int) ≤ n := by omega
  go_enter Tryz.func122, Tryz.ntmps122
  go_wp2
  go_ret2
  exact ⟨rfl, rfl⟩
 ·rw [show slotI m n = (0, false) from if_neg hlt]
  have hd : (m : Int) ≤ n := by omega
  go_enter Tryz.func122, Tryz.ntmps122
  go_wp2
  go_ret2
  exact ⟨rfl, rfl⟩
def findI (m : Int) (bs : List Int) : Int × Bool := if bs.length = 4 then slotI m (keyNum bs) else (0, false)
def putI (m : Int) (bs : List Int) (fl : Int) : Int × Int :=
 if bs.length = 4 then (if 2 < fl then (0, 72) else if keyNum bs < m then (if fl = 1 then (0, 70) else (keyNum bs, 0)) else (0, 71)) else (0, 2)
theorem _root_.Go.Proofs.YtmhhahmjkopjhaaGreat.KeyAt.number {w : World} {sa : Option Addr} {bs : List Int} {sl : Nat} (h : KeyAt w sa sl bs) (h4 : bs.length = 4) (c : Nat) : Calls Tryz.prog 123 #[.slice sa 4 c] w fun e w' => e = .returned (.int .u32 (keyNum bs)) ∧ w' = w := by
 obtain ⟨b, off, rfl, hc⟩ := h.2.2.2 (by omega)
 exact number_any b off c _ w (fun j hj => hc j (by omega)) (fun j _ => getD_bd h.2.1 j)
theorem find_any {w : World} {x m : Nat} (h : IdxAt w x m) {sa : Option Addr} {sl : Nat} {bs : List Int} (hk : KeyAt w sa sl bs) (sc : Nat) :
  Calls Tryz.prog 119 #[.pointer (some ⟨x, 0, none⟩), .slice sa sl sc] w fun e w' => e = .returned (.tuple #[.int .i64 (findI m bs).1, .bool (findI m bs).2]) ∧ w' = w := by
 have hl := hk.1
 have hb := hk.2.2.1
 by_cases h4 : bs.length = 4
 ·obtain rfl : sl = 4 := by omega
  have H1 := toHid (hk.number h4 sc)
  have H2 := toHid (slot_any x m (keyNum bs) w h hk.num4.1 hk.num4.2)
  rw [show findI m bs = slotI m (keyNum bs) from if_pos h4]
  generalize slotI m (keyNum bs) = p at *
  clear h hk hl hb h4
  go_enter Tryz.func119, Tryz.ntmps119
  go_wp2_with fail
  refine Calls.mono H1.out ?_
  rintro e w ⟨rfl, rfl⟩
  go_wp2_with fail
  refine Calls.mono H2.out ?_
  rintro e w ⟨rfl, rfl⟩
  go_wp2
  go_ret2
  exact ⟨rfl, rfl⟩
 ·have hs : ((sl : Int) != 4) = true := by simp; omega
  rw [show findI m bs = (0, false) from if_neg h4]
  clear h hk hl h4
  go_enter Tryz.func119, Tryz.ntmps119
  go_wp2
  go_ret2
  exact ⟨rfl, rfl⟩
theorem put_any {w : World} {x m : Nat} (h : IdxAt w x m) {sa : Option Addr} {sl : Nat} {bs : List Int} (hk : KeyAt w sa sl bs) (sc : Nat) (fl : Int) (f0 : 0 ≤ fl) :
  Calls Tryz.prog 121 #[.pointer (some ⟨x, 0, none⟩), .slice sa sl sc, .int .u64 fl] w fun e w' => e = .returned (.tuple #[.int .i64 (putI m bs fl).1, .bool false, .int .i64 (putI m bs fl).2]) ∧ w' = w := by
 have hl := hk.1
 have hb := hk.2.2.1
 by_cases h4 : bs.length = 4
 ·obtain rfl : sl = 4 := by omega
  unfold putI
  rw [if_pos h4]
  by_cases hf : 2 < fl
  ·rw [if_pos hf]
   clear h hk hl hb h4
   go_enter Tryz.func121, Tryz.ntmps121
   go_wp2
   go_ret3
   exact ⟨rfl, rfl⟩
  ·rw [if_neg hf]
   have H1 := toHid (hk.number h4 sc)
   have H2 := toHid (slot_any x m (keyNum bs) w h hk.num4.1 hk.num4.2)
   unfold slotI at H2
   by_cases hm : keyNum bs < m
   ·rw [if_pos hm]
    rw [if_pos hm] at H2
    generalize keyNum bs = p at *
    clear h hk hl hb h4
    by_cases h1 : fl = 1
    ·subst h1
     rw [if_pos rfl]
     go_enter Tryz.func121, Tryz.ntmps121
     go_wp2_with fail
     refine Calls.mono H1.out ?_
     rintro e w ⟨rfl, rfl⟩
     go_wp2_with fail
     refine Calls.mono H2.out ?_
     rintro e w ⟨rfl, rfl⟩
     go_wp2
     go_ret3
     exact ⟨rfl, rfl⟩
    ·rw [if_neg h1]
     go_enter Tryz.func121, Tryz.ntmps121
     go_wp2_with fail
     refine Calls.mono H1.out ?_
     rintro e w ⟨rfl, rfl⟩
     go_wp2_with fail
     refine Calls.mono H2.out ?_
     rintro e w ⟨rfl, rfl⟩
     go_wp2
     go_ret3
     exact ⟨rfl, rfl⟩
   ·rw [if_neg hm]
    rw [if_neg hm] at H2
    generalize keyNum bs = p at *
    clear h hk hl hb h4
    go_enter Tryz.func121, Tryz.ntmps121
    go_wp2_with fail
    refine Calls.mono H1.out ?_
    rintro e w ⟨rfl, rfl⟩
    go_wp2_with fail
    refine Calls.mono H2.out ?_
    rintro e w ⟨rfl, rfl⟩
    go_wp2
    go_ret3
    exact ⟨rfl, rfl⟩
 ·have hs : ((sl : Int) != 4) = true := by simp; omega
  rw [show putI m bs fl = (0, 2) from if_neg h4]
  clear h hk hl h4
  go_enter Tryz.func121, Tryz.ntmps121
  go_wp2
  go_ret3
  exact ⟨rfl, rfl⟩
theorem del_any (w : World) (x : Nat) (sa : Option Addr) (sl sc : Nat) :
  Calls Tryz.prog 118 #[.pointer (some ⟨x, 0, none⟩), .slice sa sl sc] w fun e w' => e = .returned (.tuple #[.int .i64 0, .int .i64 2]) ∧ w' = w := by
 go_enter Tryz.func118, Tryz.ntmps118
 go_wp2
 go_ret2
 exact ⟨rfl, rfl⟩
theorem copy_any {w : World} {x m : Nat} (h : IdxAt w x m) : Calls Tryz.prog 68 #[.pointer (some ⟨x, 0, none⟩)] w fun e w' => e = .returned (.pointer (some ⟨w.heap.size, 0, none⟩)) ∧ IdxAt w' w.heap.size m ∧ Touch [] w w' := by
 have c0 : w.cell? ⟨x, 0, none⟩ = some (.int .u32 (m : Int)) := h.1.cell rfl
 have HH := toHid h.2
 clear h
 go_enter Tryz.func68, Tryz.ntmps68
 go_wp2
 go_ret
 exact ⟨rfl, ⟨Blk.newA w #[.int .u32 (m : Int)] _ 178 rfl, HH.out⟩, (Touch.refl _ w).alloc _⟩
theorem new_any (w : World) (m : Nat) (h1 : 1 ≤ m) (h2 : m ≤ 64) : Calls Tryz.prog 73 #[.int .i64 (m : Int)] w fun e w' => e = .returned (.tuple #[.pointer (some ⟨w.heap.size, 0, none⟩), .int .i64 0]) ∧ IdxAt w' w.heap.size m ∧ Touch [] w w' := by
 have w1 : IntKind.u32.wrap (m : Int) = m := by rw [IntKind.wrap_u32]; omega
 go_enter Tryz.func73, Tryz.ntmps73
 go_wp2
 go_ret2
 exact ⟨rfl, ⟨Blk.newA w #[.int .u32 (m : Int)] _ 178 rfl, h1, h2⟩, (Touch.refl _ w).alloc _⟩
theorem new_bad (w : World) (m : Int) (h1 : ¬ (1 ≤ m ∧ m ≤ 64)) : Calls Tryz.prog 73 #[.int .i64 m] w fun e w' => e = .returned (.tuple #[.pointer none, .int .i64 2]) ∧ w' = w := by
 by_cases h : m < 1
 ·go_enter Tryz.func73, Tryz.ntmps73
  go_wp2
  go_ret2
  exact ⟨rfl, rfl⟩
 ·have h2 : 64 < m := by omega
  go_enter Tryz.func73, Tryz.ntmps73
  go_wp2
  go_ret2
  exact ⟨rfl, rfl⟩
end Go.Proofs.YtmhhahmjkopjhaaGreat.Arr
end
section
namespace Go.Proofs.YtmhhahmjkopjhaaGreat.Arr
open Go.RowKit
def spreadTo (v : Int) (k : Nat) : List Value := (List.range 4).map (fun j => if j < k then .int .u8 (byteOf v j) else .int .u8 0)
theorem spread_set (v : Int) (k : Nat) (_hk : k < 4) : (spreadTo v k).set k (.int .u8 (byteOf v k)) = spreadTo v (k + 1) := by
 apply List.ext_getElem
 ·simp [spreadTo]
 ·intro j h1 h2
  rw [List.getElem_set]
  simp only [spreadTo, List.getElem_map, List.getElem_range]
  by_cases e : k = j
  ·subst e
   simp
  ·rw [if_neg e]
   by_cases h : j < k
   ·rw [if_pos h, if_pos (by omega)]
   ·rw [if_neg h, if_neg (by omega)]
theorem spread_all (v : Int) : spreadTo v 4 = (le4 v).map (Value.int .u8) := rfl
theorem spread_any (v : Int) (w : World) (_hv0 : 0 ≤ v) :
  Calls Tryz.prog 124 #[.int .u32 v] w fun e w' => e = .returned (.slice (some ⟨w.heap.size, 0, none⟩) 4 4) ∧ Blk w' w.heap.size ((le4 v).map (Value.int .u8)) 5 ∧ Touch [] w w' := by
 have hmk : ∀ w : World, (Instr.makeSlice 39 (.int .i64 4) (.int .i64 4)).run Tryz.prog w = .ok (.slice (some ⟨w.heap.size, 0, none⟩) 4 4) (w.alloc (.cells #[.int .u8 0, .int .u8 0, .int .u8 0, .int .u8 0] 5)) := fun w => by
  simpa using run_make_blk (P := Tryz.prog) Tryz.underlying39 info5 rfl 4 (by omega) (by omega) .i64 w
 have HZ := toHid (show Blk (w.alloc (.cells #[Value.int .u8 0, Value.int .u8 0, Value.int .u8 0, Value.int .u8 0] 5)) w.heap.size (spreadTo v 0) 5 from Blk.newA w _ _ 5 rfl)
 have HT := toHid ((Touch.refl [] w).alloc (.cells #[Value.int .u8 0, Value.int .u8 0, Value.int .u8 0, Value.int .u8 0] 5))
 go_enter Tryz.func124, Tryz.ntmps124
 go_wp2_with fail
 clear hmk
 generalize hN : w.heap.size = N at *
 go_loopw [8] (fun t w' => ∃ k : Nat, k ≤ 4 ∧ t = .int .i64 k ∧ Hid (Blk w' N (spreadTo v k) 5 ∧ Touch [] w w')) (fun t _ => 4 - (intOf t).toNat)
 case atStart => exact ⟨0, by omega, rfl, HZ.out, HT.out⟩
 case round =>
  clear HZ HT
  obtain ⟨k, hk, rfl, HI⟩ := hrel
  by_cases hlt : k < 4
  ·have c1 := HI.out.1.cellN (i := k) (by simpa [spreadTo] using hlt)
   have f1 := HI.out.1.frozen k
   have HB := toHid (byte_shift v k)
   go_wp2
   rw [HB.out]
   refine ⟨⟨k + 1, by omega, by go_num, ?_, ?_⟩, by simp [intOf]; omega⟩
   ·rw [← spread_set v k hlt]
    exact HI.out.1.setCell k _
   ·exact HI.out.2.setCell _ _ (Or.inr (by show w.heap.size ≤ N; omega))
  ·obtain rfl : k = 4 := by omega
   go_wp2
   go_ret
   subst hN
   exact ⟨rfl, HI.out.1, HI.out.2⟩
structure Filled (w w' : World) (N m k : Nat) (l : List KS) : Prop where
 blk : Blk w' N (l.map KS.v ++ List.replicate (m - k) (.slice none 0 0)) 39
 len : l.length = k
 eq : l.map KS.bs = allKeys k
 keys : ∀ x ∈ l, x.At w' ∧ N < x.b
 touch : Touch [] w w'
theorem set_next (l : List KS) (n : Nat) (v : Value) : (l.map KS.v ++ List.replicate (n + 1) (Value.slice none 0 0)).set l.length v = l.map KS.v ++ v :: List.replicate n (.slice none 0 0) := by
 rw [List.set_append_right _ _ (by simp)]
 simp [List.replicate_succ]
theorem keys_any {w : World} {x m : Nat} (h : IdxAt w x m) : Calls Tryz.prog 120 #[.pointer (some ⟨x, 0, none⟩)] w fun e w' => (∃ v, e = .returned v ∧ KL w w' v (allKeys m)) ∧ Touch [] w w' := by
 have c0 : w.cell? ⟨x, 0, none⟩ = some (.int .u32 (m : Int)) := h.1.cell rfl
 have hm := h.2
 have hmk := run_make_blk (P := Tryz.prog) Tryz.underlying105 info32 rfl m (by omega) (by omega) .u32
 have c1 := ((Touch.refl [] w).alloc (.cells (Array.replicate m (Value.slice none 0 0)) 39)).cell c0 (by simp)
 have HZ : Hid (Filled w (w.alloc (.cells (Array.replicate m (Value.slice none 0 0)) 39)) w.heap.size m 0 []) := toHid ⟨Blk.newA w _ _ 39 (by simp), rfl, rfl, fun x hx => absurd hx (by simp), (Touch.refl [] w).alloc _⟩
 clear h
 go_enter Tryz.func120, Tryz.ntmps120
 go_wp2_with fail
 clear hmk c0 c1
 generalize hN : w.heap.size = N at *
 generalize w.alloc _ = w1 at *
 go_loopw [16] (fun t w' => ∃ k : Nat, k ≤ m ∧ t = .int .u32 k ∧ Hid (∃ l, Filled w w' N m k l)) (fun t _ => m - (intOf t).toNat)
 case atStart => exact ⟨0, by omega, rfl, _, HZ.out⟩
 case round =>
  clear HZ
  obtain ⟨k, hk, rfl, HI⟩ := hrel
  obtain ⟨l, hI⟩ := HI.out
  by_cases hlt : k < m
  ·have H1 := toHid (spread_any (k : Int) wr (by omega))
   have HII := toHid hI
   clear hI HI
   go_wp2_with fail
   refine Calls.mono H1.out ?_
   rintro e w3 ⟨rfl, hB, ht⟩
   have hbl := ht.blk HII.out.blk (by simp)
   obtain ⟨q, hq⟩ : ∃ q, m - k = q + 1 := ⟨m - k - 1, by omega⟩
   rw [hq] at hbl
   have hlen := HII.out.len
   have hc := hbl.cell (i := k) (v := .slice none 0 0) (by rw [List.getElem?_append_right (by simp; omega)]; simp [hlen])
   have hfz := hbl.frozen k
   have hsz := HII.out.blk.lt
   have HN : Hid (Filled w (w3.setCell ⟨N, k, none⟩ (.slice (some ⟨wr.heap.size, 0, none⟩) 4 4)) N m (k + 1) (l ++ [⟨wr.heap.size, 4, le4 k⟩])) := by
    have hts : Touch [N] w3 (w3.setCell ⟨N, k, none⟩ (.slice (some ⟨wr.heap.size, 0, none⟩) 4 4)) := (Touch.refl _ _).setCell _ _ (Or.inl (by simp))
    refine ⟨?_, by simp [hlen], ?_, fun y hy => ?_, ?_⟩
    ·have := hbl.setCell k (.slice (some ⟨wr.heap.size, 0, none⟩) 4 4)
     rw [← hlen, set_next] at this
     rw [show m - (k + 1) = q by omega, List.map_append, List.map_singleton, List.append_assoc]
     rw [← hlen] at *
     exact this
    ·rw [List.map_append, HII.out.eq, allKeys, allKeys, List.range_succ, List.map_append]
     rfl
    ·rcases List.mem_append.1 hy with hy | hy
     ·have := HII.out.keys y hy
      exact ⟨(this.1.touch ht (by simp)).touch hts (by simp; omega), this.2⟩
     ·simp only [List.mem_singleton] at hy
      subst hy
      refine ⟨⟨⟨[], ?_⟩, le4_bd _, by rw [le4_len]; omega, by rw [le4_len]; omega, Nat.le_refl 4⟩, hsz⟩
      rw [List.append_nil]
      exact (hB.setCell_other _ _ (by show wr.heap.size ≠ N; omega)).toF
    ·exact (HII.out.touch.trans ht (by simp)).setCell _ _ (Or.inr (by show w.heap.size ≤ N; omega))
   clear hB ht hbl hq hlen hsz HII H1
   go_wp2
   go_roundw
   case rel => exact ⟨k + 1, by omega, by go_num, _, HN.out⟩
   case measure => simp [intOf]; omega
  ·obtain rfl : k = m := by omega
   have HII := toHid hI
   clear hI HI
   go_wp2
   go_ret
   refine ⟨⟨_, rfl, some N, k, l, by rw [HII.out.len]; rfl, ⟨⟨by simp, by rw [HII.out.len]; omega, by unfold maxLen; omega, _, HII.out.blk, by simp [HII.out.len]⟩, fun b hb => by injection hb with hb; omega, fun y hy => ?_⟩, HII.out.eq⟩, HII.out.touch⟩
   have := HII.out.keys y hy
   exact ⟨this.1, by omega, fun e => by injection e with e; omega⟩
end Go.Proofs.YtmhhahmjkopjhaaGreat.Arr
end
section
namespace Go.Proofs.YtmhhahmjkopjhaaGreat
open Go.RowKit Go.Maps
theorem law9 : Keyed Tryz.prog 9 := string_keyed Tryz.underlying9
theorem zero3 (w : World) : (zeroValue 3).run Tryz.prog w = .ok (.int .i64 0) w := by kernel_rfl
def lk (bs : List Int) : Lit := .string (strOfNums bs).data.toList
theorem lk_inj {a b : List Int} (ha : ∀ x ∈ a, 0 ≤ x ∧ x ≤ 255) (hb : ∀ x ∈ b, 0 ≤ x ∧ x ≤ 255) (h : lk a = lk b) : a = b := by
 refine str_inj ha hb ?_
 unfold lk at h
 injection h with h
 exact ByteArray.ext (Array.toList_inj.1 h)
theorem lk_key {bs : List Int} (h : bs.length ≤ 16) : keyOf Tryz.prog 9 (.string (strOfNums bs)) = some (lk bs) :=
 WideMaps.keyOf_string_mk Tryz.underlying9 (by rw [strOfNums_size]; unfold maxLen; omega)
theorem lk_isKey (bs : List Int) : WideAt.IsKeyLit (lk bs) := trivial
theorem Touch.of_grown {w w' : World} {b : Nat} (h : w.grownBy w' (some b)) : Touch [b] w w' :=
 ⟨h.os, h.tape, h.output, h.size, fun k hk hn => h.block k hk (fun e => hn (by cases e; simp))⟩
theorem Touch.of_grown0 {w w' : World} (h : w.grownBy w' none) : Touch [] w w' :=
 ⟨h.os, h.tape, h.output, h.size, fun k hk _ => h.block k hk (by simp)⟩
structure Says (D : DataW Unit) (l : List (Option (List Int))) : Prop where
 has : ∀ kl, Maps.has D kl = true → ∃ (i : Nat) (bs : List Int), l[i]? = some (some bs) ∧ kl = lk bs
 at_ : ∀ (i : Nat) (bs : List Int), l[i]? = some (some bs) → ∀ z, D.atKey (lk bs) z = .lit (.int .i64 i)
 size : Maps.size D = (l.filterMap id).length
theorem Says.once {D : DataW Unit} {l : List (Option (List Int))} (h : Says D l) {i j : Nat} {bs : List Int} (hi : l[i]? = some (some bs)) (hj : l[j]? = some (some bs)) : i = j := by
 have h1 := h.at_ i bs hi .nil
 rw [h.at_ j bs hj .nil] at h1
 injection h1 with h1
 injection h1 with _ h1
 omega
def KeysOk (size : Nat) (l : List (Option (List Int))) : Prop := ∀ bs, some bs ∈ l → (∀ x ∈ bs, 0 ≤ x ∧ x ≤ 255) ∧ bs.length = size
theorem same_get {l : List (Option (List Int))} {bs : List Int} {i : Nat} (h : sameP l bs = some i) : l[i]? = some (some bs) := by
 unfold sameP at h
 rw [List.findIdx?_eq_some_iff_getElem] at h
 obtain ⟨hi, h1, _⟩ := h
 rw [List.getElem?_eq_getElem hi]
 simpa using h1
theorem same_not {l : List (Option (List Int))} {bs : List Int} (h : sameP l bs = none) (i : Nat) : l[i]? ≠ some (some bs) := by
 unfold sameP at h
 rw [List.findIdx?_eq_none_iff] at h
 intro e
 have := h _ (List.mem_of_getElem? e)
 simp at this
theorem held_put {l : List (Option (List Int))} {i : Nat} (bs : List Int) (h : l[i]? = some none) : ((l.set i (some bs)).filterMap id).length = (l.filterMap id).length + 1 := by
 induction l generalizing i with
 | nil => simp at h
 | cons a l ih =>
  cases i with
  | zero =>
   simp only [List.getElem?_cons_zero, Option.some.injEq] at h
   subst h
   simp
  | succ i =>
   simp only [List.getElem?_cons_succ] at h
   have := ih h
   cases a with
   | none => simpa using this
   | some a => simpa using this
theorem held_del {l : List (Option (List Int))} {i : Nat} {bs : List Int} (h : l[i]? = some (some bs)) : ((l.set i none).filterMap id).length + 1 = (l.filterMap id).length := by
 induction l generalizing i with
 | nil => simp at h
 | cons a l ih =>
  cases i with
  | zero =>
   simp only [List.getElem?_cons_zero, Option.some.injEq] at h
   subst h
   simp
  | succ i =>
   simp only [List.getElem?_cons_succ] at h
   have := ih h
   cases a with
   | none => simpa using this
   | some a => simpa using this
theorem held_le (l : List (Option (List Int))) : (l.filterMap id).length ≤ l.length := List.length_filterMap_le id l
theorem Says.put {D : DataW Unit} {l : List (Option (List Int))} (h : Says D l) (hm : Canon D) {n : Nat} (hK : KeysOk n l) {i : Nat} {bs : List Int} (hi : l[i]? = some none) (hs : sameP l bs = none) (hb : ∀ x ∈ bs, 0 ≤ x ∧ x ≤ 255) : Says (D.put (lk bs) (.lit (.int .i64 i))) (l.set i (some bs)) := by
 have hil : i < l.length := (List.getElem?_eq_some_iff.1 hi).1
 obtain ⟨es, hes, hq⟩ := hm
 have hIM : IsMap D := ⟨es, hes⟩
 have hno : Maps.has D (lk bs) = false := by
  cases hh : Maps.has D (lk bs) with
  | false => rfl
  | true =>
   obtain ⟨j, bs', hj, e⟩ := h.has _ hh
   have := lk_inj hb (hK bs' (List.mem_of_getElem? hj)).1 e
   subst this
   exact absurd hj (same_not hs j)
 refine ⟨fun kl hkl => ?_, fun j bs' hj z => ?_, ?_⟩
 ·by_cases e : kl = lk bs
  ·exact ⟨i, bs, by rw [List.getElem?_set_self hil], e⟩
  ·rw [has_put_other e] at hkl
   obtain ⟨j, bs', hj, e'⟩ := h.has _ hkl
   refine ⟨j, bs', ?_, e'⟩
   rw [List.getElem?_set_ne (fun e2 => by subst e2; rw [hi] at hj; cases hj)]
   exact hj
 ·by_cases e : i = j
  ·subst e
   rw [List.getElem?_set_self hil] at hj
   cases hj
   exact atKey_put_same hIM (lk_isKey _) _ _
  ·rw [List.getElem?_set_ne e] at hj
   have hne : lk bs' ≠ lk bs := fun e2 => by
    have := lk_inj (hK bs' (List.mem_of_getElem? hj)).1 hb e2
    subst this
    exact same_not hs j hj
   rw [atKey_put_other hne]
   exact h.at_ j bs' hj z
 ·rw [held_put bs hi, ← h.size]
  have ht : Tidy D := ⟨es, hes, apart_of_rising hq.1⟩
  rw [size_put ht, hno]
  rfl
theorem Says.del {D : DataW Unit} {l : List (Option (List Int))} (h : Says D l) (hm : Canon D) {n : Nat} (hK : KeysOk n l) {i : Nat} {bs : List Int} (hi : l[i]? = some (some bs)) : Says (D.del (lk bs)) (l.set i none) := by
 have hil : i < l.length := (List.getElem?_eq_some_iff.1 hi).1
 have hb := (hK bs (List.mem_of_getElem? hi)).1
 obtain ⟨es, hes, hq⟩ := hm
 have hyes : Maps.has D (lk bs) = true := has_true_of_atKey (h.at_ i bs hi)
 refine ⟨fun kl hkl => ?_, fun j bs' hj z => ?_, ?_⟩
 ·have e : kl ≠ lk bs := fun e => by
   subst e
   rw [has_del_same] at hkl
   cases hkl
  rw [has_del_other e] at hkl
  obtain ⟨j, bs', hj, e'⟩ := h.has _ hkl
  refine ⟨j, bs', ?_, e'⟩
  rw [List.getElem?_set_ne (fun e2 => by subst e2; rw [hi] at hj; cases hj; exact e e')]
  exact hj
 ·have e : i ≠ j := fun e => by
   subst e
   rw [List.getElem?_set_self hil] at hj
   cases hj
  rw [List.getElem?_set_ne e] at hj
  have hne : lk bs' ≠ lk bs := fun e2 => by
   have := lk_inj (hK bs' (List.mem_of_getElem? hj)).1 hb e2
   subst this
   exact e (h.once hi hj)
  rw [atKey_del_other hne]
  exact h.at_ j bs' hj z
 ·have ht : Tidy D := ⟨es, hes, apart_of_rising hq.1⟩
  have h1 := size_del (k := lk bs) ht
  rw [hyes] at h1
  simp only [if_true] at h1
  have h2 := held_del hi
  have h3 := h.size
  omega
structure HM (w : World) (b size : Nat) (l : List (Option (List Int))) : Prop where
 map : ∃ D n, w.ownsMap Tryz.prog 9 (plainElem Tryz.prog 3) b n D ∧ Says D l
 keys : KeysOk size l
 many : l.length ≤ 64
 s1 : 1 ≤ size
 s16 : size ≤ 16
theorem HM.touch {S : List Nat} {w w' : World} {b size : Nat} {l : List (Option (List Int))} (h : HM w b size l) (ht : Touch S w w') (hb : b ∉ S) : HM w' b size l := by
 obtain ⟨⟨D, n, ho, hs⟩, h2, h3, h4, h5⟩ := h
 refine ⟨⟨D, n, ?_, hs⟩, h2, h3, h4, h5⟩
 have hlt := ho.lt
 obtain ⟨es, clock, h1, r⟩ := ho
 exact ⟨es, clock, by rw [ht.block b hlt hb]; exact h1, r⟩
theorem HM.lt {w : World} {b size : Nat} {l : List (Option (List Int))} (h : HM w b size l) : b < w.heap.size := by
 obtain ⟨⟨D, n, ho, _⟩, _⟩ := h
 exact ho.lt
theorem owns_tight {w : World} {b n : Nat} {D : DataW Unit} (h : w.ownsMap Tryz.prog 9 (plainElem Tryz.prog 3) b n D) : w.ownsMap Tryz.prog 9 (plainElem Tryz.prog 3) b (Maps.size D) D := by
 obtain ⟨es, clock, h1, h2, h3, rfl⟩ := h
 exact ⟨es, clock, h1, h2, by simp [Maps.size, length_sorted], rfl⟩
def idx0 : Option Nat → Int
 | some i => i
 | none => 0
def foundV (o : Option Nat) : Value := .tuple #[.int .i64 (idx0 o), .bool o.isSome]
theorem HM.look {w : World} {b size : Nat} {l : List (Option (List Int))} (h : HM w b size l) {bs : List Int} (hb : ∀ x ∈ bs, 0 ≤ x ∧ x ≤ 255) (hl : bs.length = size) :
  (Instr.lookup 179 (.map (some b)) (.string (strOfNums bs)) true).run Tryz.prog w = .ok (foundV (sameP l bs)) w := by
 have h16 := h.s16
 obtain ⟨⟨D, n, ho, hs⟩, hK, _⟩ := h
 obtain ⟨v, ps, hrun, hv⟩ := ho.look_ok law9 Tryz.underlying179 (zero3 w) (plainElem_int Tryz.underlying3 (by decide)) (lk_key (bs := bs) (by omega))
 obtain ⟨c, rfl, hc, _⟩ := plainElem_int_inv Tryz.underlying3 hv
 have hc1 : D.atKey (lk bs) (.lit (.int .i64 0)) = .lit (.int .i64 c) := congrArg Prod.fst hc
 rw [hrun]
 cases hsm : sameP l bs with
 | none =>
  have hno : Maps.has D (lk bs) = false := by
   cases hh : Maps.has D (lk bs) with
   | false => rfl
   | true =>
    obtain ⟨j, bs', hj, e⟩ := hs.has _ hh
    have := lk_inj hb (hK bs' (List.mem_of_getElem? hj)).1 e
    subst this
    exact absurd hj (same_not hsm j)
  rw [atKey_of_not_has hno] at hc1
  injection hc1 with hc1
  injection hc1 with _ hc1
  subst hc1
  rw [hno]
  rfl
 | some i =>
  have hg := same_get hsm
  have hyes : Maps.has D (lk bs) = true := has_true_of_atKey (hs.at_ i bs hg)
  rw [hs.at_ i bs hg] at hc1
  injection hc1 with hc1
  injection hc1 with _ hc1
  subst hc1
  rw [hyes]
  rfl
theorem HM.store {w : World} {b size : Nat} {l : List (Option (List Int))} (h : HM w b size l) {bs : List Int} (hb : ∀ x ∈ bs, 0 ≤ x ∧ x ≤ 255) (hl : bs.length = size) {i : Nat} (hi : l[i]? = some none) (hs : sameP l bs = none) :
  ∃ w', (Instr.mapUpdate 179 (.map (some b)) (.string (strOfNums bs)) (.int .i64 i)).run Tryz.prog w = .ok () w' ∧ HM w' b size (l.set i (some bs)) ∧ Touch [b] w w' := by
 have h16 := h.s16
 have hil : i < l.length := (List.getElem?_eq_some_iff.1 hi).1
 obtain ⟨⟨D, n, ho, hS⟩, hK, hm, h1, _⟩ := h
 have hsz := held_le l
 have hwf : (Lit.int .i64 (i : Int)).wf = true := WalkArith.wf_i64 (by omega)
 obtain ⟨w', hrun, ho', hg⟩ := (owns_tight ho).update law9 Tryz.underlying179 (by rw [hS.size]; unfold maxLen; omega) (lk_key (bs := bs) (by omega)) (plainElem_int Tryz.underlying3 hwf)
 refine ⟨w', hrun, ⟨⟨_, _, ho', hS.put (ho.canon law9) hK hi hs hb⟩, fun bs' hbs' => ?_, by simpa using hm, h1, h16⟩, Touch.of_grown hg⟩
 rcases List.mem_or_eq_of_mem_set hbs' with hx | hx
 ·exact hK bs' hx
 ·cases hx
  exact ⟨hb, hl⟩
theorem HM.drop {w : World} {b size : Nat} {l : List (Option (List Int))} (h : HM w b size l) {bs : List Int} {i : Nat} (hi : l[i]? = some (some bs)) (ty : TypeId) :
  ∃ w', (Builtin.delete_ #[179, 9] ty #[.map (some b), .string (strOfNums bs)]).run Tryz.prog w = .ok (.tuple #[]) w' ∧ HM w' b size (l.set i none) ∧ Touch [b] w w' := by
 have h16 := h.s16
 have hlen := (h.keys bs (List.mem_of_getElem? hi)).2
 obtain ⟨⟨D, n, ho, hS⟩, hK, hm, h1, _⟩ := h
 obtain ⟨w', hrun, ho', hg⟩ := ho.drop law9 Tryz.underlying179 (lk_key (bs := bs) (by omega)) ty
 refine ⟨w', hrun, ⟨⟨_, _, ho', hS.del (ho.canon law9) hK hi⟩, fun bs' hbs' => ?_, by simpa using hm, h1, h16⟩, Touch.of_grown hg.grown⟩
 rcases List.mem_or_eq_of_mem_set hbs' with hx | hx
 ·exact hK bs' hx
 ·cases hx
theorem HM.made (w : World) {size m : Nat} (h1 : 1 ≤ size) (h2 : size ≤ 16) (hm : m ≤ 64) : HM (w.alloc (.map #[] 0)) w.heap.size size (List.replicate m none) := by
 refine ⟨⟨.map [], 0, World.ownsMap_made _ _ _ _, ⟨fun kl hkl => (by cases hkl), fun i bs hi => ?_, ?_⟩⟩, fun bs hbs => ?_, by simpa using hm, h1, h2⟩
 ·have := List.mem_of_getElem? hi
  simp at this
 ·simp [Maps.size]
 ·simp at hbs
end Go.Proofs.YtmhhahmjkopjhaaGreat
end
