/-
  Texts laid together: MLook, MLay, MApi, MApi2, PUpd, MApi3, PRead, PGet, PSettle, PAt, PSettle2, PPush, PNew, MNil, MFirst, PSolo, PGet2, PAparts, PTwin, PHeld, TabS, TabP, PDump, PDump2, PAparts2, PFirst, PFresh, PHold2, OneOp, PArgs, PHold3.
-/
import Derived.Test.YtmhhahmjkopjhaaZh2
import Derived.Deep.RegionHeld3
import Derived.Deep.DrawnRows
import Derived.ProofKit
import Derived.Deep.Slices
import Derived.BigQuiet
import Derived.Deep.QuietTactic
set_option maxRecDepth 100000
set_option maxHeartbeats 8000000
section
namespace Go.Proofs.Ytmhhahmjkopjhaa.Mem
open Go.RowKit
theorem indexB_any (b off n c : Nat) (st : Nat → Bool) (w : World) (hn : n ≤ 65536)
  (hc : ∀ j, j < n → w.cell? ⟨b, off + j, none⟩ = some (.bool (st j))) :
  Calls Try.prog 47 #[.slice (some ⟨b, off, none⟩) n c, .bool false] w fun e w' => ((∃ i : Nat, i < n ∧ e = .returned (.int .i64 i) ∧ st i = false) ∨ (e = .returned (.int .i64 (-1)) ∧ ∀ j, j < n → st j = true)) ∧ w' = w := by
 have HC := toHid hc
 clear hc
 go_enter Try.func47, Try.ntmps47
 go_wp2
 go_loop [8] (fun t => ∃ k : Nat, k ≤ n ∧ t = .int .i64 k ∧ Hid (∀ j, j < k → st j = true)) (fun t => n - (intOf t).toNat)
 case atStart => exact ⟨0, by omega, rfl, fun j hj => by omega⟩
 case round =>
  obtain ⟨k, hk, rfl, HI⟩ := hrel
  by_cases hlt : k < n
  ·have c1 := HC.out k hlt
   cases hs : st k with
   | true =>
    rw [hs] at c1
    have HS := toHid hs
    clear hs
    go_wp2
    refine ⟨⟨k + 1, by omega, by go_num, fun j hj => ?_⟩, by simp [intOf]; omega⟩
    by_cases e : j = k
    ·subst e; exact HS.out
    ·exact HI.out j (by omega)
   | false =>
    rw [hs] at c1
    have HS := toHid hs
    clear hs
    go_wp2
    go_ret
    exact ⟨Or.inl ⟨k, hlt, rfl, HS.out⟩, rfl⟩
  ·have hkn : k = n := by omega
   subst hkn
   go_wp2
   go_ret
   exact ⟨Or.inr ⟨rfl, HI.out⟩, rfl⟩
def allSetB (r : Reg) (a n : Nat) : Bool := match r.sb with
 | none => true
 | some _ => ((r.set.drop a).take n).all (fun x => x)
theorem allSetB_yes {r : Reg} {a n : Nat} (h : ∀ j, j < n → r.set.getD (a + j) true = true) : allSetB r a n = true := by
 unfold allSetB
 cases r.sb with
 | none => rfl
 | some s =>
  simp only [List.all_eq_true]
  intro x hx
  obtain ⟨j, hj, rfl⟩ := List.getElem_of_mem hx
  rw [List.getElem_take, List.getElem_drop]
  have hjn : j < n := by rw [List.length_take] at hj; omega
  have := h j hjn
  rw [List.getD_eq_getElem?_getD, List.getElem?_eq_getElem (by rw [List.length_take, List.length_drop] at hj; omega)] at this
  simpa using this
theorem allSetB_no {r : Reg} {a n s i : Nat} (hs : r.sb = some s) (hi : i < n) (hl : a + n ≤ r.set.length) (h : r.set.getD (a + i) true = false) : allSetB r a n = false := by
 unfold allSetB
 rw [hs]
 simp only [List.all_eq_false]
 refine ⟨r.set.getD (a + i) true, ?_, by rw [h]; decide⟩
 rw [List.getD_eq_getElem?_getD, List.getElem?_eq_getElem (by omega)]
 simp only [Option.getD_some]
 rw [List.mem_iff_getElem]
 exact ⟨i, by rw [List.length_take, List.length_drop]; omega, by rw [List.getElem_take, List.getElem_drop]⟩
theorem run_eql_nil {P : Program} (w : World) (t e : TypeId) (a : Option Addr) (l c : Nat) (h : P.underlying t = some (.slice e)) : (binOp .eql t (.slice a l c) (.slice none 0 0)).run P w = .ok (.bool a.isNone) w := by
 simp only [binOp]
 simp [run_equal_slice_nil w t e a l c h]
theorem nil42 (w : World) : (binOp .eql 91 (.slice none 0 0) (.slice none 0 0)).run Try.prog w = .ok (.bool true) w := run_eql_nil w 91 4 none 0 0 Try.underlying91
theorem some42 (w : World) (a : Addr) (l c : Nat) : (binOp .eql 91 (.slice (some a) l c) (.slice none 0 0)).run Try.prog w = .ok (.bool false) w := run_eql_nil w 91 4 (some a) l c Try.underlying91
theorem allSet_any {w : World} {r : Reg} (h : RegAt w r) (ho : RegOk r) (a n : Nat) (hn : 1 ≤ n) (han : a + n ≤ r.bytes.length) :
  Calls Try.prog 33 #[.pointer (some ⟨r.p, 0, none⟩), .int .i64 a, .int .i64 n] w fun e w' => e = .returned (.bool (allSetB r a n)) ∧ w' = w := by
 have hsz := ho.size2
 have hc4 := h.c4
 unfold Reg.setV at hc4
 cases hs : r.sb with
 | none =>
  rw [hs] at hc4
  simp only at hc4
  have HR : Hid (allSetB r a n = true) := by show allSetB r a n = true; unfold allSetB; rw [hs]
  have hnil := nil42
  clear h ho
  go_enter Try.func33, Try.ntmps33
  go_wp2
  go_ret
  exact ⟨by rw [HR.out]; rfl, rfl⟩
 | some sb =>
  rw [hs] at hc4
  simp only at hc4
  have hset := h.set sb hs
  have hlen := ho.setLen sb hs
  have HI := toHid (indexB_any sb a n (r.bytes.length - a) (fun j => r.set.getD (a + j) true) w (by omega) (fun j hj => hset.cell (by rw [List.getElem?_map, List.getElem?_eq_getElem (by omega), List.getD_eq_getElem?_getD, List.getElem?_eq_getElem (by omega)]; rfl)))
  have HS := toHid hs
  have HL := toHid hlen
  have q1 : ¬ (r.bytes.length = a) := by omega
  have hnil := some42
  clear h ho hs hlen hset
  go_enter Try.func33, Try.ntmps33
  go_wp2_with (first | (go_at_call 43; go_in) | (go_at_call 47; refine HI.out.mono ?_; rintro e w ⟨(⟨i, hi, rfl, h1⟩ | ⟨rfl, h1⟩), rfl⟩))
  ·go_ret
   exact ⟨by rw [allSetB_no HS.out hi (by rw [HL.out]; omega) h1]; rfl, rfl⟩
  ·go_ret
   exact ⟨by rw [allSetB_yes h1]; rfl, rfl⟩
theorem oneCell_u8 {bs : List Int} : ∀ v ∈ bs.map (Value.int .u8), v.oneCell' = true := by
 intro v hv
 obtain ⟨x, _, rfl⟩ := List.mem_map.1 hv
 rfl
def BytesAt (w : World) (k off : Nat) (bs : List Int) : Prop := ∀ j v, (bs.map (Value.int .u8))[j]? = some v → w.cell? ⟨k, off + j, none⟩ = some v
theorem BytesAt.touch {S : List Nat} {w w' : World} {k off : Nat} {bs : List Int} (h : BytesAt w k off bs) (ht : Touch S w w') (hk : k ∉ S) : BytesAt w' k off bs := fun j v hj => ht.cell (h j v hj) hk
theorem BytesAt.of_blk {w : World} {k off : Nat} {xs : List Int} {t : TypeId} (h : Blk w k (xs.map (Value.int .u8)) t) (n : Nat) : BytesAt w k off ((xs.drop off).take n) := fun j v hj => by
 refine h.cell ?_
 rw [List.getElem?_map] at hj ⊢
 rw [List.getElem?_take] at hj
 split at hj
 ·rwa [List.getElem?_drop] at hj
 ·simp at hj
theorem copied_any (k off n c : Nat) (bs : List Int) (w : World) (hn : n ≤ 65536) (hl : bs.length = n) (hb : BytesAt w k off bs) (_hk : k < w.heap.size) :
  Calls Try.prog 31 #[.slice (some ⟨k, off, none⟩) n c] w fun e w' => e = .returned (.slice (some ⟨w.heap.size, 0, none⟩) n n) ∧ Blk w' w.heap.size (bs.map (Value.int .u8)) 5 ∧ Touch [] w w' := by
 have hmk := run_make_blk (P := Try.prog) Try.underlying22 info5 rfl n (by omega) (by omega) .i64
 have hN := Blk.new w (List.replicate n (Value.int .u8 0)) 5
 have ht : Touch [] w (w.alloc (.cells (List.replicate n (Value.int .u8 0)).toArray 5)) := (Touch.refl _ w).alloc _
 have hmk0 := hmk w
 clear hmk
 generalize w.alloc (.cells (List.replicate n (Value.int .u8 0)).toArray 5) = W1 at hmk0 hN ht
 have hcp : ∀ ty, (Builtin.copy_ #[22, 22] ty #[.slice (some ⟨w.heap.size, 0, none⟩) n n, .slice (some ⟨k, off, none⟩) n c]).run Try.prog W1 = _ := fun ty =>
  run_copy_blk W1 22 22 ty 5 Try.underlying22 (size_of_info info5) w.heap.size 0 n n ⟨k, off, none⟩ n c _ 5 (bs.map (Value.int .u8)) hN (by simp only [Nat.min_def, List.length_map, hl]; split <;> omega) (fun j v hj => by
   rw [Addr.add_lit]
   exact ht.cell (hb j v hj) (by simp)) (by simp; omega) oneCell_u8
 have hX : (List.replicate n (Value.int .u8 0)).take 0 ++ bs.map (Value.int .u8) ++ (List.replicate n (Value.int .u8 0)).drop (0 + (bs.map (Value.int .u8)).length) = bs.map (Value.int .u8) := by simp [hl]
 rw [hX] at hcp
 have hB := hN.setRow (bs.map (Value.int .u8))
 have ht2 := ht.setRow w.heap.size (bs.map (Value.int .u8)).toArray (Or.inr (Nat.le_refl _))
 generalize W1.setRow w.heap.size (bs.map (Value.int .u8)).toArray = W2 at hcp hB ht2
 have HC := toHid hcp
 have HB := toHid (And.intro hB ht2)
 clear hcp hB ht2 hX hN ht hb
 go_enter Try.func31, Try.ntmps31
 go_wp2_with fail
 rw [HC.out]
 go_wp2
 go_ret
 exact ⟨rfl, HB.out⟩
def layR (r : Reg) (a : Nat) (bs : List Int) : Reg :=
 {r with bytes := r.bytes.take a ++ bs ++ r.bytes.drop (a + bs.length), set := match r.sb with
  | none => r.set
  | some _ => r.set.take a ++ List.replicate bs.length true ++ r.set.drop (a + bs.length) }
theorem layR_len {r : Reg} {a : Nat} {bs : List Int} (h : a + bs.length ≤ r.bytes.length) : (layR r a bs).bytes.length = r.bytes.length := by
 simp only [layR, List.length_append, List.length_take, List.length_drop]
 omega
def setTo (st : List Bool) (a k : Nat) : List Value := (st.take a ++ List.replicate k true ++ st.drop (a + k)).map Value.bool
theorem setTo_succ (st : List Bool) (a k : Nat) (h : a + k < st.length) : (setTo st a k).set (a + k) (.bool true) = setTo st a (k + 1) := by
 unfold setTo
 rw [← List.map_set]
 congr 1
 have e : st.drop (a + k) = st[a + k] :: st.drop (a + k + 1) := List.drop_eq_getElem_cons h
 have e2 : (st.take a ++ List.replicate k true).length = a + k := by simp; omega
 rw [e]
 conv => lhs; arg 2; rw [← e2]
 rw [List.set_append_right _ _ (Nat.le_refl _), Nat.sub_self, List.set_cons_zero, List.replicate_succ', ← Nat.add_assoc]
 simp
theorem RegAt.laid {w w' : World} {r : Reg} {a : Nat} {bs : List Int} (_h : RegAt w r) (hl : a + bs.length ≤ r.bytes.length) (hp : Blk w' r.p r.cells 93)
  (hb : Blk w' r.bb ((layR r a bs).bytes.map (Value.int .u8)) 5) (hs : ∀ s, r.sb = some s → Blk w' s (setTo r.set a bs.length) 4) : RegAt w' (layR r a bs) where
 self := by
  have e : (layR r a bs).cells = r.cells := by
   unfold Reg.cells Reg.setV
   rw [layR_len hl]
   rfl
  rw [e]
  exact hp
 bytes := hb
 set := fun s hs' => by
  have hs'' : r.sb = some s := hs'
  have := hs s hs''
  unfold setTo at this
  simp only [layR, hs'']
  exact this
theorem rlay_any {w : World} {r : Reg} (h : RegAt w r) (ho : RegOk r) (a k off n c : Nat) (bs : List Int) (hn1 : 1 ≤ n) (hl : bs.length = n) (han : a + n ≤ r.bytes.length) (hb : BytesAt w k off bs) :
  Calls Try.prog 40 #[.pointer (some ⟨r.p, 0, none⟩), .int .i64 a, .slice (some ⟨k, off, none⟩) n c] w fun e w' => e = .returned (.tuple #[]) ∧ RegAt w' (layR r a bs) ∧ Touch (r.bb :: r.sb.toList) w w' := by
 have hsz := ho.size2
 have hown := ho.own
 simp only [Reg.blocks, List.nodup_cons, List.mem_cons, not_or] at hown
 have hcp : ∀ ty dc, (Builtin.copy_ #[22, 22] ty #[.slice (some ⟨r.bb, a, none⟩) (r.bytes.length - a) dc, .slice (some ⟨k, off, none⟩) n c]).run Try.prog w = _ := fun ty dc =>
  run_copy_blk w 22 22 ty 5 Try.underlying22 (size_of_info info5) r.bb a (r.bytes.length - a) dc ⟨k, off, none⟩ n c _ 5 (bs.map (Value.int .u8)) h.bytes (by simp only [Nat.min_def, List.length_map, hl]; split <;> omega) (fun j v hj => by
   rw [Addr.add_lit]
   exact hb j v hj) (by simp; omega) oneCell_u8
 have hX : (r.bytes.map (Value.int .u8)).take a ++ bs.map (Value.int .u8) ++ (r.bytes.map (Value.int .u8)).drop (a + (bs.map (Value.int .u8)).length) = (layR r a bs).bytes.map (Value.int .u8) := by
  simp [layR, List.map_take, List.map_drop]
 rw [hX] at hcp
 have hB := h.bytes.setRow ((layR r a bs).bytes.map (Value.int .u8))
 have hP := h.self.setRow_other r.bb ((layR r a bs).bytes.map (Value.int .u8)).toArray hown.1.1
 have hS : ∀ s, r.sb = some s → Blk (w.setRow r.bb ((layR r a bs).bytes.map (Value.int .u8)).toArray) s (setTo r.set a 0) 4 := fun s hs => by
  have : setTo r.set a 0 = r.set.map Value.bool := by simp [setTo]
  rw [this]
  refine (h.set s hs).setRow_other _ _ (fun e => hown.2.1 ?_)
  rw [hs, e]
  simp
 have ht : Touch (r.bb :: r.sb.toList) w (w.setRow r.bb ((layR r a bs).bytes.map (Value.int .u8)).toArray) := (Touch.refl _ w).setRow _ _ (Or.inl (by simp))
 generalize w.setRow r.bb ((layR r a bs).bytes.map (Value.int .u8)).toArray = W1 at hcp hB hP hS ht
 have hc3 := h.c3
 have q1 : ¬ (r.bytes.length = a) := by omega
 have q2 : (a : Int) ≤ r.bytes.length := by omega
 cases hsb : r.sb with
 | none =>
  have hc4 : W1.cell? ⟨r.p, 4, none⟩ = some r.setV := hP.cell rfl
  unfold Reg.setV at hc4
  rw [hsb] at hc4
  simp only at hc4
  have HF : Hid (RegAt W1 (layR r a bs) ∧ Touch (r.bb :: r.sb.toList) w W1) := ⟨h.laid (by omega) hP hB (fun s hs => by rw [hsb] at hs; cases hs), ht⟩
  rw [hsb] at HF
  have HC := toHid hcp
  have hnil := nil42
  clear hcp hX hB hP hS ht h ho hb
  go_enter Try.func40, Try.ntmps40
  go_wp2_with fail
  rw [HC.out]
  go_wp2
  exact bodyPost_ret (v := .tuple #[]) (by simp [results, Try.results40]) rfl ⟨rfl, HF.out⟩
 | some sb =>
  have hset := hS sb hsb
  have hlen := ho.setLen sb hsb
  have hc4 : W1.cell? ⟨r.p, 4, none⟩ = some r.setV := hP.cell rfl
  unfold Reg.setV at hc4
  rw [hsb] at hc4
  simp only at hc4
  rw [hsb] at ht
  have HT := toHid ht
  have HS := toHid hset
  have HP := toHid hP
  have HBB := toHid hB
  have HC := toHid hcp
  have hnil := some42
  have hne1 : ¬ sb = r.p := fun e => hown.1.2 (by rw [hsb, e]; simp)
  have hne2 : ¬ sb = r.bb := fun e => hown.2.1 (by rw [hsb, e]; simp)
  have HR := toHid h
  have HSB := toHid hsb
  clear hcp hX hB hP hS ht h ho hb hset hsb
  go_enter Try.func40, Try.ntmps40
  go_wp2_with fail
  rw [HC.out]
  go_wp2
  go_loopw [22] (fun t w' => ∃ i : Nat, i ≤ n ∧ t = .int .i64 i ∧ Hid (Blk w' sb (setTo r.set a i) 4 ∧ Blk w' r.p r.cells 93 ∧ Blk w' r.bb ((layR r a bs).bytes.map (Value.int .u8)) 5 ∧ Touch [r.bb, sb] w w')) (fun t _ => n - (intOf t).toNat)
  case atStart => exact ⟨0, by omega, rfl, HS.out, HP.out, HBB.out, HT.out⟩
  case round =>
   rename_i wr
   obtain ⟨i, hi, rfl, HI⟩ := hrel
   clear hc4
   have hc4 : wr.cell? ⟨r.p, 4, none⟩ = some r.setV := HI.out.2.1.cell rfl
   unfold Reg.setV at hc4
   rw [HSB.out] at hc4
   simp only at hc4
   by_cases hlt : i < n
   ·have c1 := HI.out.1.cellN (i := a + i) (by simp [setTo]; omega)
    have f1 := HI.out.1.frozen (a + i)
    go_wp2
    refine ⟨⟨i + 1, by omega, by go_num, ?_, ?_, ?_, ?_⟩, by simp [intOf]; omega⟩
    ·rw [← setTo_succ r.set a i (by omega)]
     exact HI.out.1.setCell _ _
    ·exact HI.out.2.1.setCell_other _ _ (fun e => hne1 e.symm)
    ·exact HI.out.2.2.1.setCell_other _ _ (fun e => hne2 e.symm)
    ·exact HI.out.2.2.2.setCell _ _ (Or.inl (by simp))
   ·obtain rfl : i = n := by omega
    go_wp2
    go_end0
    refine ⟨rfl, HR.out.laid (by omega) HI.out.2.1 HI.out.2.2.1 (fun s hs => ?_), by simpa using HI.out.2.2.2⟩
    rw [HSB.out] at hs
    injection hs with hs
    subst hs
    rw [hl]
    exact HI.out.1
end Go.Proofs.Ytmhhahmjkopjhaa.Mem
end
section
namespace Go.Proofs.Ytmhhahmjkopjhaa.Mem
open Go.RowKit
def updR (rs : List Reg) (id : Int) (f : Reg → Reg) : List Reg := rs.map (fun x => if x.id = id then f x else x)
theorem layR_ok {r : Reg} {a : Nat} {bs : List Int} (h : RegOk r) (hl : a + bs.length ≤ r.bytes.length) (hb : ∀ x ∈ bs, 0 ≤ x ∧ x ≤ 255) : RegOk (layR r a bs) where
 base0 := h.base0
 size1 := by rw [layR_len hl]; exact h.size1
 size2 := by rw [layR_len hl]; exact h.size2
 fits := by rw [layR_len hl]; exact h.fits
 perm0 := h.perm0
 perm1 := h.perm1
 plain := h.plain
 setLen := fun s hs => by
  have hs' : r.sb = some s := hs
  have := h.setLen s hs'
  rw [layR_len hl, ← this]
  simp only [layR, hs', List.length_append, List.length_take, List.length_drop, List.length_replicate]
  omega
 setNil := fun hs => by
  have hs' : r.sb = none := hs
  simp only [layR, hs']
  exact h.setNil hs'
 byte := fun x hx => by
  simp only [layR, List.mem_append] at hx
  rcases hx with (hx | hx) | hx
  ·exact h.byte x (List.mem_of_mem_take hx)
  ·exact hb x hx
  ·exact h.byte x (List.mem_of_mem_drop hx)
 own := h.own
theorem nodup_flat {l : List Reg} (h : (l.flatMap Reg.blocks).Nodup) {x y : Reg} (hx : x ∈ l) (hy : y ∈ l) (hne : x.id ≠ y.id) : ∀ b ∈ x.blocks, b ∉ y.blocks := by
 intro b hb hb'
 obtain ⟨i, hi, rfl⟩ := List.getElem_of_mem hx
 obtain ⟨j, hj, rfl⟩ := List.getElem_of_mem hy
 have hij : i ≠ j := fun e => hne (by subst e; rfl)
 have hp := (List.pairwise_flatMap.1 h).2
 rcases Nat.lt_or_gt_of_ne hij with hlt | hlt
 ·exact (List.pairwise_iff_getElem.1 hp) i j hi hj hlt b hb b hb' rfl
 ·exact (List.pairwise_iff_getElem.1 hp) j i hj hi hlt b hb' b hb rfl
theorem id_inj {l : List Reg} (h : l.Pairwise (fun a b => a.id ≠ b.id)) {x y : Reg} (hx : x ∈ l) (hy : y ∈ l) (he : x.id = y.id) : x = y := by
 obtain ⟨i, hi, rfl⟩ := List.getElem_of_mem hx
 obtain ⟨j, hj, rfl⟩ := List.getElem_of_mem hy
 rcases Nat.lt_trichotomy i j with hlt | rfl | hlt
 ·exact absurd he ((List.pairwise_iff_getElem.1 h) i j hi hj hlt)
 ·rfl
 ·exact absurd he.symm ((List.pairwise_iff_getElem.1 h) j i hj hi hlt)
theorem MemAt.upd {w w' : World} {s : MS} (h : MemAt w s) {r : Reg} (hr : r ∈ s.rs) {a : Nat} {bs : List Int} (hl : a + bs.length ≤ r.bytes.length) (hb : ∀ x ∈ bs, 0 ≤ x ∧ x ≤ 255)
  (hr' : RegAt w' (layR r a bs)) (ht : Touch (r.bb :: r.sb.toList) w w') : MemAt w' { s with rs := updR s.rs r.id (layR · a bs) } ∧ ({ s with rs := updR s.rs r.id (layR · a bs) } : MS).blocks = s.blocks := by
 have hsub : ∀ b, b ∈ r.bb :: r.sb.toList → b ∈ r.blocks := fun b hb => by
  unfold Reg.blocks
  exact List.mem_cons_of_mem _ hb
 have hap := h.apart
 simp only [MS.blocks, List.cons_append, List.nodup_cons, List.mem_append, List.nodup_append] at hap
 have hin : ∀ b ∈ r.blocks, b ∈ s.rs.flatMap Reg.blocks := fun b hb => List.mem_flatMap.2 ⟨r, hr, hb⟩
 have hptr : (updR s.rs r.id (layR · a bs)).map Reg.ptr = s.rs.map Reg.ptr := by
  unfold updR
  rw [List.map_map]
  refine List.map_congr_left (fun x _ => ?_)
  simp only [Function.comp]
  split <;> rfl
 have hbl : (updR s.rs r.id (layR · a bs)).flatMap Reg.blocks = s.rs.flatMap Reg.blocks := by
  unfold updR
  rw [List.flatMap_map]
  congr 1
  funext x
  split <;> rfl
 have hlen : (updR s.rs r.id (layR · a bs)).length = s.rs.length := by simp [updR]
 have hmem : ∀ x ∈ updR s.rs r.id (layR · a bs), x = layR r a bs ∨ (x ∈ s.rs ∧ x.id ≠ r.id) := by
  intro x hx
  unfold updR at hx
  obtain ⟨y, hy, rfl⟩ := List.mem_map.1 hx
  split
  ·rename_i he
   left
   rw [id_inj h.ids hy hr he]
  ·rename_i he
   exact Or.inr ⟨hy, he⟩
 have hpw : ∀ (R : Reg → Reg → Prop), (∀ x y, R x y → R (if x.id = r.id then layR x a bs else x) (if y.id = r.id then layR y a bs else y)) → s.rs.Pairwise R → (updR s.rs r.id (layR · a bs)).Pairwise R := by
  intro R hR hp
  unfold updR
  rw [List.pairwise_map]
  exact hp.imp (fun {x y} hxy => hR x y hxy)
 refine ⟨⟨?_, ?_, ?_, ?_, ?_, ?_, ?_, ?_, ?_⟩, ?_⟩
 ·show Blk w' s.m [slV s.g (updR s.rs r.id (layR · a bs)).length s.cap, .int .i64 s.next] 46
  rw [hlen]
  exact ht.blk h.self (fun hx => hap.1 (Or.inr (hin _ (hsub _ hx))))
 ·show RowAt w' 87 1 s.g (updR s.rs r.id (layR · a bs)).length s.cap ((updR s.rs r.id (layR · a bs)).map Reg.ptr)
  rw [hlen, hptr]
  exact h.row.touch ht (fun b hb hx => hap.2.2.2 b (by simp [hb]) b (hin _ (hsub _ hx)) rfl)
 ·intro x hx
  rcases hmem x hx with rfl | ⟨hx, hne⟩
  ·exact hr'
  ·exact (h.regs x hx).touch ht (fun b hb hh => nodup_flat hap.2.2.1 hx hr hne b hb (hsub _ hh))
 ·intro x hx
  rcases hmem x hx with rfl | ⟨hx, _⟩
  ·exact layR_ok (h.ok r hr) hl hb
  ·exact h.ok x hx
 ·show (s.m :: s.g.toList ++ (updR s.rs r.id (layR · a bs)).flatMap Reg.blocks).Nodup
  rw [hbl]
  exact h.apart
 ·have hsl : ∀ x ∈ s.rs, (if x.id = r.id then layR x a bs else x).bytes.length = x.bytes.length ∧ (if x.id = r.id then layR x a bs else x).base = x.base := by
   intro x hx
   split
   ·rename_i he
    rw [id_inj h.ids hx hr he]
    exact ⟨layR_len hl, rfl⟩
   ·exact ⟨rfl, rfl⟩
  unfold updR
  rw [List.pairwise_map]
  refine List.Pairwise.imp_of_mem ?_ h.sorted
  intro x y hx hy hxy
  rw [(hsl x hx).1, (hsl x hx).2, (hsl y hy).2]
  exact hxy
 ·refine hpw _ (fun x y hxy => ?_) h.ids
  split <;> split <;> exact hxy
 ·intro x hx
  rcases hmem x hx with rfl | ⟨hx, _⟩
  ·exact h.idlt r hr
  ·exact h.idlt x hx
 ·show (updR s.rs r.id (layR · a bs)).length ≤ 4096
  rw [hlen]
  exact h.many
 ·show s.m :: s.g.toList ++ (updR s.rs r.id (layR · a bs)).flatMap Reg.blocks = _
  rw [hbl]
  rfl
def mayB (r : Reg) (addr n perm : Int) : Bool := decide (addr - r.base ≤ (r.bytes.length : Int) - n ∧ bits .and .i64 r.perm perm ≠ 0)
def layE (rs : List Reg) (addr n : Int) : Int := match findR rs addr with
 | none => 10
 | some r => if mayB r addr n 2 = true then 0 else 10
def layRs (rs : List Reg) (addr : Int) (bs : List Int) : List Reg := match findR rs addr with
 | none => rs
 | some r => if mayB r addr bs.length 2 = true then updR rs r.id (layR · (addr - r.base).toNat bs) else rs
def LayPost (w : World) (s : MS) (addr : Int) (bs : List Int) (e : Ending) (w' : World) : Prop :=
 e = .returned (.int .i64 (layE s.rs addr bs.length)) ∧ Touch s.blocks w w' ∧ MemAt w' { s with rs := layRs s.rs addr bs } ∧ ({ s with rs := layRs s.rs addr bs } : MS).blocks = s.blocks
theorem accessV_mayB {r : Reg} {addr n perm : Int} : accessV (some r) addr n perm = if mayB r addr n perm = true then .tuple #[.pointer (some ⟨r.p, 0, none⟩), .int .i64 (addr - r.base), .int .i64 0] else .tuple #[.pointer none, .int .i64 0, .int .i64 10] := by
 unfold accessV mayB
 by_cases h : addr - r.base ≤ (r.bytes.length : Int) - n ∧ bits .and .i64 r.perm perm ≠ 0
 ·simp [h]
 ·simp [h]
theorem lay_any {w : World} {s : MS} (h : MemAt w s) (addr : Int) (k off n c : Nat) (bs : List Int) (ha0 : 0 ≤ addr) (ha1 : addr ≤ 18446744073709551615) (hn1 : 1 ≤ n) (hn2 : n ≤ 9223372036854775807) (hl : bs.length = n)
  (hb : BytesAt w k off bs) (hbb : ∀ x ∈ bs, 0 ≤ x ∧ x ≤ 255) :
  Calls Try.prog 30 #[.pointer (some ⟨s.m, 0, none⟩), .int .u64 addr, .slice (some ⟨k, off, none⟩) n c] w (LayPost w s addr bs) := by
 have hA := access_any h addr n 2 ha0 ha1 (by omega) (by omega)
 cases hf : findR s.rs addr with
 | none =>
  rw [hf] at hA
  have HF : ∀ k, Hid (LayPost w s addr bs (.returned (.int .i64 10)) (w.drewN k)) := fun k => by
   refine ⟨by simp only [layE, hf], (Touch.refl _ w).drewN k, ?_, ?_⟩
   ·simp only [layRs, hf]
    exact h.touch ((Touch.refl [] w).drewN k) (by simp)
   ·simp only [layRs, hf]
  have HA := toHid hA
  clear hA h hf hb
  go_enter Try.func30, Try.ntmps30
  go_wp2_with (go_at_call 32; refine HA.out.mono ?_; rintro e w' ⟨rfl, k2, rfl⟩; simp only [accessV])
  go_ret
  exact (HF _).out
 | some r =>
  rw [hf, accessV_mayB] at hA
  have hr := findR_mem hf
  cases hm : mayB r addr n 2 with
  | false =>
   rw [hm] at hA
   have HF : ∀ k, Hid (LayPost w s addr bs (.returned (.int .i64 10)) (w.drewN k)) := fun k => by
    refine ⟨by simp [layE, hf, hl, hm], (Touch.refl _ w).drewN k, ?_, ?_⟩
    ·simp only [layRs, hf, hl, hm]
     exact h.touch ((Touch.refl [] w).drewN k) (by simp)
    ·simp [layRs, hf, hl, hm]
   have HA := toHid hA
   clear hA h hf hb
   go_enter Try.func30, Try.ntmps30
   go_wp2_with (go_at_call 32; refine HA.out.mono ?_; rintro e w' ⟨rfl, k2, rfl⟩; simp only [Bool.false_eq_true, ↓reduceIte])
   go_ret
   exact (HF _).out
  | true =>
   rw [hm] at hA
   have hin := of_decide_eq_true hr.2
   have hreach := (of_decide_eq_true hm).1
   obtain ⟨a, ha⟩ : ∃ a : Nat, addr - r.base = a := ⟨(addr - r.base).toNat, by omega⟩
   rw [ha] at hA hreach
   have HF : ∀ w', RegAt w' (layR r a bs) → Touch (r.bb :: r.sb.toList) w w' → Hid (LayPost w s addr bs (.returned (.int .i64 0)) w') := fun w' h1 h2 => by
    have hu := h.upd hr.1 (a := a) (bs := bs) (by omega) hbb h1 h2
    refine ⟨by simp [layE, hf, hl, hm], h2.mono (fun x hx => Or.inl (s.mem_r hr.1 (by unfold Reg.blocks; exact List.mem_cons_of_mem _ hx))), ?_⟩
    have e : layRs s.rs addr bs = updR s.rs r.id (layR · a bs) := by
     have : a = (addr - r.base).toNat := by omega
     subst this
     simp [layRs, hf, hl, hm]
    rw [e]
    exact hu
   have HFH := toHid HF
   have HL : ∀ k2, Hid _ := fun k2 => toHid (rlay_any ((h.regs r hr.1).touch ((Touch.refl [] w).drewN k2) (by simp)) (h.ok r hr.1) a k off n c bs hn1 hl (by omega) (hb.touch ((Touch.refl [] w).drewN k2) (by simp)))
   have HA := toHid hA
   clear hA h hf hb HF hm
   go_enter Try.func30, Try.ntmps30
   go_wp2_with (go_at_call 32; refine HA.out.mono ?_; rintro e w' ⟨rfl, k2, rfl⟩; simp only [↓reduceIte])
   refine (HL _).out.mono ?_
   rintro e w' ⟨rfl, h1, h2⟩
   have H3 := HFH.out w' h1 ((((Touch.refl [] w).drewN k2).nil).trans h2 (fun x hx => Or.inl hx))
   clear h1 h2 HFH HL
   go_wp2
   go_ret
   exact H3.out
end Go.Proofs.Ytmhhahmjkopjhaa.Mem
end
section
namespace Go.Proofs.Ytmhhahmjkopjhaa.Mem
open Go.RowKit
def lookE (rs : List Reg) (addr n : Int) : Int := match findR rs addr with
 | none => 10
 | some r => if mayB r addr n 1 = true then (if allSetB r (addr - r.base).toNat n.toNat = true then 0 else 11) else 10
def tellR (rs : List Reg) (addr n : Int) : List Int := match findR rs addr with
 | none => []
 | some r => if mayB r addr n 1 = true ∧ allSetB r (addr - r.base).toNat n.toNat = true then (r.bytes.drop (addr - r.base).toNat).take n.toNat else []
def LookPost (w : World) (s : MS) (addr : Int) (n : Nat) (e : Ending) (w' : World) : Prop := (∃ k, w' = w.drewN k) ∧
   ((lookE s.rs addr n ≠ 0 ∧ tellR s.rs addr n = [] ∧ e = .returned (.tuple #[.slice none 0 0, .int .i64 (lookE s.rs addr n)])) ∨
    (lookE s.rs addr n = 0 ∧ ∃ r ∈ s.rs, ∃ a : Nat, a + n ≤ r.bytes.length ∧ tellR s.rs addr n = (r.bytes.drop a).take n ∧ e = .returned (.tuple #[.slice (some ⟨r.bb, a, none⟩) n n, .int .i64 0])))
theorem look_any {w : World} {s : MS} (h : MemAt w s) (addr : Int) (n : Nat) (ha0 : 0 ≤ addr) (ha1 : addr ≤ 18446744073709551615) (hn1 : 1 ≤ n) (hn2 : n ≤ 9223372036854775807) :
  Calls Try.prog 20 #[.pointer (some ⟨s.m, 0, none⟩), .int .u64 addr, .int .i64 n] w (LookPost w s addr n) := by
 have hA := access_any h addr n 1 ha0 ha1 (by omega) (by omega)
 cases hf : findR s.rs addr with
 | none =>
  rw [hf] at hA
  have HF : ∀ k, Hid (LookPost w s addr n (.returned (.tuple #[.slice none 0 0, .int .i64 10])) (w.drewN k)) := fun k => by
   have he : lookE s.rs addr n = 10 := by simp only [lookE, hf]
   exact ⟨⟨k, rfl⟩, Or.inl ⟨by rw [he]; decide, by simp only [tellR, hf], by rw [he]⟩⟩
  have HA := toHid hA
  clear hA h hf
  go_enter Try.func20, Try.ntmps20
  go_wp2_with (go_at_call 32; refine HA.out.mono ?_; rintro e w' ⟨rfl, k2, rfl⟩; simp only [accessV])
  go_ret2
  exact (HF _).out
 | some r =>
  rw [hf, accessV_mayB] at hA
  have hr := findR_mem hf
  cases hm : mayB r addr n 1 with
  | false =>
   rw [hm] at hA
   have HF : ∀ k, Hid (LookPost w s addr n (.returned (.tuple #[.slice none 0 0, .int .i64 10])) (w.drewN k)) := fun k => by
    have he : lookE s.rs addr n = 10 := by simp [lookE, hf, hm]
    exact ⟨⟨k, rfl⟩, Or.inl ⟨by rw [he]; decide, by simp [tellR, hf, hm], by rw [he]⟩⟩
   have HA := toHid hA
   clear hA h hf
   go_enter Try.func20, Try.ntmps20
   go_wp2_with (go_at_call 32; refine HA.out.mono ?_; rintro e w' ⟨rfl, k2, rfl⟩; simp only [Bool.false_eq_true, ↓reduceIte])
   go_ret2
   exact (HF _).out
  | true =>
   rw [hm] at hA
   have hin := of_decide_eq_true hr.2
   have hreach := (of_decide_eq_true hm).1
   obtain ⟨a, ha⟩ : ∃ a : Nat, addr - r.base = a := ⟨(addr - r.base).toNat, by omega⟩
   rw [ha] at hA hreach
   have hc3 := (h.regs r hr.1).c3
   have hsz := (h.ok r hr.1).size2
   have hal : a + n ≤ r.bytes.length := by omega
   have HS := fun k2 => toHid (allSet_any ((h.regs r hr.1).touch ((Touch.refl [] w).drewN k2) (by simp)) (h.ok r hr.1) a n hn1 hal)
   have HA := toHid hA
   cases hset : allSetB r a n with
   | false =>
    have HF : ∀ k, Hid (LookPost w s addr n (.returned (.tuple #[.slice none 0 0, .int .i64 11])) (w.drewN k)) := fun k => by
     have he : lookE s.rs addr n = 11 := by simp [lookE, hf, hm, ha, hset]
     exact ⟨⟨k, rfl⟩, Or.inl ⟨by rw [he]; decide, by simp [tellR, hf, hm, ha, hset], by rw [he]⟩⟩
    rw [hset] at HS
    clear hA h hf hset hm
    go_enter Try.func20, Try.ntmps20
    go_wp2_with (first | (go_at_call 32; refine HA.out.mono ?_; rintro e w' ⟨rfl, k2, rfl⟩; simp only [↓reduceIte]) | (go_at_call 33; refine (HS _).out.mono ?_; rintro e w' ⟨rfl, rfl⟩))
    go_ret2
    exact (HF _).out
   | true =>
    have HF : ∀ k, Hid (LookPost w s addr n (.returned (.tuple #[.slice (some ⟨r.bb, a, none⟩) (a + n - a) (a + n - a), .int .i64 0])) (w.drewN k)) := fun k => by
     have he : lookE s.rs addr n = 0 := by simp [lookE, hf, hm, ha, hset]
     exact ⟨⟨k, rfl⟩, Or.inr ⟨he, r, hr.1, a, hal, by simp [tellR, hf, hm, ha, hset], by rw [Nat.add_sub_cancel_left]⟩⟩
    rw [hset] at HS
    have q1 : ¬ (a + n = a) := by omega
    have q2 : (a : Int) + n ≤ r.bytes.length := by omega
    clear hA h hf hset hm hr
    go_enter Try.func20, Try.ntmps20
    go_wp2_with (first | (go_at_call 32; refine HA.out.mono ?_; rintro e w' ⟨rfl, k2, rfl⟩; simp only [↓reduceIte]) | (go_at_call 33; refine (HS _).out.mono ?_; rintro e w' ⟨rfl, rfl⟩))
    go_ret2
    exact (HF _).out
def wordB (n : Int) : Bool := n == 1 || n == 2 || n == 4 || n == 8
theorem word_of {n : Int} (h : wordB n = true) : n = 1 ∨ n = 2 ∨ n = 4 ∨ n = 8 := by
 unfold wordB at h
 simp at h
 omega
def loadE (rs : List Reg) (addr n : Int) : Int := if wordB n = true then lookE rs addr n else 2
def loadV (rs : List Reg) (addr n : Int) : Int := if wordB n = true ∧ lookE rs addr n = 0 then num (fun j => (tellR rs addr n).getD j 0) n.toNat else 0
def storeE (rs : List Reg) (addr n : Int) : Int := if wordB n = true then layE rs addr n else 2
def storeRs (rs : List Reg) (addr n v : Int) : List Reg := if wordB n = true then layRs rs addr ((List.range n.toNat).map (byteOf v)) else rs
theorem load_any {w : World} {s : MS} (h : MemAt w s) (addr n : Int) (ha0 : 0 ≤ addr) (ha1 : addr ≤ 18446744073709551615) :
  Calls Try.prog 10 #[.pointer (some ⟨s.m, 0, none⟩), .int .u64 addr, .int .i64 n] w fun e w' => e = .returned (.tuple #[.int .u64 (loadV s.rs addr n), .int .i64 (loadE s.rs addr n)]) ∧ ∃ k, w' = w.drewN k := by
 cases hw : wordB n with
 | false =>
  have he : loadE s.rs addr n = 2 := by unfold loadE; rw [hw]; rfl
  have hv : loadV s.rs addr n = 0 := by unfold loadV; rw [hw]; rfl
  rw [he, hv]
  have HW : Hid ((n == 1 || n == 2 || n == 4 || n == 8) = false) := hw
  clear h he hv hw
  go_enter Try.func10, Try.ntmps10
  go_wp2_with (go_at_call 19; refine (isWord_any n _).mono ?_; rintro e w' ⟨rfl, rfl⟩; rw [HW.out])
  go_ret2
  exact ⟨rfl, 0, rfl⟩
 | true =>
  have hnn := word_of hw
  obtain ⟨z, rfl⟩ : ∃ z : Nat, n = z := ⟨n.toNat, by omega⟩
  have hz1 : 1 ≤ z := by omega
  have hz2 : z ≤ 8 := by omega
  clear hnn
  have HL := toHid (look_any h addr z ha0 ha1 hz1 (by omega))
  have HW : Hid (((z : Int) == 1 || (z : Int) == 2 || (z : Int) == 4 || (z : Int) == 8) = true) := hw
  have he : loadE s.rs addr z = lookE s.rs addr z := by unfold loadE; rw [hw]; rfl
  by_cases h0 : lookE s.rs addr z = 0
  ·have hv : loadV s.rs addr z = num (fun j => (tellR s.rs addr z).getD j 0) z := by unfold loadV; rw [if_pos ⟨hw, h0⟩]; rfl
   have HE := toHid he
   have H0 := toHid h0
   have HV := toHid hv
   have HM := toHid h
   clear h he hv hw h0
   go_enter Try.func10, Try.ntmps10
   go_wp2_with (go_at_call 19; refine (isWord_any z _).mono ?_; rintro e w ⟨rfl, rfl⟩; rw [HW.out])
   refine HL.out.mono ?_
   rintro e w' ⟨⟨k, rfl⟩, (⟨h1, _, _⟩ | ⟨_, r, hr, a, hal, htell, rfl⟩)⟩
   ·exact absurd H0.out h1
   ·have hbb := BytesAt.of_blk (off := a) ((HM.out.regs r hr).bytes.drewN k) z
    have hok := HM.out.ok r hr
    have hlen : ((r.bytes.drop a).take z).length = z := by simp; omega
    have HN := toHid (number_any r.bb a z z (fun j => ((r.bytes.drop a).take z).getD j 0) (w.drewN k) hz2
     (fun j hj => hbb j _ (by rw [List.getElem?_map, List.getElem?_eq_getElem (by omega), List.getD_eq_getElem?_getD, List.getElem?_eq_getElem (by omega)]; rfl))
     (fun j hj => by
      rw [List.getD_eq_getElem?_getD, List.getElem?_eq_getElem (by omega)]
      exact hok.byte _ (List.mem_of_mem_drop (List.mem_of_mem_take (List.getElem_mem (by omega))))))
    have HT := toHid htell
    clear hbb htell
    go_wp2_with (go_at_call 21; refine HN.out.mono ?_; rintro e w' ⟨rfl, rfl⟩)
    go_ret2
    refine ⟨?_, k, rfl⟩
    rw [HE.out, H0.out, HV.out, HT.out]
    rfl
  ·have hv : loadV s.rs addr z = 0 := by unfold loadV; rw [if_neg (fun hh => h0 hh.2)]
   have HE := toHid he
   have H0 := toHid h0
   have HV := toHid hv
   generalize hx : lookE s.rs addr z = x at *
   have HX := toHid hx
   have hb : (x == 0) = false := by simpa using h0
   have hb2 : (x != 0) = true := by simpa using h0
   clear h he hv hw h0 hx
   go_enter Try.func10, Try.ntmps10
   go_wp2_with (go_at_call 19; refine (isWord_any z _).mono ?_; rintro e w ⟨rfl, rfl⟩; rw [HW.out])
   refine HL.out.mono ?_
   rintro e w' ⟨⟨k, rfl⟩, (⟨h1, _, rfl⟩ | ⟨h1, _⟩)⟩
   ·rw [HX.out]
    clear h1 HL
    go_wp2
    go_ret2
    exact ⟨by rw [HE.out, HV.out]; rfl, k, rfl⟩
   ·rw [HX.out] at h1
    exact absurd h1 H0.out
end Go.Proofs.Ytmhhahmjkopjhaa.Mem
end
section
namespace Go.Proofs.Ytmhhahmjkopjhaa.Mem
open Go.RowKit
def StorePost (w : World) (s : MS) (addr n v : Int) (e : Ending) (w' : World) : Prop :=
 e = .returned (.int .i64 (storeE s.rs addr n)) ∧ Touch s.blocks w w' ∧ MemAt w' { s with rs := storeRs s.rs addr n v } ∧ ({ s with rs := storeRs s.rs addr n v } : MS).blocks = s.blocks
def writeE (rs : List Reg) (addr : Int) (bs : List Int) : Int := if bs.length = 0 then 0 else layE rs addr bs.length
def writeRs (rs : List Reg) (addr : Int) (bs : List Int) : List Reg := if bs.length = 0 then rs else layRs rs addr bs
def WritePost (w : World) (s : MS) (addr : Int) (bs : List Int) (e : Ending) (w' : World) : Prop :=
 e = .returned (.int .i64 (writeE s.rs addr bs)) ∧ Touch s.blocks w w' ∧ MemAt w' { s with rs := writeRs s.rs addr bs } ∧ ({ s with rs := writeRs s.rs addr bs } : MS).blocks = s.blocks
def ArgAt (w : World) (v : Value) (bs : List Int) : Prop := ∃ a c, v = .slice a bs.length c ∧ (∀ x ∈ bs, 0 ≤ x ∧ x ≤ 255) ∧ bs.length ≤ 9223372036854775807 ∧ (1 ≤ bs.length → ∃ k off, a = some ⟨k, off, none⟩ ∧ BytesAt w k off bs)
theorem write_any {w : World} {s : MS} (h : MemAt w s) (addr : Int) (v : Value) (bs : List Int) (ha0 : 0 ≤ addr) (ha1 : addr ≤ 18446744073709551615) (hv : ArgAt w v bs) :
  Calls Try.prog 16 #[.pointer (some ⟨s.m, 0, none⟩), .int .u64 addr, v] w (WritePost w s addr bs) := by
 obtain ⟨a, c, rfl, hbb, hn2, hb⟩ := hv
 by_cases h0 : bs.length = 0
 ·have HF : Hid (WritePost w s addr bs (.returned (.int .i64 0)) w) := by
   have e : writeRs s.rs addr bs = s.rs := by unfold writeRs; rw [if_pos h0]
   refine ⟨by unfold writeE; rw [if_pos h0], Touch.refl _ w, ?_, ?_⟩
   ·rw [e]; exact h
   ·rw [e]
  have h0' : ((bs.length : Int) == 0) = true := by simpa using h0
  clear h hb
  go_enter Try.func16, Try.ntmps16
  go_wp2
  go_ret
  exact HF.out
 ·obtain ⟨k, off, rfl, hbytes⟩ := hb (by omega)
  have HL := toHid (lay_any h addr k off bs.length c bs ha0 ha1 (by omega) hn2 rfl hbytes hbb)
  have HE : Hid (writeE s.rs addr bs = layE s.rs addr bs.length) := by
   show writeE s.rs addr bs = layE s.rs addr bs.length
   unfold writeE
   rw [if_neg h0]
  have HF : ∀ w', LayPost w s addr bs (.returned (.int .i64 (layE s.rs addr bs.length))) w' → Hid (WritePost w s addr bs (.returned (.int .i64 (layE s.rs addr bs.length))) w') := fun w' hh => by
   have e : writeRs s.rs addr bs = layRs s.rs addr bs := by unfold writeRs; rw [if_neg h0]
   refine ⟨by rw [HE.out], hh.2.1, ?_, ?_⟩
   ·rw [e]; exact hh.2.2.1
   ·rw [e]; exact hh.2.2.2
  have h0' : ((bs.length : Int) == 0) = false := by simpa using h0
  have HFF := toHid HF
  clear h hb HF hbytes hbb
  go_enter Try.func16, Try.ntmps16
  go_wp2_with fail
  refine HL.out.mono ?_
  rintro e w' hp
  obtain rfl := hp.1
  have H3 := HFF.out w' hp
  clear hp HFF HL
  generalize layE s.rs addr bs.length = x at H3
  go_wp2
  go_ret
  exact H3.out
end Go.Proofs.Ytmhhahmjkopjhaa.Mem
end
section
namespace Go.Proofs.Ytmhhahmjkopjhaa
open Go.RowKit
theorem method_put (k : Int) (k0 : 0 ≤ k) (k3 : k ≤ 3) (X : Nat) (n : Nat) : ∀ w : World, (method (n + 1) (typF k) (.pointer (some ⟨X, 0, none⟩)) "Put").run Try.prog w = .ok (putF k, .pointer (some ⟨X, 0, none⟩)) w := by
 obtain rfl | rfl | rfl | rfl : k = 0 ∨ k = 1 ∨ k = 2 ∨ k = 3 := by omega
 all_goals (intro w; kernel_rfl)
theorem call_put (k : Int) (k0 : 0 ≤ k) (k3 : k ≤ 3) : ∀ (args : Array Value) (w : World), (callFunc (putF k) args).run Try.prog w = .ok (.enter (putF k) args) w := by
 obtain rfl | rfl | rfl | rfl : k = 0 ∨ k = 1 ∨ k = 2 ∨ k = 3 := by omega
 all_goals (intro args w; kernel_rfl)
theorem poldFrom_lt (ws : List Int) : ∀ n a, a < ws.length → n ≤ ws.length → oldFrom ws n a < ws.length
 | 0, a, h, _ => h
 | n + 1, a, h, hn => by
  rw [oldFrom_succ]
  refine poldFrom_lt ws n _ ?_ (by omega)
  split <;> omega
theorem pput_slot {q : PX} (g : PGood q) {bs : List Int} {fl : Int} (h : (q.putA bs fl).1.2.2 = 0) : ∃ s : Nat, (q.putA bs fl).1.1 = s ∧ s < q.slots.length := by
 unfold PX.putA at h ⊢
 split at h
 ·rename_i hk
  rw [if_pos hk]
  unfold PX.put3 at h ⊢
  split at h
  ·rename_i hf
   rw [if_pos hf]
   split at h
   ·cases h
   ·rename_i hfl
    rw [if_neg hfl]
    cases hs : sameP q.slots (cutP bs) with
    | some i =>
     rw [hs] at h
     dsimp only at h ⊢
     split at h
     ·cases h
     ·rename_i h1
      rw [if_neg h1]
      exact ⟨i, rfl, sameP_lt hs⟩
    | none =>
     rw [hs] at h
     dsimp only at h ⊢
     split at h
     ·cases h
     ·rename_i h1
      rw [if_neg h1]
      cases hf2 : freeP q.slots with
      | some f => exact ⟨f, rfl, freeP_lt hf2⟩
      | none => rw [hf2] at h; cases h
  ·cases h
 ·rename_i hk
  rw [if_neg hk]
  unfold PX.put at h ⊢
  split at h
  ·rename_i hf
   rw [if_pos hf]
   split at h
   ·cases h
   ·rename_i hfl
    rw [if_neg hfl]
    cases hs : sameP q.slots bs with
    | some i =>
     rw [hs] at h
     dsimp only at h ⊢
     split at h
     ·cases h
     ·rename_i h1
      rw [if_neg h1]
      exact ⟨i, rfl, sameP_lt hs⟩
    | none =>
     rw [hs] at h
     dsimp only at h ⊢
     split at h
     ·cases h
     ·rename_i h0
      rw [if_neg h0]
      split at h
      ·cases h
      ·rename_i h1
       rw [if_neg h1]
       cases hr : q.room with
       | none => rw [hr] at h; cases h
       | some f =>
        refine ⟨f, rfl, ?_⟩
        unfold PX.room at hr
        cases hf2 : freeP q.slots with
        | some f2 =>
         rw [hf2] at hr
         injection hr with hr
         rw [← hr]
         exact freeP_lt hf2
        | none =>
         rw [hf2] at hr
         dsimp only at hr
         split at hr
         ·injection hr with hr
          rw [← hr, ← g.whens]
          have := g.m1
          have := g.whens
          exact poldFrom_lt _ _ _ (by omega) (Nat.le_refl _)
         ·cases hr
  ·cases h
def updP (x : PT) (i : Int) (bs vs : List Int) (fl : Int) : Int × List PX × Option Int :=
 if chkP x.ds i bs.length = 0 then match x.maps[i.toNat]? with
  | some m => if (vs.length : Int) = m.d.val then
    (if (m.q.putA bs fl).1.2.2 = 0 then (0, x.qs.set i.toNat (m.q.putA bs fl).2, some (plI i (m.q.putA bs fl).1.1))
    else ((m.q.putA bs fl).1.2.2, x.qs.set i.toNat (m.q.putA bs fl).2, none))
   else (2, x.qs, none)
  | none => (14, x.qs, none)
 else (chkP x.ds i bs.length, x.qs, none)
structure PUSt (w w' : World) (x x' : PT) (s : Mem.MS) (qs : List PX) (rs : List Mem.Reg) : Prop where
 both : PBoth w' x' { s with rs := rs }
 qs : x'.qs = qs
 t : x'.t = x.t
 ds : x'.ds = x.ds
 sblk : ({ s with rs := rs } : Mem.MS).blocks = s.blocks
 touch : Touch (x.blocks ++ s.blocks) w w'
 blocks : ∀ b ∈ x'.blocks, b ∈ x.blocks ∨ w.heap.size ≤ b
theorem PUSt.same {w w' : World} {x x' : PT} {s : Mem.MS} {qs : List PX} (h : PBoth w x s) (st : PStep w w' x x' qs) : PUSt w w' x x' s qs s.rs :=
 ⟨h.step st, st.qs, st.t, st.ds, rfl, st.touch.mono (fun _b hb => Or.inl (List.mem_append_left _ hb)), st.blocks⟩
def updE (rs : List Mem.Reg) (vs : List Int) (a : Int × List PX × Option Int) : Int := match a.2.2 with
 | some p => Mem.writeE rs p vs
 | none => a.1
def updRs (rs : List Mem.Reg) (vs : List Int) (a : Int × List PX × Option Int) : List Mem.Reg := match a.2.2 with
 | some p => Mem.writeRs rs p vs
 | none => rs
def PUpdPost (w : World) (x : PT) (s : Mem.MS) (vs : List Int) (a : Int × List PX × Option Int) (e : Ending) (w' : World) : Prop := e = .returned (.int .i64 (updE s.rs vs a)) ∧ ∃ x', PUSt w w' x x' s a.2.1 (updRs s.rs vs a)
theorem pupdate_any {w : World} {x : PT} {s : Mem.MS} (h : PBoth w x s) (i : Int) {sa : Option Addr} {sl : Nat} {bs : List Int} (hk : KeyAt w sa sl bs) (sc : Nat) (hsc : sl ≤ sc)
  (hout : ∀ b off, sa = some ⟨b, off, none⟩ → 1 ≤ bs.length → b ∉ x.blocks) {va : Option Addr} {vl : Nat} {vs : List Int} (hv : KeyAt w va vl vs) (vc : Nat) (hvout : ∀ b off, va = some ⟨b, off, none⟩ → 1 ≤ vs.length → b ∉ x.blocks) (fl : Int) (f0 : 0 ≤ fl) :
  Calls Try.prog 7 #[.pointer (some ⟨x.t, 0, none⟩), .int .i64 i, .slice sa sl sc, .slice va vl vc, .int .u64 fl] w (PUpdPost w x s vs (updP x i bs vs fl)) := by
 have hz := (zero_of_info (P := Try.prog) zero89).1
 have hsz := (zero_of_info (P := Try.prog) zero89).2
 have H1 := toHid (asked_any h.tab i sa sl sc (by have := hk.1; have := hk.2.2.1; omega))
 have hl := hk.1
 have hvl := hv.1
 subst hl hvl
 have hvl9 := hv.2.2.1
 by_cases h0 : chkP x.ds i bs.length = 0
 ·obtain ⟨k, m, rfl, hm, hkey⟩ := chk_ok h0
  have hmem := List.mem_of_getElem? hm
  have hv1 : updP x k bs vs fl = if (vs.length : Int) = m.d.val then
    (if (m.q.putA bs fl).1.2.2 = 0 then (0, x.qs.set k (m.q.putA bs fl).2, some (plI k (m.q.putA bs fl).1.1))
    else ((m.q.putA bs fl).1.2.2, x.qs.set k (m.q.putA bs fl).2, none))
   else (2, x.qs, none) := by
   unfold updP
   rw [if_pos h0, Int.toNat_natCast, hm]
  have ha : askV x k bs.length = m.v := by unfold askV; rw [if_pos h0, nth_of hm]; rfl
  rw [h0, ha] at H1
  rw [hv1]
  have hok := h.tab.ok m hmem
  have hgood := (h.tab.maps m hmem).good
  have hkd := hok.kind
  by_cases hvv : (vs.length : Int) = m.d.val
  ·rw [if_pos hvv]
   have hs : ((vs.length : Int) != m.d.val) = false := by simpa using hvv
   have HMT := method_put m.d.kind (by rw [← hkd]; exact hgood.k0) (by rw [← hkd]; exact hgood.k3) m.X
   have HCF := call_put m.d.kind (by rw [← hkd]; exact hgood.k0) (by rw [← hkd]; exact hgood.k3)
   have HF := toHid (fun w0 (ht : Touch [] w w0) => kput_any ((h.tab.maps m hmem).still ht) (hk.touch ht) (fun b off e hp hx => hout b off e hp (PT.mem_map hmem hx)) sc hsc fl f0)
   rw [hkd] at HF
   have HG := toHid (And.intro h (And.intro hm (hgood.putA bs fl)))
   have HSL := toHid (fun h9 => pput_slot hgood (bs := bs) (fl := fl) h9)
   have HV := toHid (And.intro hv (And.intro hvout hgood.m2))
   have hk8 : k < 8 := by have := (List.getElem?_eq_some_iff.1 hm).1; have := h.tab.many; omega
   unfold PMap.v ixV at H1
   generalize m.q.putA bs fl = pq at *
   obtain ⟨⟨sI, fr, er⟩, q⟩ := pq
   generalize hVL : vs.length = VL at *
   have HVL := toHid hVL
   generalize typF m.d.kind = ty at *
   generalize putF m.d.kind = ff at *
   generalize hmv : m.d.val = mv at *
   clear h hk hv hvout hout h0 hmem hv1 hkey hm hok hgood hkd hVL hmv ha hvv
   by_cases he : er = 0
   ·subst he
    rw [if_pos rfl]
    go_enter Try.func7, Try.ntmps7
    go_wp2_with fail
    refine Calls.mono H1.out ?_
    rintro e w2 ⟨rfl, ht2⟩
    have hta : ∀ o, Touch [] w (w2.alloc o) := fun o => ht2.alloc o
    have HT := toHid hta
    clear ht2 hta H1
    go_wp2_with fail
    refine Calls.mono (HF.out _ (HT.out _)) ?_
    rintro e w3 ⟨rfl, st⟩
    obtain ⟨x1, st1⟩ := HG.out.1.tab.step HG.out.2.1 (st.of_still (HT.out _)) HG.out.2.2.2
    obtain ⟨sN, hsI, hsN⟩ := HSL.out trivial
    have hsI : sI = sN := hsI
    subst hsI
    have hB := HG.out.1.step st1
    have hBd := hB.still ((Touch.refl [] w3).drew)
    have hs64 : sN < 64 := by have := HV.out.2.2; omega
    have HP := toHid (fun w0 => place_any w0 k sN hk8 hs64)
    have hkv := (HV.out.1.over st1.touch (fun b off e hp => HV.out.2.1 b off e (by rw [← HVL.out]; exact hp))).touch ((Touch.refl [] w3).drew)
    have hav : Mem.ArgAt w3.drew (.slice va VL vc) vs := ⟨va, vc, by rw [HVL.out], hkv.2.1, hkv.2.2.1, fun hp => by
     obtain ⟨b, off, e1, hc⟩ := hkv.2.2.2 hp
     refine ⟨b, off, e1, fun j v hj => ?_⟩
     have hjl : j < vs.length := by have := (List.getElem?_eq_some_iff.1 hj).1; simpa using this
     have := hc j hjl
     rw [List.getElem?_map, List.getElem?_eq_getElem hjl] at hj
     rw [List.getD_eq_getElem?_getD, List.getElem?_eq_getElem hjl] at this
     rw [this]
     exact hj⟩
    have HA := toHid (Mem.write_any hBd.mem (plI k sN) (.slice va VL vc) vs (by unfold plI; omega) (by unfold plI; omega) hav)
    have ht0 : x.t ∉ s.blocks := by rw [← st1.t]; exact hB.apart _ (PT.mem_top (by simp [PT.top]))
    have e0 := hBd.tab.c0
    rw [hBd.at_, st1.t] at e0
    have HSS : Hid (∀ w', Touch s.blocks w3.drew w' → w'.cell? ⟨x.t, 0, none⟩ = some (.pointer (some ⟨s.m, 0, none⟩))) := fun w' ht => ht.cell e0 ht0
    have HU : Hid (∀ w', Touch s.blocks w3.drew w' → Mem.MemAt w' { s with rs := Mem.writeRs s.rs (plI k sN) vs } → ({ s with rs := Mem.writeRs s.rs (plI k sN) vs } : Mem.MS).blocks = s.blocks → PUpdPost w x s vs (0, x.qs.set k q, some (plI k sN)) (.returned (.int .i64 (Mem.writeE s.rs (plI k sN) vs))) w') := fun w' ht hm hb =>
     ⟨rfl, x1, ⟨hBd.over hm rfl (fun b hb' => Or.inl (hb ▸ hb')) ht, st1.qs, st1.t, st1.ds, hb, ((st1.touch.drew).mono (S' := x.blocks ++ s.blocks) (fun b hb => Or.inl (List.mem_append_left _ hb))).trans ht (fun b hb => Or.inl (List.mem_append_right _ hb)), st1.blocks⟩⟩
    generalize plI k sN = pl at *
    clear st st1 hB hBd hs64 hkv hav ht0 e0 hsN HF HMT HCF HT
    go_wp2_with fail
    refine wp_region_held_drew (S := fun w' => w'.cell? ⟨x.t, 0, none⟩ = some (.pointer (some ⟨s.m, 0, none⟩))) (by kernel_rfl) ?_ (fun hHeld => ?_)
    ·exact HSS.out _ (Touch.refl _ _)
    refine tk 0 (v := ?_) rfl ?_ ?_
    rotate_left
    ·(intro w hSw; (try dsimp only at hSw); go_simp; try with_reducible rfl)
    simp only [Act.put, AP]
    refine tk 1 (v := ?_) rfl ?_ ?_
    rotate_left
    ·(intro w hSw; (try dsimp only at hSw); go_simp; try with_reducible rfl)
    simp only [Act.put, AP]
    refine tk 2 (v := ?_) rfl ?_ ?_
    rotate_left
    ·(intro w hSw; (try dsimp only at hSw); go_simp; try with_reducible rfl)
    simp only [Act.put, AP]
    refine tk 3 (v := ?_) rfl ?_ ?_
    rotate_left
    ·(intro w hSw; (try dsimp only at hSw); go_simp; try with_reducible rfl)
    simp only [Act.put, AP]
    refine tk 4 (v := ?_) rfl ?_ ?_
    rotate_left
    ·(intro w hSw; (try dsimp only at hSw); go_simp; try with_reducible rfl)
    simp only [Act.put, AP]
    refine tk 5 (v := ?_) rfl ?_ ?_
    rotate_left
    ·(intro w hSw; (try dsimp only at hSw); go_simp; try with_reducible rfl)
    simp only [Act.put, AP]
    refine tk 7 (v := ?_) rfl ?_ ?_
    rotate_left
    ·(intro w hSw; (try dsimp only at hSw); go_simp; try with_reducible rfl)
    simp only [Act.put, AP]
    refine wpAnyH_ready (rs := [6]) (by kernel_rfl) (by simp) ?_
    refine AllReadyH.cons rfl (fun K hK => ?_) AllReadyH.nil
    simp only [AP]
    go_simp
    refine Calls.mono (HP.out _) ?_; rintro e w4 ⟨rfl, rfl⟩
    go_wp2_with fail
    refine hK.out _ _ ?_ (fun hHeld => ?_)
    ·exact HSS.out _ (Touch.refl _ _)
    clear hK K
    try simp only [Act.put, AP]
    refine wpAnyH_ready (rs := [8]) (by kernel_rfl) (by simp) ?_
    refine AllReadyH.cons rfl (fun K hK => ?_) AllReadyH.nil
    simp only [AP]
    go_simp
    refine Calls.mono HA.out ?_; rintro e w4 ⟨rfl, ht4, hm4, hb4⟩; have HN := toHid (HU.out _ ht4 hm4 hb4); have HTX := toHid ht4; clear ht4 hm4 hb4
    go_wp2_with fail
    refine hK.out _ _ ?_ (fun hHeld => ?_)
    ·exact HSS.out _ HTX.out
    clear hK K
    try simp only [Act.put, AP]
    refine wpAnyH_ready (rs := [9]) (by kernel_rfl) (by simp) ?_
    refine AllReadyH.cons rfl (fun K hK => ?_) AllReadyH.nil
    simp only [AP]
    go_simp
    refine hK.out _ _ ?_ (fun hHeld => ?_)
    ·exact hHeld
    clear hK K
    try simp only [Act.put, AP]
    refine wpAnyH_done (by kernel_rfl) ?_ _
    clear hHeld HSS HA HU HTX
    go_wp2
    go_ret
    exact HN.out
   ·rw [if_neg he]
    have hne : (er != 0) = true := by simpa using he
    clear he
    go_enter Try.func7, Try.ntmps7
    go_wp2_with fail
    refine Calls.mono H1.out ?_
    rintro e w2 ⟨rfl, ht2⟩
    have hta : ∀ o, Touch [] w (w2.alloc o) := fun o => ht2.alloc o
    have HT := toHid hta
    clear ht2 hta H1
    go_wp2_with fail
    refine Calls.mono (HF.out _ (HT.out _)) ?_
    rintro e w3 ⟨rfl, st⟩
    obtain ⟨x1, st1⟩ := HG.out.1.tab.step HG.out.2.1 (st.of_still (HT.out _)) HG.out.2.2.2
    have HX := toHid (PUSt.same HG.out.1 st1)
    clear st st1 HF HMT HCF
    go_wp2
    go_ret
    exact ⟨rfl, x1, HX.out⟩
  ·rw [if_neg hvv]
   have hs : ((vs.length : Int) != m.d.val) = true := by simpa using hvv
   have HX := toHid h
   unfold PMap.v ixV at H1
   generalize vs.length = VL at *
   generalize typF m.d.kind = ty at *
   generalize m.d.val = mv at *
   clear h hk hv hvout hout h0 hmem hv1 hkey hm hok hgood hkd ha hvv
   go_enter Try.func7, Try.ntmps7
   go_wp2_with fail
   refine Calls.mono H1.out ?_
   rintro e w2 ⟨rfl, ht2⟩
   have HF : Hid (∀ o, ∃ x', PUSt w (w2.alloc o) x x' s x.qs s.rs) := fun o => ⟨x, PUSt.same HX.out (PStep.refl HX.out.tab (ht2.alloc o))⟩
   clear ht2
   go_wp2
   go_ret
   exact ⟨rfl, HF.out _⟩
 ·have hv1 : updP x i bs vs fl = (chkP x.ds i bs.length, x.qs, none) := if_neg h0
  have ha : askV x i bs.length = zeroV := if_neg h0
  rw [ha] at H1
  rw [hv1]
  have HX := toHid h
  have hne : (chkP x.ds i bs.length != 0) = true := by simpa using h0
  unfold zeroV at H1
  clear hk h0 hv hv1 ha hout hvout h
  generalize chkP x.ds i bs.length = ce at *
  go_enter Try.func7, Try.ntmps7
  go_wp2_with fail
  refine Calls.mono H1.out ?_
  rintro e w2 ⟨rfl, ht2⟩
  have HF : Hid (∀ o, ∃ x', PUSt w (w2.alloc o) x x' s x.qs s.rs) := fun o => ⟨x, PUSt.same HX.out (PStep.refl HX.out.tab (ht2.alloc o))⟩
  clear ht2
  go_wp2
  go_ret
  exact ⟨rfl, HF.out _⟩
end Go.Proofs.Ytmhhahmjkopjhaa
end
section
namespace Go.Proofs.Ytmhhahmjkopjhaa.Mem
open Go.RowKit
def SliceIs (w : World) (v : Value) (bs : List Int) : Prop := (bs = [] ∧ v = .slice none 0 0) ∨ (1 ≤ bs.length ∧ ∃ N, v = .slice (some ⟨N, 0, none⟩) bs.length bs.length ∧ Blk w N (bs.map (Value.int .u8)) 5)
def readE (rs : List Reg) (addr n : Int) : Int := if n < 0 then 2 else if n = 0 then 0 else lookE rs addr n
def readV (rs : List Reg) (addr n : Int) : List Int := if n ≤ 0 then [] else tellR rs addr n
def ReadPost (w : World) (s : MS) (addr n : Int) (e : Ending) (w' : World) : Prop := ∃ v, e = .returned (.tuple #[v, .int .i64 (readE s.rs addr n)]) ∧ SliceIs w' v (readV s.rs addr n) ∧ Touch [] w w'
def regOf (rs : List Reg) (id : Int) : Option Reg := rs.find? (fun r => r.id == id)
def BytesPost (w : World) (s : MS) (id : Int) (e : Ending) (w' : World) : Prop := Touch [] w w' ∧ match regOf s.rs id with
 | none => e = .returned (.tuple #[.slice none 0 0, .int .i64 14])
 | some r => ∃ v, e = .returned (.tuple #[v, .int .i64 0]) ∧ SliceIs w' v r.bytes
end Go.Proofs.Ytmhhahmjkopjhaa.Mem
end
section
namespace Go.Proofs.Ytmhhahmjkopjhaa.Mem
open Go.RowKit
def ReadPost2 (w : World) (s : MS) (addr n : Int) (e : Ending) (w' : World) : Prop := ∃ v, e = .returned (.tuple #[v, .int .i64 (readE s.rs addr n)]) ∧ SliceIs w' v (readV s.rs addr n) ∧ (∀ b off l c, v = .slice (some ⟨b, off, none⟩) l c → w.heap.size ≤ b) ∧ Touch [] w w'
theorem read2_any {w : World} {s : MS} (h : MemAt w s) (addr n : Int) (ha0 : 0 ≤ addr) (ha1 : addr ≤ 18446744073709551615) (hn : n ≤ 9223372036854775807) :
  Calls Try.prog 18 #[.pointer (some ⟨s.m, 0, none⟩), .int .u64 addr, .int .i64 n] w (ReadPost2 w s addr n) := by
 by_cases hneg : n < 0
 ·have HF : Hid (ReadPost2 w s addr n (.returned (.tuple #[.slice none 0 0, .int .i64 2])) w) := ⟨_, by unfold readE; rw [if_pos hneg], Or.inl ⟨by unfold readV; rw [if_pos (by omega)], rfl⟩, (fun b _ _ _ e => by cases e), Touch.refl _ w⟩
  clear h
  go_enter Try.func18, Try.ntmps18
  go_wp2
  go_ret2
  exact HF.out
 ·by_cases h0 : n = 0
  ·subst h0
   have HF : Hid (ReadPost2 w s addr 0 (.returned (.tuple #[.slice none 0 0, .int .i64 0])) w) := ⟨_, rfl, Or.inl ⟨rfl, rfl⟩, (fun b _ _ _ e => by cases e), Touch.refl _ w⟩
   clear h
   go_enter Try.func18, Try.ntmps18
   go_wp2
   go_ret2
   exact HF.out
  ·obtain ⟨z, rfl⟩ : ∃ z : Nat, n = z := ⟨n.toNat, by omega⟩
   have hz1 : 1 ≤ z := by omega
   have hb0 : ((z : Int) == 0) = false := by simpa using h0
   have hE : readE s.rs addr z = lookE s.rs addr z := by unfold readE; rw [if_neg hneg, if_neg h0]
   have hV : readV s.rs addr z = tellR s.rs addr z := by unfold readV; rw [if_neg (by omega)]
   have HEV := toHid (And.intro hE hV)
   have HL := toHid (look_any h addr z ha0 ha1 hz1 (by omega))
   have HM := toHid h
   clear h hE hV h0
   go_enter Try.func18, Try.ntmps18
   go_wp2_with fail
   refine HL.out.mono ?_
   rintro e w' ⟨⟨k, rfl⟩, (⟨h1, h2, rfl⟩ | ⟨h1, r, hr, a, hal, htell, rfl⟩)⟩
   ·generalize hx : lookE s.rs addr z = x at *
    have HF : Hid (ReadPost2 w s addr z (.returned (.tuple #[.slice none 0 0, .int .i64 x])) (w.drewN k)) := ⟨_, by rw [HEV.out.1], Or.inl ⟨by rw [HEV.out.2, h2], rfl⟩, (fun b _ _ _ e => by cases e), (Touch.refl _ w).drewN k⟩
    have hb : (x == 0) = false := by simpa using h1
    have hb2 : (x != 0) = true := by simpa using h1
    clear HL h1 h2 hx
    go_wp2
    go_ret2
    exact HF.out
   ·have hbb := BytesAt.of_blk (off := a) ((HM.out.regs r hr).bytes.drewN k) z
    have hlen : ((r.bytes.drop a).take z).length = z := by simp; omega
    have hsz := (HM.out.ok r hr).size2
    have HC := toHid (copied_any r.bb a z z ((r.bytes.drop a).take z) (w.drewN k) (by omega) hlen hbb ((HM.out.regs r hr).bytes.lt))
    have HT := toHid (And.intro htell h1)
    clear hbb htell h1 HL
    go_wp2_with fail
    refine HC.out.mono ?_
    rintro e w2 ⟨rfl, hB, ht⟩
    have HF : Hid (ReadPost2 w s addr z (.returned (.tuple #[.slice (some ⟨w.heap.size, 0, none⟩) z z, .int .i64 0])) w2) := by
     refine ⟨_, by rw [HEV.out.1, HT.out.2], Or.inr ⟨by rw [HEV.out.2, HT.out.1, hlen]; exact hz1, w.heap.size, ?_, ?_⟩, (fun b _ _ _ e => by injection e with e; injection e with e; injection e with e; omega), ((Touch.refl [] w).drewN k).trans ht (by simp)⟩
     ·rw [HEV.out.2, HT.out.1, hlen]
     ·rw [HEV.out.2, HT.out.1]
      exact hB
    clear HC hB ht
    go_wp2
    go_ret2
    exact HF.out
end Go.Proofs.Ytmhhahmjkopjhaa.Mem
end
section
namespace Go.Proofs.Ytmhhahmjkopjhaa
open Go.RowKit
def getP (x : PT) (rs : List Mem.Reg) (i : Int) (bs : List Int) : (List Int × Int) × List PX :=
 if chkP x.ds i bs.length = 0 then match x.maps[i.toNat]? with
  | some m => ((match (m.q.findA bs).1 with
   | some s => (Mem.readV rs (plI i (s : Int)) m.d.val, Mem.readE rs (plI i (s : Int)) m.d.val)
   | none => ([], 14)), x.qs.set i.toNat (m.q.findA bs).2)
  | none => (([], 14), x.qs)
 else (([], chkP x.ds i bs.length), x.qs)
def PGetPost (w : World) (x : PT) (a : (List Int × Int) × List PX) (e : Ending) (w' : World) : Prop := ∃ v, e = .returned (.tuple #[v, .int .i64 a.1.2]) ∧ Mem.SliceIs w' v a.1.1 ∧ (∀ b off l c, v = .slice (some ⟨b, off, none⟩) l c → w.heap.size ≤ b) ∧ ∃ x', PStep w w' x x' a.2
theorem PStep.maps_at {w w' : World} {x x' : PT} {qs : List PX} (st : PStep w w' x x' qs) {k : Nat} {m : PMap} (hm : x.maps[k]? = some m) : ∃ m', x'.maps[k]? = some m' ∧ m'.d = m.d := by
 have h1 := congrArg (fun l => l[k]?) st.ds
 unfold PT.ds at h1
 simp only [List.getElem?_map, hm, Option.map_some] at h1
 cases hq : x'.maps[k]? with
 | none => rw [hq] at h1; cases h1
 | some m' =>
  rw [hq] at h1
  simp only [Option.map_some, Option.some.injEq] at h1
  exact ⟨m', rfl, h1⟩
end Go.Proofs.Ytmhhahmjkopjhaa
end
section
namespace Go.Proofs.Ytmhhahmjkopjhaa
open Go.RowKit
def PAdds : List (Int × Int) → List Mem.Reg × Nat → List Mem.Reg × Nat → Prop
 | [], a, b => b = a
 | p :: ps, a, b => ∃ (i : Nat) (r : Mem.Reg), i ≤ a.1.length ∧ Mem.RegOk r ∧ Mem.NewReg r a.2 p.1 p.2 3 ∧ PAdds ps (a.1.take i ++ r :: a.1.drop i, a.2 + 1) b
theorem PAdds.snoc {ps : List (Int × Int)} {p : Int × Int} : ∀ {a b : List Mem.Reg × Nat}, PAdds ps a b → ∀ {i : Nat} {r : Mem.Reg}, i ≤ b.1.length → Mem.RegOk r → Mem.NewReg r b.2 p.1 p.2 3 → PAdds (ps ++ [p]) a (b.1.take i ++ r :: b.1.drop i, b.2 + 1) := by
 induction ps with
 | nil =>
  intro a b h i r hi ho hn
  have h : b = a := h
  subst h
  exact ⟨i, r, hi, ho, hn, rfl⟩
 | cons q ps ih =>
  intro a b h i r hi ho hn
  obtain ⟨j, r2, h1, h2, h3, h4⟩ := h
  exact ⟨j, r2, h1, h2, h3, ih h4 hi ho hn⟩
theorem mem_put {rs : List Mem.Reg} {i : Nat} {r : Mem.Reg} (y : Mem.Reg) : y ∈ rs.take i ++ r :: rs.drop i ↔ y = r ∨ y ∈ rs := by
 rw [List.mem_append, List.mem_cons]
 constructor
 ·rintro (hx | rfl | hx)
  ·exact Or.inr (List.mem_of_mem_take hx)
  ·exact Or.inl rfl
  ·exact Or.inr (List.mem_of_mem_drop hx)
 ·rintro (rfl | hx)
  ·exact Or.inr (Or.inl rfl)
  ·rw [← List.take_append_drop i rs, List.mem_append] at hx
   rcases hx with hx | hx
   ·exact Or.inl hx
   ·exact Or.inr (Or.inr hx)
theorem PAdds.facts {ps : List (Int × Int)} : ∀ {a b : List Mem.Reg × Nat}, PAdds ps a b → b.1.length = a.1.length + ps.length ∧ b.2 = a.2 + ps.length ∧ (∀ r ∈ a.1, r ∈ b.1) ∧ (∀ p ∈ ps, ∃ r ∈ b.1, ∃ id, Mem.RegOk r ∧ Mem.NewReg r id p.1 p.2 3) ∧ (∀ r ∈ b.1, r ∈ a.1 ∨ ∃ p ∈ ps, ∃ id, Mem.NewReg r id p.1 p.2 3) := by
 induction ps with
 | nil =>
  intro a b h
  have h : b = a := h
  subst h
  exact ⟨rfl, rfl, fun _ hr => hr, by simp, fun _ hr => Or.inl hr⟩
 | cons q ps ih =>
  intro a b h
  obtain ⟨j, r2, h1, h2, h3, h4⟩ := h
  obtain ⟨e1, e2, e3, e4, e5⟩ := ih h4
  refine ⟨?_, ?_, fun r hr => e3 r ((mem_put r).2 (Or.inr hr)), fun p hp => ?_, fun r hr => ?_⟩
  ·rw [e1]
   simp
   omega
  ·rw [e2]
   simp
   omega
  ·rcases List.mem_cons.1 hp with rfl | hp
   ·exact ⟨r2, e3 r2 ((mem_put r2).2 (Or.inl rfl)), _, h2, h3⟩
   ·exact e4 p hp
  ·rcases e5 r hr with hx | ⟨p, hp, id, hx⟩
   ·rcases (mem_put r).1 hx with rfl | hx
    ·exact Or.inr ⟨q, by simp, _, h3⟩
    ·exact Or.inl hx
   ·exact Or.inr ⟨p, by simp [hp], id, hx⟩
def rowP (i : Nat) (v : Int) (n : Nat) : List (Int × Int) := (List.range n).map fun s : Nat => (plI i s, v)
theorem rowP_succ (i : Nat) (v : Int) (n : Nat) : rowP i v (n + 1) = rowP i v n ++ [(plI i n, v)] := by
 unfold rowP
 rw [List.range_succ, List.map_append]
 rfl
theorem rowP_len (i : Nat) (v : Int) (n : Nat) : (rowP i v n).length = n := by simp [rowP]
def plcs (ds : List MDef) (k : Nat) : List (Int × Int) := (List.range k).flatMap fun i => match ds[i]? with
 | some d => rowP i d.val d.max.toNat
 | none => []
theorem plcs_succ {ds : List MDef} {k : Nat} {d : MDef} (h : ds[k]? = some d) : plcs ds (k + 1) = plcs ds k ++ rowP k d.val d.max.toNat := by
 unfold plcs
 rw [List.range_succ, List.flatMap_append, List.flatMap_singleton, h]
theorem plcs_mem {ds : List MDef} {k : Nat} {p : Int × Int} (h : p ∈ plcs ds k) : ∃ (i : Nat) (d : MDef) (s : Nat), i < k ∧ ds[i]? = some d ∧ (s : Int) < d.max ∧ p = (plI i s, d.val) := by
 unfold plcs at h
 obtain ⟨i, hi, hp⟩ := List.mem_flatMap.1 h
 cases hd : ds[i]? with
 | none =>
  rw [hd] at hp
  cases hp
 | some d =>
  rw [hd] at hp
  obtain ⟨s, hs, rfl⟩ := List.mem_map.1 hp
  have := List.mem_range.1 hs
  exact ⟨i, d, s, List.mem_range.1 hi, hd, by omega, rfl⟩
theorem plcs_len {ds : List MDef} : ∀ {k : Nat}, k ≤ ds.length → (∀ d ∈ ds, 0 ≤ d.max) → ((plcs ds k).length : Int) = maxSum (ds.take k)
 | 0, _, _ => by simp [plcs, maxSum]
 | k + 1, hk, h => by
  have hd : ds[k]? = some ds[k] := List.getElem?_eq_getElem (by omega)
  rw [plcs_succ hd, maxSum_snoc ds k _ hd, List.length_append, rowP_len, ← plcs_len (k := k) (by omega) h]
  have := h _ (List.mem_of_getElem? hd)
  omega
theorem NewReg.off {r : Mem.Reg} {id b n p v : Int} (h : Mem.NewReg r id b n 3) (h0 : 0 ≤ n) (hp : p + v ≤ b ∨ b + n ≤ p) : ¬ (r.base < p + v ∧ p < r.base + (r.bytes.length : Int)) := by
 have h1 := h.hbase
 have h2 := h.hbytes
 rw [h1, h2, List.length_replicate]
 omega
theorem PAdds.free {ps : List (Int × Int)} {a b : List Mem.Reg × Nat} (h : PAdds ps a b) {p v : Int} (hf : Mem.busyB a.1 p v = false) (ho : ∀ q ∈ ps, 0 ≤ q.2 ∧ (p + v ≤ q.1 ∨ q.1 + q.2 ≤ p)) : Mem.busyB b.1 p v = false := by
 obtain ⟨_, _, _, _, e5⟩ := h.facts
 cases hb : Mem.busyB b.1 p v with
 | false => rfl
 | true =>
  unfold Mem.busyB at hb
  rw [List.any_eq_true] at hb
  obtain ⟨r, hr, hb⟩ := hb
  have hb := of_decide_eq_true hb
  rcases e5 r hr with hx | ⟨q, hq, id, hx⟩
  ·rw [Mem.busy_of hx hb.1 hb.2] at hf
   cases hf
  ·exact absurd hb (NewReg.off hx (ho q hq).1 (ho q hq).2)
theorem pl_apart {i j s t : Nat} (hs : s < 64) (ht : t < 64) {v u : Int} (v1 : 1 ≤ v) (v2 : v ≤ 64) (u1 : 1 ≤ u) (u2 : u ≤ 64) (h : i ≠ j ∨ s ≠ t) : plI i s + v ≤ plI j t ∨ plI j t + u ≤ plI i s := by
 unfold plI
 omega
structure SetAt (w w' : World) (x : PT) (s s' : Mem.MS) (ps : List (Int × Int)) : Prop where
 both : PBoth w' x s'
 m : s'.m = s.m
 own : ∀ b ∈ s'.blocks, b ∈ s.blocks ∨ w.heap.size ≤ b
 touch : Touch s.blocks w w'
 adds : PAdds ps (s.rs, s.next) (s'.rs, s'.next)
theorem SetAt.start {w : World} {x : PT} {s : Mem.MS} (h : PBoth w x s) : SetAt w w x s s [] := ⟨h, rfl, fun _ hb => Or.inl hb, Touch.refl _ _, rfl⟩
theorem SetAt.still {w w' w2 : World} {x : PT} {s s' : Mem.MS} {ps : List (Int × Int)} (h : SetAt w w' x s s' ps) (ht : Touch [] w' w2) : SetAt w w2 x s s' ps := ⟨h.both.still ht, h.m, h.own, h.touch.trans ht (by simp), h.adds⟩
theorem SetAt.add {w w' w2 : World} {x : PT} {s s' : Mem.MS} {ps : List (Int × Int)} {p v : Int} {e : Ending} (h : SetAt w w' x s s' ps) (hp : Mem.AddPost w' s' p v 3 e w2) (h0 : Mem.addE s'.rs p v 3 = 0) : ∃ s2, SetAt w w2 x s s2 (ps ++ [(p, v)]) ∧ Touch s'.blocks w' w2 ∧ ∀ b ∈ s2.blocks, b ∈ s'.blocks ∨ w'.heap.size ≤ b := by
 obtain ⟨_, ht, s2, hA, hO, _, hY⟩ := hp
 obtain ⟨hn, i, r, hi, hrs, hr⟩ := hY h0
 have hro : Mem.RegOk r := hA.ok r (by rw [hrs]; simp)
 have hsz := h.touch.size
 refine ⟨s2, ⟨h.both.over hA hO.1 hO.2 ht, by rw [hO.1, h.m], fun b hb => ?_, h.touch.trans ht (fun b hb => h.own b hb), ?_⟩, ht, hO.2⟩
 ·rcases hO.2 b hb with h1 | h1
  ·exact h.own b h1
  ·exact Or.inr (by omega)
 ·rw [hrs, hn]
  exact h.adds.snoc (p := (p, v)) hi hro hr
end Go.Proofs.Ytmhhahmjkopjhaa
end
section
namespace Go.Proofs.Ytmhhahmjkopjhaa
open Go.RowKit
theorem MemAt.find_at {w : World} {s : Mem.MS} (h : Mem.MemAt w s) {r : Mem.Reg} (hr : r ∈ s.rs) : Mem.findR s.rs r.base = some r := by
 refine Mem.findR_of h.sorted (fun x hx => (h.ok x hx).size1) hr ?_
 unfold Mem.hasB
 have := (h.ok r hr).size1
 rw [decide_eq_true_eq]
 omega
theorem bits31 : bits .and .i64 3 1 ≠ 0 := by decide
theorem bits32 : bits .and .i64 3 2 ≠ 0 := by decide
theorem MemAt.read_at {w : World} {s : Mem.MS} (h : Mem.MemAt w s) {r : Mem.Reg} (hr : r ∈ s.rs) (hp : r.perm = 3) : Mem.readE s.rs r.base r.bytes.length = 0 ∧ Mem.readV s.rs r.base r.bytes.length = r.bytes := by
 have hf := MemAt.find_at h hr
 have hok := h.ok r hr
 have h1 := hok.size1
 have hsb : r.sb = none := hok.plain.2 (by omega)
 have hm : Mem.mayB r r.base r.bytes.length 1 = true := by
  unfold Mem.mayB
  rw [decide_eq_true_eq, hp]
  exact ⟨by omega, bits31⟩
 have ha : Mem.allSetB r (r.base - r.base).toNat ((r.bytes.length : Nat) : Int).toNat = true := by
  unfold Mem.allSetB
  rw [hsb]
 constructor
 ·unfold Mem.readE
  rw [if_neg (by omega), if_neg (by omega)]
  unfold Mem.lookE
  rw [hf]
  dsimp only
  rw [if_pos hm, if_pos ha]
 ·unfold Mem.readV
  rw [if_neg (by omega)]
  unfold Mem.tellR
  rw [hf]
  dsimp only
  rw [if_pos ⟨hm, ha⟩, Int.sub_self]
  simp
theorem layR_all {r : Mem.Reg} {vs : List Int} (h : vs.length = r.bytes.length) : (Mem.layR r 0 vs).bytes = vs := by
 unfold Mem.layR
 simp [← h]
theorem MemAt.write_at {w : World} {s : Mem.MS} (h : Mem.MemAt w s) {r : Mem.Reg} (hr : r ∈ s.rs) (hp : r.perm = 3) {vs : List Int} (hl : vs.length = r.bytes.length) : Mem.writeE s.rs r.base vs = 0 ∧ Mem.writeRs s.rs r.base vs = Mem.updR s.rs r.id (Mem.layR · 0 vs) := by
 have hf := MemAt.find_at h hr
 have hok := h.ok r hr
 have h1 := hok.size1
 have hm : Mem.mayB r r.base vs.length 2 = true := by
  unfold Mem.mayB
  rw [decide_eq_true_eq, hp, hl]
  exact ⟨by omega, bits32⟩
 constructor
 ·unfold Mem.writeE Mem.layE
  rw [if_neg (by omega), hf]
  dsimp only
  rw [if_pos hm]
 ·unfold Mem.writeRs Mem.layRs
  rw [if_neg (by omega), hf]
  dsimp only
  rw [if_pos hm, Int.sub_self]
  rfl
end Go.Proofs.Ytmhhahmjkopjhaa
end
section
namespace Go.Proofs.Ytmhhahmjkopjhaa
open Go.RowKit
theorem maxSum_le (ds : List MDef) (h : ∀ d ∈ ds, 0 ≤ d.max) (k : Nat) : maxSum (ds.take k) ≤ maxSum ds := by
 unfold maxSum
 induction ds generalizing k with
 | nil => simp
 | cons d ds ih =>
  cases k with
  | zero =>
   have h0 : 0 ≤ (List.map MDef.max (d :: ds)).sum := by
    have : ∀ l : List MDef, (∀ d ∈ l, 0 ≤ d.max) → 0 ≤ (l.map MDef.max).sum := fun l => by
     induction l with
     | nil => simp
     | cons a l ih2 =>
      intro hl
      have h1 := hl a (by simp)
      have h2 := ih2 (fun d hd => hl d (by simp [hd]))
      simp only [List.map_cons, List.sum_cons]
      omega
    exact this _ h
   simpa using h0
  | succ k =>
   have := ih (fun d hd => h d (by simp [hd])) k
   simp only [List.take_succ_cons, List.map_cons, List.sum_cons]
   omega
structure Settles (x : PT) (s : Mem.MS) : Prop where
 mx : ∀ m ∈ x.maps, 1 ≤ m.d.max ∧ m.d.max ≤ 64
 room : roomOk x.ds s.rs
 next : s.next ≤ 1000000
theorem Settles.add {w w' : World} {x : PT} {s s' : Mem.MS} (h : Settles x s) (ho : ∀ m ∈ x.maps, PMapOk m) (hmany : x.maps.length ≤ 8) {k q : Nat} {m : PMap} (hm : x.maps[k]? = some m) (hq : (q : Int) < m.d.max) (hS : SetAt w w' x s s' (plcs x.ds k ++ rowP k m.d.val q)) :
  Mem.addE s'.rs (plI k q) m.d.val 3 = 0 ∧ s'.next < 4611686018427387904 := by
 have hmem := List.mem_of_getElem? hm
 have hok := ho m hmem
 have hdk : x.ds[k]? = some m.d := by unfold PT.ds; rw [List.getElem?_map, hm]; rfl
 have hkl := (List.getElem?_eq_some_iff.1 hm).1
 have hdl : x.ds.length = x.maps.length := by simp [PT.ds]
 have hmx : ∀ d ∈ x.ds, 1 ≤ d.max ∧ d.max ≤ 64 ∧ 1 ≤ d.val ∧ d.val ≤ 64 := fun d hd => by
  obtain ⟨m', hm', rfl⟩ := List.mem_map.1 hd
  exact ⟨(h.mx m' hm').1, (h.mx m' hm').2, (ho m' hm').v1, (ho m' hm').v2⟩
 have hf := hS.adds.facts
 have hle := plcs_len (ds := x.ds) (k := k) (by omega) (fun d hd => by have := hmx d hd; omega)
 have hsum := maxSum_snoc x.ds k m.d hdk
 have hs1 := maxSum_le x.ds (fun d hd => by have := hmx d hd; omega) (k + 1)
 have hr := h.room.2
 have hbd := maxSum_bd x.ds (fun d hd => by have := hmx d hd; omega)
 have hlen : (plcs x.ds k ++ rowP k m.d.val q).length = (plcs x.ds k).length + q := by rw [List.length_append, rowP_len]
 have hm64 := h.mx m hmem
 have hfree := hS.adds.free (h.room.1 k m.d (by omega) hdk q hq) (fun p hp => by
  rcases List.mem_append.1 hp with hp | hp
  ·obtain ⟨i, d, u, hi, hd, hu, rfl⟩ := plcs_mem hp
   have h9 := hmx d (List.mem_of_getElem? hd)
   refine ⟨by dsimp only; omega, ?_⟩
   exact pl_apart (by omega) (by omega) hok.v1 hok.v2 h9.2.2.1 h9.2.2.2 (Or.inl (by omega))
  ·obtain ⟨u, hu, rfl⟩ := List.mem_map.1 hp
   have h9 := List.mem_range.1 hu
   refine ⟨by have := hok.v1; dsimp only; omega, ?_⟩
   exact pl_apart (by omega) (by omega) hok.v1 hok.v2 hok.v1 hok.v2 (Or.inr (by omega)))
 obtain ⟨f1, f2, _⟩ := hf
 have hnx := h.next
 have f1 : s'.rs.length = s.rs.length + ((plcs x.ds k).length + q) := by rw [← hlen]; exact f1
 have f2 : s'.next = s.next + ((plcs x.ds k).length + q) := by rw [← hlen]; exact f2
 refine ⟨?_, by omega⟩
 unfold Mem.addE Mem.mayBeB
 have hv1 := hok.v1
 have hv2 := hok.v2
 rw [decide_eq_true (by unfold plI; omega), if_neg (by decide), hfree, if_neg (by decide), if_neg (by omega)]
theorem settle_any {w : World} {x : PT} {s : Mem.MS} (h : PBoth w x s) (hs : Settles x s) :
  Calls Try.prog 14 #[.pointer (some ⟨x.t, 0, none⟩)] w fun e w' => e = .returned (.tuple #[]) ∧ ∃ s', SetAt w w' x s s' (plcs x.ds x.maps.length) := by
 have hz := (zero_of_info (P := Try.prog) zero89).1
 have hsz := (zero_of_info (P := Try.prog) zero89).2
 have HS := toHid hs
 have HH := toHid h
 have hmany := h.tab.many
 have c1 := h.tab.c1
 unfold slV at c1
 generalize hsg : (x.g.map fun b => (⟨b, 0, none⟩ : Addr)) = sg at *
 have HG := toHid hsg
 generalize hL : x.maps.length = L at *
 have HL := toHid hL
 clear hs h hsg hL
 go_enter Try.func14, Try.ntmps14
 go_wp2_with fail
 go_loopw [10] (fun t w' => ∃ k : Nat, k ≤ L ∧ t = .int .i64 k ∧ Hid (∃ s', SetAt w w' x s s' (plcs x.ds k))) (fun t _ => L - (intOf t).toNat)
 case atStart => exact ⟨0, by omega, rfl, s, SetAt.start HH.out⟩
 case round =>
  obtain ⟨k, hk, rfl, HI⟩ := hrel
  by_cases hlt : k < L
  ·obtain ⟨s1, hS1⟩ := HI.out
   obtain ⟨m, hm⟩ : ∃ m, x.maps[k]? = some m := ⟨_, List.getElem?_eq_getElem (by rw [HL.out]; exact hlt)⟩
   have hmem := List.mem_of_getElem? hm
   have hB := hS1.both
   obtain ⟨gb, hg⟩ := hB.tab.some_g hm
   have hsg := HG.out
   rw [hg, Option.map_some] at hsg
   subst hsg
   obtain ⟨b0, b1, b2, b3, b4⟩ := hB.tab.boxed hm hg
   have hmk := HS.out.mx m hmem
   have hok := hB.tab.ok m hmem
   have hm1 := hok.v1
   have hm2 := hok.v2
   obtain ⟨V, hV⟩ : ∃ V : Nat, m.d.val = V := Int.eq_ofNat_of_zero_le (by omega)
   obtain ⟨M, hM⟩ : ∃ M : Nat, m.d.max = M := Int.eq_ofNat_of_zero_le (by omega)
   have hnb : wr.heap.size ∉ s1.blocks := fun hx => by have := hB.mem.lt _ hx; omega
   have hNB := Blk.newA wr (BoxCells m) _ 55 rfl
   have HM := toHid (And.intro hm (And.intro hV (And.intro hM (And.intro hB.tab.ok hB.tab.many))))
   have hk8 : k < 8 := by omega
   have HJ0 : Hid (∃ s2, SetAt w (wr.alloc (.cells (BoxCells m) 55)) x s s2 (plcs x.ds k ++ rowP k m.d.val 0) ∧ wr.heap.size ∉ s2.blocks ∧ Blk (wr.alloc (.cells (BoxCells m) 55)) wr.heap.size (BoxCells m).toList 55) :=
    ⟨s1, by rw [show rowP k m.d.val 0 = [] from rfl, List.append_nil]; exact hS1.still ((Touch.refl [] wr).alloc _), hnb, hNB⟩
   have c3 : (wr.alloc (.cells (BoxCells m) 55)).cell? ⟨wr.heap.size, 3, none⟩ = some (.int .i64 (M : Int)) := by
    rw [← hM]
    exact hNB.cell rfl
   rw [hV] at b2 hm1 hm2
   rw [hM] at b3 hmk
   unfold BoxCells ixV at HJ0 c3
   unfold ixV at b4
   rw [hV, hM] at HJ0 c3
   generalize typF m.d.kind = ty at *
   generalize m.X = X at *
   generalize m.d.kind = kd at *
   generalize m.d.key = ky at *
   clear hB hmem hok hNB hm hV hM HI hg c1 hS1 hnb
   generalize hwb : wr.alloc (.cells #[.int .i64 kd, .int .i64 ky, .int .i64 (V : Int), .int .i64 (M : Int), .iface ty (.pointer (some ⟨X, 0, none⟩))] 55) = wb at *
   go_wp2_with fail
   clear hwb b0 b1 b2 b3 b4 c3
   generalize wr.heap.size = B at *
   have hM64 : M ≤ 64 := by omega
   go_loopw [18] (fun t w' => ∃ q : Nat, q ≤ M ∧ t = .int .i64 q ∧ Hid (∃ s2, SetAt w w' x s s2 (plcs x.ds k ++ rowP k V q) ∧ B ∉ s2.blocks ∧ Blk w' B [.int .i64 kd, .int .i64 ky, .int .i64 (V : Int), .int .i64 (M : Int), .iface ty (.pointer (some ⟨X, 0, none⟩))] 55)) (fun t _ => M - (intOf t).toNat)
   case atStart => exact ⟨0, by omega, rfl, HJ0.out⟩
   case round =>
    obtain ⟨q, hq, rfl, HJ⟩ := hrel
    obtain ⟨s2, hS2, hnb, hNB⟩ := HJ.out
    by_cases hqt : q < M
    ·have hB2 := hS2.both
     obtain ⟨hm, hV, hM, hok, hmany⟩ := HM.out
     have hadd := HS.out.add hok hmany hm (q := q) (by rw [hM]; omega) (by rw [hV]; exact hS2)
     rw [hV] at hadd
     have HP := toHid (fun w0 => place_any w0 k q hk8 (by omega))
     have hBd := hB2.still ((Touch.refl [] wr).drew)
     have HA := toHid (Mem.add_any hBd.mem (plI k q) V 3 (by unfold plI; omega) (by unfold plI; omega) hadd.2)
     have ht0 : x.t ∉ s2.blocks := hB2.apart _ (PT.mem_top (by simp [PT.top]))
     have e0 := hBd.tab.c0
     rw [hBd.at_] at e0
     have e2 := (hNB.drew).cell (i := 2) rfl
     have HSS : Hid (∀ w', Touch s2.blocks wr.drew w' → w'.cell? ⟨x.t, 0, none⟩ = some (.pointer (some ⟨s2.m, 0, none⟩)) ∧ w'.cell? ⟨B, 2, none⟩ = some (.int .i64 (V : Int))) := fun w' ht => ⟨ht.cell e0 ht0, ht.cell e2 hnb⟩
     have HNx : Hid (∀ e w3, Mem.AddPost wr.drew s2 (plI k q) V 3 e w3 → ∃ s3, SetAt w w3 x s s3 (plcs x.ds k ++ rowP k V (q + 1)) ∧ B ∉ s3.blocks ∧ Blk w3 B [.int .i64 kd, .int .i64 ky, .int .i64 (V : Int), .int .i64 (M : Int), .iface ty (.pointer (some ⟨X, 0, none⟩))] 55) := fun e w3 hp => by
      obtain ⟨s3, q1, q2, q3⟩ := (hS2.still ((Touch.refl [] wr).drew)).add hp hadd.1
      refine ⟨s3, by rw [rowP_succ, ← List.append_assoc]; exact q1, fun hx => ?_, q2.blk hNB.drew hnb⟩
      rcases q3 B hx with h9 | h9
      ·exact hnb h9
      ·have := hNB.drew.lt
       omega
     have HAE : Hid (∀ e w3, Mem.AddPost wr.drew s2 (plI k q) V 3 e w3 → Touch s2.blocks wr.drew w3 ∧ ∃ a b, e = .returned (.tuple #[.int .i64 a, .int .i64 b])) := fun e w3 hp => ⟨hp.2.1, _, _, hp.1⟩
     generalize plI k q = pl at *
     clear hB2 hm hV hM hok hadd hBd ht0 e0 e2 hS2 hnb hNB HJ HJ0
     go_wp2_with fail
     refine wp_region_held_drew (S := fun w' => w'.cell? ⟨x.t, 0, none⟩ = some (.pointer (some ⟨s2.m, 0, none⟩)) ∧ w'.cell? ⟨B, 2, none⟩ = some (.int .i64 (V : Int))) (by kernel_rfl) ?_ (fun hHeld => ?_)
     ·exact HSS.out _ (Touch.refl _ _)
     refine tk 0 (v := ?_) rfl ?_ ?_
     rotate_left
     ·(intro w hSw; (try dsimp only at hSw); go_simp; try with_reducible rfl)
     simp only [Act.put, AP]
     refine tk 1 (v := ?_) rfl ?_ ?_
     rotate_left
     ·(intro w hSw; (try dsimp only at hSw); go_simp; try with_reducible rfl)
     simp only [Act.put, AP]
     refine tk 2 (v := ?_) rfl ?_ ?_
     rotate_left
     ·(intro w hSw; (try dsimp only at hSw); go_simp; try with_reducible rfl)
     simp only [Act.put, AP]
     refine tk 3 (v := ?_) rfl ?_ ?_
     rotate_left
     ·(intro w hSw; (try dsimp only at hSw); go_simp; try with_reducible rfl)
     simp only [Act.put, AP]
     refine tk 4 (v := ?_) rfl ?_ ?_
     rotate_left
     ·(intro w hSw; (try dsimp only at hSw); go_simp; try with_reducible rfl)
     simp only [Act.put, AP]
     refine tk 5 (v := ?_) rfl ?_ ?_
     rotate_left
     ·(intro w hSw; (try dsimp only at hSw); go_simp; try with_reducible rfl)
     simp only [Act.put, AP]
     refine tk 7 (v := ?_) rfl ?_ ?_
     rotate_left
     ·(intro w hSw; (try dsimp only at hSw); go_simp; try with_reducible rfl)
     simp only [Act.put, AP]
     refine tk 8 (v := ?_) rfl ?_ ?_
     rotate_left
     ·(intro w hSw; (try dsimp only at hSw); go_simp; try with_reducible rfl)
     simp only [Act.put, AP]
     refine tk 9 (v := ?_) rfl ?_ ?_
     rotate_left
     ·(intro w hSw; (try dsimp only at hSw); go_simp; try with_reducible rfl)
     simp only [Act.put, AP]
     refine wpAnyH_ready (rs := [6]) (by kernel_rfl) (by simp) ?_
     refine AllReadyH.cons rfl (fun K hK => ?_) AllReadyH.nil
     simp only [AP]
     go_simp
     refine Calls.mono (HP.out _) ?_; rintro e w3 ⟨rfl, rfl⟩
     go_wp2_with fail
     refine hK.out _ _ ?_ (fun hHeld => ?_)
     ·exact HSS.out _ (Touch.refl _ _)
     clear hK K
     try simp only [Act.put, AP]
     refine wpAnyH_ready (rs := [10]) (by kernel_rfl) (by simp) ?_
     refine AllReadyH.cons rfl (fun K hK => ?_) AllReadyH.nil
     simp only [AP]
     go_simp
     refine Calls.mono HA.out ?_; intro e w3 hp; obtain ⟨htx, za, zb, rfl⟩ := HAE.out _ _ hp; have HN := toHid (HNx.out _ _ hp); have HTX := toHid htx; clear hp htx
     go_wp2_with fail
     refine hK.out _ _ ?_ (fun hHeld => ?_)
     ·exact HSS.out _ HTX.out
     clear hK K
     try simp only [Act.put, AP]
     refine wpAnyH_done (by kernel_rfl) ?_ _
     clear hHeld HSS HA HAE HNx HTX
     go_wp2
     exact ⟨⟨q + 1, by omega, by go_num, HN⟩, by simp [intOf]; omega⟩
    ·obtain rfl : q = M := by omega
     have HNx : Hid (∃ s', SetAt w wr x s s' (plcs x.ds (k + 1))) := by
      obtain ⟨hm, hV, hM, hok, hmany⟩ := HM.out
      have hdk : x.ds[k]? = some m.d := by unfold PT.ds; rw [List.getElem?_map, hm]; rfl
      refine ⟨s2, ?_⟩
      rw [plcs_succ hdk, hV, hM, Int.toNat_natCast]
      exact hS2
     have c3 : wr.cell? ⟨B, 3, none⟩ = some (.int .i64 (q : Int)) := hNB.cell rfl
     clear hS2 hnb hNB HJ HJ0
     go_wp2
     exact ⟨⟨k + 1, by omega, by go_num, HNx⟩, by simp [intOf]; omega⟩
  ·obtain rfl : L = k := by omega
   clear c1
   go_wp2
   go_end0
   exact ⟨rfl, HI.out⟩
end Go.Proofs.Ytmhhahmjkopjhaa
end
section
namespace Go.Proofs.Ytmhhahmjkopjhaa
open Go.RowKit
theorem info89 : (Try.prog.info? 55).map (fun i => (i.zero, i.size, i.bytes)) = some (some (.agg #[.int .i64 0, .int .i64 0, .int .i64 0, .int .i64 0, .nilIface]), 5, 48) := by kernel_rfl
def PT.add (x : PT) (g : Option Nat) (cap : Nat) (m : PMap) : PT := { x with g := g, cap := cap, maps := x.maps ++ [m] }
theorem PTAt.push {w : World} {x : PT} (h : PTAt w x) {m : PMap} (hm : KAt w m.X m.bl m.q) (ho : PMapOk m) (hsep : ∀ b ∈ m.bl, b ∉ x.blocks) (hn : x.maps.length < 8) :
  ∃ g' cap' w', (Builtin.append_ #[47, 47] 47 #[slV x.g x.maps.length x.cap, .slice (some ⟨w.heap.size, 0, none⟩) 1 1]).run Try.prog (w.alloc (.cells #[.int .i64 m.d.kind, .int .i64 m.d.key, .int .i64 m.d.val, .int .i64 m.d.max, ixV m.d.kind m.X] 55)) = .ok (slV g' (x.maps.length + 1) cap') w' ∧
   w'.cell? ⟨x.t, 1, none⟩ = some (slV x.g x.maps.length x.cap) ∧ w'.frozen? ⟨x.t, 1, none⟩ = false ∧
   PTAt (w'.setCell ⟨x.t, 1, none⟩ (slV g' (x.maps.length + 1) cap')) (x.add g' cap' m) ∧
   Touch x.top w w' ∧ Touch x.top w (w'.setCell ⟨x.t, 1, none⟩ (slV g' (x.maps.length + 1) cap')) ∧ (∀ b, g' = some b → x.g = some b ∨ w.heap.size ≤ b) := by
 obtain ⟨i, hi0, hz, hs0, hb⟩ := info_of info89
 have hN := Blk.newA w #[.int .i64 m.d.kind, .int .i64 m.d.key, .int .i64 m.d.val, .int .i64 m.d.max, ixV m.d.kind m.X] _ 55 rfl
 have hta : Touch [] w (w.alloc (.cells #[.int .i64 m.d.kind, .int .i64 m.d.key, .int .i64 m.d.val, .int .i64 m.d.max, ixV m.d.kind m.X] 55)) := (Touch.refl _ w).alloc _
 have hL := h.touch hta (by simp)
 have hlt := h.lt
 have hmlt := hm.lt
 obtain ⟨g', cap', w', hr, h2, h3, h4, _⟩ := run_append_row (P := Try.prog) _ 47 47 55 i _ 5 Try.underlying47 hi0 hz hs0 rfl (by omega) x.g x.maps.length x.cap _ hL.row ⟨w.heap.size, 0, none⟩ 1 1 m.cells rfl
  (fun j u hj => by
   rw [Addr.add_lit, Nat.zero_add]
   exact hN.cell hj) (fun u hu => by
   simp only [PMap.cells, List.mem_cons, List.not_mem_nil, or_false] at hu
   rcases hu with rfl | rfl | rfl | rfl | rfl <;> rfl) (by rw [hb]; omega) (by omega)
 have hap := h.apTop
 simp only [PT.top, List.nodup_cons, Option.mem_toList] at hap
 have htg : x.t ∉ x.g.toList := fun hx => hap.1 (by simpa using hx)
 have hself := h3.blk hL.self htg
 have hts : Touch [x.t] w' (w'.setCell ⟨x.t, 1, none⟩ (slV g' (x.maps.length + 1) cap')) := (Touch.refl _ w').setCell _ _ (Or.inl (by simp))
 have hg' : ∀ b, g' = some b → x.g = some b ∨ b = w.heap.size + 1 := fun b hb => by
  rcases h4 with h4 | h4
  ·rw [← h4]; exact Or.inl hb
  ·rw [hb] at h4; injection h4 with h4; exact Or.inr (by rw [h4]; simp)
 have htlt := hlt x.t (PT.mem_top (by simp [PT.top]))
 have hgt : g' ≠ some x.t := fun e => by
  rcases hg' _ e with hx | hx
  ·exact htg (by simpa using hx)
  ·omega
 have hgtop : ∀ b ∈ x.g.toList, b ∈ x.top := fun b hb => by unfold PT.top; exact List.mem_cons_of_mem _ hb
 have hT1 : Touch x.top w w' := (hta.mono (S' := x.top) (fun b hb => by cases hb)).trans h3 (fun b hb => Or.inl (hgtop b hb))
 have hT2 : Touch x.top w (w'.setCell ⟨x.t, 1, none⟩ (slV g' (x.maps.length + 1) cap')) := hT1.trans hts (fun b hb => Or.inl (by simp at hb; subst hb; simp [PT.top]))
 have hmT : ∀ m' ∈ x.maps ++ [m], KAt w m'.X m'.bl m'.q ∧ PMapOk m' ∧ ∀ b ∈ m'.bl, b ∉ x.top := fun m' hm' => by
  rcases List.mem_append.1 hm' with h9 | h9
  ·exact ⟨h.maps m' h9, h.ok m' h9, h.apT m' h9⟩
  ·rw [List.mem_singleton.1 h9]
   exact ⟨hm, ho, fun b hb hx => hsep b hb (PT.mem_top hx)⟩
 refine ⟨g', cap', w', hr, hself.cell rfl, hself.frozen 1, ⟨?_, ?_, fun m' hm' => ?_, fun m' hm' => (hmT m' hm').2.1, ?_, fun m' hm' b hb hx => ?_, fun i j mi mj hi hj hij y hy => ?_, ?_⟩, hT1, hT2, fun b hb => ?_⟩
 ·have := hself.setCell 1 (slV g' (x.maps.length + 1) cap')
  show Blk _ x.t [_, slV g' (x.maps ++ [m]).length cap'] _
  rw [List.length_append]
  exact this
 ·have := h2.touch hts (fun b hgb hx => by simp at hx; subst hx; exact hgt hgb)
  show RowAt _ 55 5 g' (x.maps ++ [m]).length cap' ((x.maps ++ [m]).flatMap PMap.cells)
  rw [List.length_append, List.flatMap_append, List.flatMap_singleton]
  exact this
 ·exact (hmT m' hm').1.touch hT2 (hmT m' hm').2.2
 ·show (x.t :: g'.toList).Nodup
  cases hgg : g' with
  | none => simp
  | some b =>
   simp only [Option.toList_some, List.nodup_cons, List.mem_singleton, List.not_mem_nil, not_false_eq_true, List.nodup_nil, and_true]
   intro e
   exact hgt (by rw [hgg, e])
 ·rcases List.mem_cons.1 (show b ∈ x.t :: g'.toList from hx) with hx | hx
  ·exact (hmT m' hm').2.2 b hb (by rw [hx]; simp [PT.top])
  ·rcases hg' b (by simpa using hx) with hx | hx
   ·exact (hmT m' hm').2.2 b hb (PT.mem_g hx)
   ·have := (hmT m' hm').1.lt b hb
    omega
 ·have hi : (x.maps ++ [m])[i]? = some mi := hi
  have hj : (x.maps ++ [m])[j]? = some mj := hj
  have hcase : ∀ k mk, (x.maps ++ [m])[k]? = some mk → x.maps[k]? = some mk ∨ (k = x.maps.length ∧ mk = m) := fun k mk hk => by
   rw [List.getElem?_append] at hk
   split at hk
   ·exact Or.inl hk
   ·rename_i hge
    have hk0 : k - x.maps.length = 0 := by
     have := (List.getElem?_eq_some_iff.1 hk).1
     simp at this
     omega
    rw [hk0] at hk
    simp at hk
    exact Or.inr ⟨by omega, hk.symm⟩
  rcases hcase i mi hi with a | ⟨a1, a2⟩
  ·rcases hcase j mj hj with b | ⟨b1, b2⟩
   ·exact h.apM i j mi mj a b hij y hy
   ·rw [b2]
    intro hx
    exact hsep y hx (PT.mem_map (List.mem_of_getElem? a) hy)
  ·rcases hcase j mj hj with b | ⟨b1, b2⟩
   ·intro hx
    rw [a2] at hy
    exact hsep y hy (PT.mem_map (List.mem_of_getElem? b) hx)
   ·omega
 ·show (x.maps ++ [m]).length ≤ 8
  rw [List.length_append]
  simp
  omega
 ·rcases hg' b hb with h9 | h9
  ·exact Or.inl h9
  ·exact Or.inr (by omega)
def NewIxPost (w : World) (k n : Int) (m : Nat) (e : Ending) (w' : World) : Prop := ∃ X bl, e = .returned (.tuple #[ixV k X, .int .i64 0]) ∧ KAt w' X bl (PX.new k n m) ∧ (∀ b ∈ bl, w.heap.size ≤ b) ∧ Touch [] w w'
def dV (d : MDef) : Value := .agg #[.int .i64 d.kind, .int .i64 d.key, .int .i64 d.val, .int .i64 d.max]
theorem KNewPost.ix {w w1 : World} {k n : Int} {m : Nat} {e : Ending} {w' : World} (h : KNewPost w1 (PX.new k n m) e w') (ht : Touch [] w w1) : ∃ X, e = .returned (.tuple #[.pointer (some ⟨X, 0, none⟩), .int .i64 0]) ∧ NewIxPost w k n m (.returned (.tuple #[ixV k X, .int .i64 0])) w' := by
 obtain ⟨X, bl, he, hA, hb, ht2⟩ := h
 have := ht.size
 exact ⟨X, he, X, bl, rfl, hA, fun b hx => by have := hb b hx; omega, ht.trans ht2 (by simp)⟩
theorem newIndex_any (w : World) (k n v : Int) (m : Nat) (k0 : 0 ≤ k) (k3 : k ≤ 3) (h : newOk k n m) : Calls Try.prog 12 #[dV ⟨k, n, v, m⟩] w (NewIxPost w k n m) := by
 have hta : ∀ o, Touch [] w (w.alloc o) := fun o => (Touch.refl [] w).alloc o
 have HT := toHid hta
 unfold dV
 have hk : k = 0 ∨ k = 1 ∨ k = 2 ∨ k = 3 := by omega
 rcases hk with rfl | rfl | rfl | rfl
 ·have hn : n = 4 := by
   have h1 := h.2.2.1
   have h2 := h.2.2.2
   simp at h1 h2
   omega
  subst hn
  have H1 := toHid (fun w1 => knew0_any w1 m h)
  clear h hta k0 k3
  go_enter Try.func12, Try.ntmps12
  go_wp2_with fail
  refine Calls.mono (H1.out _) ?_
  intro e w2 hp
  obtain ⟨X, rfl, hq⟩ := hp.ix (HT.out _)
  have HF := toHid hq
  clear hp hq
  go_wp2
  go_ret2
  exact HF.out
 ·obtain ⟨n, rfl⟩ : ∃ n' : Nat, n = n' := Int.eq_ofNat_of_zero_le (by have h1 := h.2.2.1; simp at h1; omega)
  have H1 := toHid (fun w1 => knew1_any w1 n m h)
  clear h hta k0 k3
  go_enter Try.func12, Try.ntmps12
  go_wp2_with fail
  refine Calls.mono (H1.out _) ?_
  intro e w2 hp
  obtain ⟨X, rfl, hq⟩ := hp.ix (HT.out _)
  have HF := toHid hq
  clear hp hq
  go_wp2
  go_ret2
  exact HF.out
 ·obtain ⟨n, rfl⟩ : ∃ n' : Nat, n = n' := Int.eq_ofNat_of_zero_le (by have h1 := h.2.2.1; simp at h1; omega)
  have H1 := toHid (fun w1 => knew2_any w1 n m h)
  clear h hta k0 k3
  go_enter Try.func12, Try.ntmps12
  go_wp2_with fail
  refine Calls.mono (H1.out _) ?_
  intro e w2 hp
  obtain ⟨X, rfl, hq⟩ := hp.ix (HT.out _)
  have HF := toHid hq
  clear hp hq
  go_wp2
  go_ret2
  exact HF.out
 ·obtain ⟨n, rfl⟩ : ∃ n' : Nat, n = (n' : Int) + 4 := ⟨(n - 4).toNat, by have h1 := h.2.2.1; simp at h1; omega⟩
  have H1 := toHid (fun w1 => knew3_any w1 n m h)
  clear h hta k0 k3
  go_enter Try.func12, Try.ntmps12
  go_wp2_with fail
  refine Calls.mono (H1.out _) ?_
  intro e w2 hp
  obtain ⟨X, rfl, hq⟩ := hp.ix (HT.out _)
  have HF := toHid hq
  clear hp hq
  go_wp2
  go_ret2
  exact HF.out
def NewIxBad (w : World) (e : Ending) (w' : World) : Prop := ∃ v, e = .returned (.tuple #[v, .int .i64 2]) ∧ Touch [] w w'
theorem newIndex_bad (w : World) (d : MDef) (h : ¬ (0 ≤ d.kind ∧ d.kind ≤ 3 ∧ newOk d.kind d.key d.max)) : Calls Try.prog 12 #[dV d] w (NewIxBad w) := by
 have hta : ∀ o, Touch [] w (w.alloc o) := fun o => (Touch.refl [] w).alloc o
 have HT := toHid hta
 obtain ⟨k, n, v, m⟩ := d
 unfold dV
 dsimp only at h ⊢
 have H0 : Hid (∀ w1 : World, ¬ (1 ≤ m ∧ m ≤ 64) → Calls Try.prog 22 #[.int .i64 m] w1 fun e w' => e = .returned (.tuple #[.pointer none, .int .i64 2]) ∧ w' = w1) := fun w1 h1 => Arr.new_bad w1 m h1
 by_cases hk : k = 0 ∨ k = 1 ∨ k = 2 ∨ k = 3
 ·rcases hk with rfl | rfl | rfl | rfl
  ·by_cases hn : n = 4
   ·subst hn
    have H1 := toHid (fun w1 => H0.out w1 (fun hm => h ⟨by omega, by omega, hm.1, hm.2, by decide, by decide⟩))
    clear h hta
    go_enter Try.func12, Try.ntmps12
    go_wp2_with fail
    refine Calls.mono (H1.out _) ?_
    rintro e w2 ⟨rfl, rfl⟩
    go_wp2
    go_ret2
    exact ⟨_, rfl, HT.out _⟩
   ·clear h hta
    go_enter Try.func12, Try.ntmps12
    go_wp2
    go_ret2
    exact ⟨_, rfl, HT.out _⟩
  ·have H1 := toHid (fun w1 => new_bad w1 n m (fun hm => h ⟨by omega, by omega, hm.1, hm.2.1, by simp; omega, by simp; omega⟩))
   clear h hta
   go_enter Try.func12, Try.ntmps12
   go_wp2_with fail
   refine Calls.mono (H1.out _) ?_
   rintro e w2 ⟨rfl, rfl⟩
   go_wp2
   go_ret2
   exact ⟨_, rfl, HT.out _⟩
  ·have H1 := toHid (fun w1 => lnew_bad w1 n m (fun hm => h ⟨by omega, by omega, hm.1, hm.2.1, by simp; omega, by simp; omega⟩))
   clear h hta
   go_enter Try.func12, Try.ntmps12
   go_wp2_with fail
   refine Calls.mono (H1.out _) ?_
   rintro e w2 ⟨rfl, rfl⟩
   go_wp2
   go_ret2
   exact ⟨_, rfl, HT.out _⟩
  ·have H1 := toHid (fun w1 => Lpm.inew_bad w1 n m (fun hm => h ⟨by omega, by omega, hm.1, hm.2.1, by simp; omega, by simp; omega⟩))
   clear h hta
   go_enter Try.func12, Try.ntmps12
   go_wp2_with fail
   refine Calls.mono (H1.out _) ?_
   rintro e w2 ⟨rfl, rfl⟩
   go_wp2
   go_ret2
   exact ⟨_, rfl, HT.out _⟩
 ·have e0 : ¬ k = 0 := fun e => hk (Or.inl e)
  have e1 : ¬ k = 1 := fun e => hk (Or.inr (Or.inl e))
  have e2 : ¬ k = 2 := fun e => hk (Or.inr (Or.inr (Or.inl e)))
  have e3 : ¬ k = 3 := fun e => hk (Or.inr (Or.inr (Or.inr e)))
  have b0 : (k == 0) = false := by simpa using e0
  have b1 : (k == 1) = false := by simpa using e1
  have b2 : (k == 2) = false := by simpa using e2
  have b3 : (k == 3) = false := by simpa using e3
  clear h hk H0 hta
  go_enter Try.func12, Try.ntmps12
  go_wp2
  go_ret2
  exact ⟨_, rfl, HT.out _⟩
end Go.Proofs.Ytmhhahmjkopjhaa
end
section
namespace Go.Proofs.Ytmhhahmjkopjhaa
open Go.RowKit
def newQ (d : MDef) : PX := PX.new d.kind d.key d.max.toNat
structure MadeAt (w w' : World) (x : PT) (m T : Nat) (l : List MDef) : Prop where
 tab : PTAt w' x
 t : x.t = T
 mem : x.mem = m
 ds : x.ds = l
 qs : x.qs = l.map newQ
 own : ∀ b ∈ x.blocks, w.heap.size ≤ b
 touch : Touch [] w w'
 ok : ∀ d ∈ l, d.Ok
theorem newQ_len {d : MDef} (h : d.Ok) : ((newQ d).slots.length : Int) = d.max := by
 have h1 := h.2.2.2.2.1
 have : (newQ d).slots.length = d.max.toNat := by
  unfold newQ PX.new
  dsimp only
  split
  ·simp [allKeys]
  ·simp
 omega
theorem MadeAt.push {w w1 w2 : World} {x : PT} {m T k : Nat} {ds : List MDef} {d : MDef} {X : Nat} {bl : List Nat} (h : MadeAt w w1 x m T (ds.take k)) (hd : ds[k]? = some d) (hk : k < 8) (hok : d.Ok) (ht : Touch [] w1 w2) (hA : KAt w2 X bl (newQ d)) (hb : ∀ b ∈ bl, w1.heap.size ≤ b) :
  ∃ sg' cap' w3, (Builtin.append_ #[47, 47] 47 #[slV x.g x.maps.length x.cap, .slice (some ⟨w2.heap.size, 0, none⟩) 1 1]).run Try.prog ((w2.alloc (.cells #[.int .i64 d.kind, .int .i64 d.key, .int .i64 d.val, .int .i64 d.max, ixV d.kind X] 55)).drew) = .ok (.slice sg' (x.maps.length + 1) cap') w3 ∧
   w3.cell? ⟨T, 1, none⟩ = some (slV x.g x.maps.length x.cap) ∧ w3.frozen? ⟨T, 1, none⟩ = false ∧ ∃ x', MadeAt w (w3.setCell ⟨T, 1, none⟩ (.slice sg' (x.maps.length + 1) cap')) x' m T (ds.take (k + 1)) := by
 have hx2 : PTAt w2.drew x := h.tab.still ht.drew
 have hlt := h.tab.lt
 have hsz := ht.size
 have hl : x.maps.length = k := by
  have h1 := congrArg List.length h.ds
  have h2 := (List.getElem?_eq_some_iff.1 hd).1
  simp [PT.ds] at h1
  omega
 have hsz0 := h.touch.size
 have hkd : (newQ d).kind = d.kind := rfl
 obtain ⟨g', cap', w3, hr, hc, hf, hA3, ht1, ht2, hg⟩ := hx2.push (m := ⟨d, X, bl, newQ d⟩) (hA.still ((Touch.refl [] w2).drew)) ⟨hkd, rfl, newQ_len hok, hok.2.2.1, hok.2.2.2.1⟩ (fun b hbx hx => by
  have := hb b hbx
  have := hlt b hx
  omega) (by omega)
 have htk : ds.take (k + 1) = ds.take k ++ [d] := by rw [List.take_add_one, hd]; rfl
 rw [h.t] at hc hf hA3 ht2
 refine ⟨g'.map fun b => (⟨b, 0, none⟩ : Addr), cap', w3, hr, hc, hf, x.add g' cap' ⟨d, X, bl, newQ d⟩, hA3, h.t, h.mem, ?_, ?_, fun b hbx => ?_, ?_, fun d' hd' => ?_⟩
 ·rw [htk]
  show (x.maps ++ [_]).map PMap.d = _
  have h1 : x.maps.map PMap.d = ds.take k := h.ds
  rw [List.map_append, h1]
  rfl
 ·rw [htk]
  show (x.maps ++ [_]).map PMap.q = _
  have h1 : x.maps.map PMap.q = (ds.take k).map newQ := h.qs
  rw [List.map_append, h1, List.map_append]
  rfl
 ·rcases List.mem_append.1 hbx with hbx | hbx
  ·rcases List.mem_cons.1 (show b ∈ x.t :: g'.toList from hbx) with hbx | hbx
   ·exact h.own b (by rw [hbx]; exact PT.mem_top (by simp [PT.top]))
   ·rcases hg b (by simpa using hbx) with hbx | hbx
    ·exact h.own b (PT.mem_top (PT.mem_g hbx))
    ·have : w2.drew.heap.size = w2.heap.size := rfl
     omega
  ·rw [show (x.add g' cap' ⟨d, X, bl, newQ d⟩).maps = x.maps ++ [⟨d, X, bl, newQ d⟩] from rfl, List.flatMap_append, List.flatMap_singleton] at hbx
   rcases List.mem_append.1 hbx with hbx | hbx
   ·obtain ⟨m9, h9, hbx⟩ := List.mem_flatMap.1 hbx
    exact h.own b (PT.mem_map h9 hbx)
   ·have := hb b hbx
    omega
 ·exact (h.touch.trans ht.drew (by simp)).trans ht2 (fun b hbx => Or.inr (h.own b (PT.mem_top hbx)))
 ·rw [htk] at hd'
  rcases List.mem_append.1 hd' with h9 | h9
  ·exact h.ok d' h9
  ·rw [List.mem_singleton.1 h9]
   exact hok
structure PNewAt (w w' : World) (x : PT) (s s' : Mem.MS) (l : List MDef) : Prop where
 both : PBoth w' x s'
 ds : x.ds = l
 qs : x.qs = l.map newQ
 own : ∀ b ∈ x.blocks, w.heap.size ≤ b
 m : s'.m = s.m
 mown : ∀ b ∈ s'.blocks, b ∈ s.blocks ∨ w.heap.size ≤ b
 touch : Touch s.blocks w w'
 adds : PAdds (plcs l l.length) (s.rs, s.next) (s'.rs, s'.next)
def PNewPost (w : World) (s : Mem.MS) (ds : List MDef) (e : Ending) (w' : World) : Prop :=
 (mayI ds = false ∧ e = .returned (.tuple #[.pointer none, .int .i64 2]) ∧ Touch [] w w') ∨
 (mayI ds = true ∧ ¬ roomOk ds s.rs ∧ e = .returned (.tuple #[.pointer none, .int .i64 12]) ∧ Touch [] w w') ∨
 (mayI ds = true ∧ roomOk ds s.rs ∧ ∃ x s', e = .returned (.tuple #[.pointer (some ⟨x.t, 0, none⟩), .int .i64 0]) ∧ PNewAt w w' x s s' ds)
theorem pnew_any {w : World} {s : Mem.MS} (h : Mem.MemAt w s) (hnx : s.next ≤ 1000000) {sa : Option Addr} {n sc : Nat} {ds : List MDef} (hd : DefsAt w sa n ds) :
  Calls Try.prog 6 #[.pointer (some ⟨s.m, 0, none⟩), .slice sa n sc] w (PNewPost w s ds) := by
 obtain rfl := hd.len
 have hsm := hd.small
 by_cases h8 : 8 < ds.length
 ·have hv : mayI ds = false := by unfold mayI; rw [decide_eq_false_iff_not]; omega
  have HF : Hid (PNewPost w s ds (.returned (.tuple #[.pointer none, .int .i64 2])) w) := Or.inl ⟨hv, rfl, Touch.refl _ _⟩
  clear h hd hv
  go_enter Try.func6, Try.ntmps6
  go_wp2
  go_ret2
  exact HF.out
 ·have hL : ds.length ≤ 8 := by omega
  have HD := toHid hd
  have HH := toHid (And.intro h hnx)
  have hB := Blk.newA w #[.pointer (some ⟨s.m, 0, none⟩), .slice none 0 0] _ 49 rfl
  have HI0 : Hid (∃ x, MadeAt w (w.alloc (.cells #[.pointer (some ⟨s.m, 0, none⟩), .slice none 0 0] 49)) x s.m w.heap.size (ds.take 0)) := by
   refine ⟨⟨w.heap.size, s.m, none, 0, []⟩, ⟨hB, ?_, ?_, ?_, ?_, ?_, ?_, by simp⟩, rfl, rfl, rfl, rfl, ?_, (Touch.refl _ w).alloc _, by simp⟩
   ·exact ⟨rfl, Nat.le_refl _, Nat.zero_le _, rfl⟩
   ·intro m hm; cases hm
   ·intro m hm; cases hm
   ·simp [PT.top]
   ·intro m hm; cases hm
   ·intro i j mi mj hi; simp at hi
   ·intro b hb; simp [PT.blocks, PT.top] at hb; omega
  clear h hd hB hnx
  go_enter Try.func6, Try.ntmps6
  go_wp2_with fail
  generalize hT0 : w.heap.size = T at *
  have HT0 := toHid hT0
  clear hT0
  generalize hLL : ds.length = L at *
  have HL := toHid hLL
  clear hLL
  go_loopw [21] (fun t w' => ∃ k : Nat, k ≤ L ∧ t = .int .i64 k ∧ Hid (∃ x, MadeAt w w' x s.m T (ds.take k))) (fun t _ => L - (intOf t).toNat)
  case atStart => exact ⟨0, by omega, rfl, HI0⟩
  case round =>
   obtain ⟨k, hk, rfl, HI⟩ := hrel
   clear HI0
   by_cases hlt : k < L
   ·obtain ⟨x, hM⟩ := HI.out
    have hda := HD.out.touch hM.touch
    obtain ⟨b, off, rfl, hc⟩ := hda.at_ (by omega)
    obtain ⟨d, hdk⟩ : ∃ d, ds[k]? = some d := ⟨_, List.getElem?_eq_getElem (by rw [HL.out]; exact hlt)⟩
    have c0 := hc k d hdk 0 _ rfl
    have c1 := hc k d hdk 1 _ rfl
    have c2 := hc k d hdk 2 _ rfl
    have c3 := hc k d hdk 3 _ rfl
    rw [Nat.add_zero] at c0
    have hNB := Blk.newA wr #[.int .i64 d.kind, .int .i64 d.key, .int .i64 d.val, .int .i64 d.max] _ 28 rfl
    have HNB := toHid hNB
    have HM := toHid (And.intro hM hdk)
    have hta := (Touch.refl [] wr).alloc (.cells #[.int .i64 d.kind, .int .i64 d.key, .int .i64 d.val, .int .i64 d.max] 28)
    have HTA := toHid hta
    have HNO : Hid (¬ d.Ok → ∀ w3, Touch [] wr w3 → PNewPost w s ds (.returned (.tuple #[.pointer none, .int .i64 2])) w3) := fun hn w3 ht3 => Or.inl ⟨mayI_no hdk hn, rfl, hM.touch.trans ht3 (by simp)⟩
    by_cases hnk : 0 ≤ d.kind ∧ d.kind ≤ 3 ∧ newOk d.kind d.key d.max
    ·have hmx1 := hnk.2.2.1
     have hmx2 := hnk.2.2.2.1
     have hmt : ((d.max.toNat : Nat) : Int) = d.max := Int.toNat_of_nonneg (by omega)
     have HN : Hid (∀ w0, Calls Try.prog 12 #[dV d] w0 (NewIxPost w0 d.kind d.key d.max.toNat)) := fun w0 => by
      have h9 := newIndex_any w0 d.kind d.key d.val d.max.toNat hnk.1 hnk.2.1 (by rw [hmt]; exact hnk.2.2)
      rw [hmt] at h9
      exact h9
     unfold dV at HN
     by_cases hv1 : d.val < 1
     ·have HNO := toHid (HNO.out (fun hok => by have := hok.2.2.1; omega))
      clear hnk hM hda hc hdk hNB hta HM HI hmt hmx1 hmx2
      go_wp2_with fail
      refine Calls.mono (HN.out _) ?_
      rintro e w3 ⟨X, bl, rfl, hA, hbl, ht3⟩
      have HF := toHid (HNO.out _ (HTA.out.trans ht3 (by simp)))
      have d2 := (ht3.blk HNB.out (by simp)).cell (i := 2) rfl
      clear ht3 HNO hA hbl
      unfold ixV
      go_wp2
      go_ret2
      exact HF.out
     ·by_cases hv2 : 64 < d.val
      ·have HNO := toHid (HNO.out (fun hok => by have := hok.2.2.2.1; omega))
       clear hnk hM hda hc hdk hNB hta HM HI hmt hmx1 hmx2
       go_wp2_with fail
       refine Calls.mono (HN.out _) ?_
       rintro e w3 ⟨X, bl, rfl, hA, hbl, ht3⟩
       have HF := toHid (HNO.out _ (HTA.out.trans ht3 (by simp)))
       have d2 := (ht3.blk HNB.out (by simp)).cell (i := 2) rfl
       clear ht3 HNO hA hbl
       unfold ixV
       go_wp2
       go_ret2
       exact HF.out
      ·have hok : d.Ok := ⟨hnk.1, hnk.2.1, by omega, by omega, hnk.2.2⟩
       have HOK := toHid hok
       clear hnk hM hda hc hdk hNB hta HI hmt hmx1 hmx2 hok HNO
       go_wp2_with fail
       refine Calls.mono (HN.out _) ?_
       rintro e w2 ⟨X, bl, rfl, hA, hbl, ht3⟩
       have hT2 := HTA.out.trans ht3 (by simp)
       obtain ⟨sg, cap, w3, hr, hs1, hs2, x', hM'⟩ := HM.out.1.push (X := X) (bl := bl) HM.out.2 (by omega) HOK.out hT2 hA (fun b hb => by have := hbl b hb; have := HTA.out.size; omega)
       have HR := toHid hr
       have HN' := toHid hM'
       have e0 := (ht3.blk HNB.out (by simp)).cell (i := 0) rfl
       have e1 := (ht3.blk HNB.out (by simp)).cell (i := 1) rfl
       have e2 := (ht3.blk HNB.out (by simp)).cell (i := 2) rfl
       have e3 := (ht3.blk HNB.out (by simp)).cell (i := 3) rfl
       have t1 := (HM.out.1.tab.still hT2).c1
       have hE : ∀ o p v, w2.cell? p = some v → (w2.alloc o).cell? p = some v := fun o p v hp => ((Touch.refl [] w2).alloc o).cell hp (by simp)
       have a0 := fun o => hE o _ _ e0
       have a1 := fun o => hE o _ _ e1
       have a2 := fun o => hE o _ _ e2
       have a3 := fun o => hE o _ _ e3
       rw [HM.out.1.t] at t1
       have at1 := fun o => hE o _ _ t1
       clear hA hbl hT2 hr hM' ht3 hE
       unfold ixV at *
       unfold slV at *
       generalize typF d.kind = ty at *
       generalize (x.g.map fun b => (⟨b, 0, none⟩ : Addr)) = og at *
       generalize x.maps.length = ml at *
       generalize x.cap = xc at *
       go_wp2_with fail
       go_region_law (refine step_append_known rfl (.tmp 46) (.tmp 50) 47 47 rfl (.slice og ml xc) (.slice (some ⟨w2.heap.size, 0, none⟩) 1 1) (by simp [Act.eval]) (by simp [Act.eval]) HR.out ?_)
       all_goals go_wp2
       all_goals exact ⟨⟨k + 1, by omega, by go_num, x', HN'.out⟩, by simp [intOf]; omega⟩
    ·have HN := toHid (fun w0 => newIndex_bad w0 d hnk)
     unfold dV at HN
     have HNO := toHid (HNO.out (fun hok => hnk ⟨hok.1, hok.2.1, hok.2.2.2.2⟩))
     clear hnk hM hda hc hdk hNB hta HM HI
     go_wp2_with fail
     refine Calls.mono (HN.out _) ?_
     rintro e w3 ⟨v, rfl, ht3⟩
     have HF := toHid (HNO.out _ (HTA.out.trans ht3 (by simp)))
     have d2 := (ht3.blk HNB.out (by simp)).cell (i := 2) rfl
     clear ht3 HNO
     go_wp2
     go_ret2
     exact HF.out
   ·obtain rfl : k = L := by omega
    obtain ⟨x, hM⟩ := HI.out
    have htk : ds.take k = ds := by rw [← HL.out]; exact List.take_length
    rw [htk] at hM
    have hdl := HL.out
    have hsz := hM.touch.size
    have hB : PBoth wr x s := ⟨hM.tab, HH.out.1.touch hM.touch (by simp), hM.mem, fun b hb hx => by
     have h1 := hM.own b hb
     have h2 := HH.out.1.lt b hx
     omega⟩
    have hml : x.maps.length = k := by
     have h1 := congrArg List.length hM.ds
     simp [PT.ds] at h1
     omega
    have hmx : ∀ m ∈ x.maps, 1 ≤ m.d.max ∧ m.d.max ≤ 64 := fun m hm => by
     have h1 := hM.ok m.d (by rw [← hM.ds]; exact List.mem_map.2 ⟨m, hm, rfl⟩)
     exact ⟨h1.2.2.2.2.1, h1.2.2.2.2.2.1⟩
    have hmay : mayI ds = true := by
     unfold mayI
     rw [decide_eq_true_iff]
     exact ⟨by omega, hM.ok⟩
    have H1 := toHid (hasRoom_any hB hmx)
    rw [hM.ds, hM.t] at H1
    have HX := toHid (And.intro hM (And.intro hmx (And.intro hmay (And.intro hml hB))))
    clear hM htk hdl hB hml hmx hmay HI
    go_wp2_with fail
    refine Calls.mono H1.out ?_
    rintro e w2 ⟨⟨rb, rfl, hrb⟩, ht2⟩
    cases rb with
    | false =>
     have HF : Hid (PNewPost w s ds (.returned (.tuple #[.pointer none, .int .i64 12])) w2) := Or.inr (Or.inl ⟨HX.out.2.2.1, (fun hr => Bool.noConfusion (hrb.2 hr)), rfl, HX.out.1.touch.trans ht2 (by simp)⟩)
     clear hrb ht2
     go_wp2
     go_ret2
     exact HF.out
    | true =>
     have hr := hrb.1 rfl
     have H2 := toHid (settle_any (HX.out.2.2.2.2.still ht2) ⟨HX.out.2.1, by rw [HX.out.1.ds]; exact hr, HH.out.2⟩)
     rw [HX.out.1.ds, HX.out.1.t, HX.out.2.2.2.1] at H2
     have HR := toHid (And.intro hr ht2)
     clear hrb ht2 hr
     go_wp2_with fail
     refine Calls.mono H2.out ?_
     rintro e w3 ⟨rfl, s', hS⟩
     have HF : Hid (PNewPost w s ds (.returned (.tuple #[.pointer (some ⟨T, 0, none⟩), .int .i64 0])) w3) := by
      have hT := HX.out.1.touch.trans HR.out.2 (by simp)
      have hsz2 := hT.size
      refine Or.inr (Or.inr ⟨HX.out.2.2.1, HR.out.1, x, s', by rw [HX.out.1.t], ⟨hS.both, HX.out.1.ds, HX.out.1.qs, HX.out.1.own, hS.m, fun b hb => ?_, (hT.mono (S' := s.blocks) (fun b hb => by cases hb)).trans hS.touch (fun b hb => Or.inl hb), by rw [HL.out]; exact hS.adds⟩⟩)
      rcases hS.own b hb with h1 | h1
      ·exact Or.inl h1
      ·exact Or.inr (by omega)
     clear hS
     go_wp2
     go_ret2
     exact HF.out
end Go.Proofs.Ytmhhahmjkopjhaa
end
section
namespace Go.Proofs.Ytmhhahmjkopjhaa.Mem
open Go.RowKit
end Go.Proofs.Ytmhhahmjkopjhaa.Mem
end
section
namespace Go.Proofs.Ytmhhahmjkopjhaa.Mem
open Go.RowKit
def MS.new (m : Nat) : MS := ⟨m, none, 0, [], 0⟩
theorem memAt_new (w : World) : MemAt (w.alloc (.cells #[.slice none 0 0, .int .i64 0] 46)) (MS.new w.heap.size) where
 self := Blk.newA w #[.slice none 0 0, .int .i64 0] _ 46 rfl
 row := ⟨rfl, by simp [MS.new], by simp [MS.new], rfl⟩
 regs := fun r hr => by cases hr
 ok := fun r hr => by cases hr
 apart := by simp [MS.blocks, MS.new]
 sorted := List.Pairwise.nil
 ids := List.Pairwise.nil
 idlt := fun r hr => by cases hr
 many := by simp [MS.new]
theorem newM_any (w : World) : Calls Try.prog 5 #[] w fun e w' => e = .returned (.pointer (some ⟨w.heap.size, 0, none⟩)) ∧ MemAt w' (MS.new w.heap.size) ∧ Touch [] w w' :=
 (new_any w).mono (fun e w' ⟨h1, h2⟩ => ⟨h1, by rw [h2]; exact memAt_new w, by rw [h2]; exact (Touch.refl _ w).alloc _⟩)
end Go.Proofs.Ytmhhahmjkopjhaa.Mem
end
section
namespace Go.Proofs.Ytmhhahmjkopjhaa
open Go.RowKit
def Regs (ds : List MDef) (rs : List Mem.Reg) : Prop := ∀ (k : Nat) (d : MDef), ds[k]? = some d → ∀ sl : Nat, (sl : Int) < d.max → ∃ r ∈ rs, r.perm = 3 ∧ r.base = plI k sl ∧ (r.bytes.length : Int) = d.val
theorem plcs_of {ds : List MDef} : ∀ {k i sl : Nat} {d : MDef}, i < k → ds[i]? = some d → (sl : Int) < d.max → (plI i sl, d.val) ∈ plcs ds k := by
 intro k i sl d hi hd hs
 unfold plcs
 refine List.mem_flatMap.2 ⟨i, List.mem_range.2 hi, ?_⟩
 rw [hd]
 exact List.mem_map.2 ⟨sl, List.mem_range.2 (by omega), rfl⟩
theorem Regs.of_adds {ds : List MDef} {a b : List Mem.Reg × Nat} (h : PAdds (plcs ds ds.length) a b) (hv : ∀ d ∈ ds, 1 ≤ d.val) : Regs ds b.1 := fun k d hd sl hs => by
 have hk := (List.getElem?_eq_some_iff.1 hd).1
 obtain ⟨r, hr, id, ho, hn⟩ := h.facts.2.2.2.1 _ (plcs_of hk hd hs)
 have h1 := hv d (List.mem_of_getElem? hd)
 refine ⟨r, hr, hn.hperm, hn.hbase, ?_⟩
 rw [hn.hbytes]
 simp
 omega
theorem id_eq {w : World} {s : Mem.MS} (h : Mem.MemAt w s) {r r2 : Mem.Reg} (hr : r ∈ s.rs) (hr2 : r2 ∈ s.rs) (hid : r2.id = r.id) : r2 = r := by
 obtain ⟨i, hi, rfl⟩ := List.getElem_of_mem hr
 obtain ⟨j, hj, rfl⟩ := List.getElem_of_mem hr2
 have hp := List.pairwise_iff_getElem.1 h.ids
 rcases Nat.lt_trichotomy i j with hij | rfl | hij
 ·exact absurd hid.symm (hp i j hi hj hij)
 ·rfl
 ·exact absurd hid (hp j i hj hi hij)
theorem write_all {w w2 : World} {s s2 : Mem.MS} (h : Mem.MemAt w s) (h2 : Mem.MemAt w2 s2) {r : Mem.Reg} (hr : r ∈ s.rs) (hp : r.perm = 3) {vs : List Int} (hl : vs.length = r.bytes.length) (e : s2.rs = Mem.writeRs s.rs r.base vs) :
  (Mem.readE s2.rs r.base vs.length = 0 ∧ Mem.readV s2.rs r.base vs.length = vs) ∧
  (∀ r2 ∈ s.rs, r2.perm = 3 → r2.base ≠ r.base → Mem.readE s2.rs r2.base r2.bytes.length = 0 ∧ Mem.readV s2.rs r2.base r2.bytes.length = Mem.readV s.rs r2.base r2.bytes.length) := by
 have hw := (MemAt.write_at h hr hp hl).2
 rw [hw] at e
 have hm : Mem.layR r 0 vs ∈ s2.rs := by
  rw [e]
  unfold Mem.updR
  exact List.mem_map.2 ⟨r, hr, by rw [if_pos rfl]⟩
 have hb := layR_all hl
 constructor
 ·have := MemAt.read_at h2 hm hp
  rw [hb] at this
  exact this
 ·intro r2 hr2 hp2 hne
  have hid : r2.id ≠ r.id := fun hx => hne (by rw [id_eq h hr hr2 hx])
  have hm2 : r2 ∈ s2.rs := by
   rw [e]
   unfold Mem.updR
   exact List.mem_map.2 ⟨r2, hr2, by rw [if_neg hid]⟩
  have h3 := MemAt.read_at h2 hm2 hp2
  have h4 := MemAt.read_at h hr2 hp2
  exact ⟨h3.1, by rw [h3.2, h4.2]⟩
theorem Regs.write {w : World} {s : Mem.MS} {ds : List MDef} (h : Mem.MemAt w s) (hg : Regs ds s.rs) {r : Mem.Reg} (hr : r ∈ s.rs) (hp : r.perm = 3) {vs : List Int} (hl : vs.length = r.bytes.length) : Regs ds (Mem.writeRs s.rs r.base vs) := fun k d hd sl hs => by
 obtain ⟨r2, h1, h2, h3, h4⟩ := hg k d hd sl hs
 rw [(MemAt.write_at h hr hp hl).2]
 unfold Mem.updR
 by_cases he : r2.id = r.id
 ·obtain rfl := id_eq h hr h1 he
  refine ⟨Mem.layR r2 0 vs, List.mem_map.2 ⟨r2, h1, by rw [if_pos rfl]⟩, h2, h3, ?_⟩
  rw [layR_all hl, hl, h4]
 ·exact ⟨r2, List.mem_map.2 ⟨r2, h1, by rw [if_neg he]⟩, h2, h3, h4⟩
theorem PT.at_ds {x : PT} {k : Nat} {d : MDef} {q : PX} (hd : x.ds[k]? = some d) (hq : x.qs[k]? = some q) : ∃ m, x.maps[k]? = some m ∧ m.d = d ∧ m.q = q := by
 unfold PT.ds at hd
 unfold PT.qs at hq
 rw [List.getElem?_map] at hd hq
 cases hm : x.maps[k]? with
 | none => rw [hm] at hd; cases hd
 | some m =>
  rw [hm] at hd hq
  exact ⟨m, rfl, by injection hd, by injection hq⟩
theorem pl_inj {k sl k' sl' : Nat} (h1 : sl < 64) (h2 : sl' < 64) (h : plI k sl = plI k' sl') : k = k' ∧ sl = sl' := by
 unfold plI at h
 omega
structure Solo (w0 w : World) (x : PT) (s : Mem.MS) (ds : List MDef) (qs : List PX) : Prop where
 p : PBoth w x s
 regs : Regs ds s.rs
 ds : x.ds = ds
 qs : x.qs = qs
 own : ∀ b, b ∈ x.blocks ∨ b ∈ s.blocks → w0.heap.size ≤ b
 touch : Touch [] w0 w
theorem Solo.still {w0 w w' : World} {x : PT} {s : Mem.MS} {ds : List MDef} {qs : List PX} (h : Solo w0 w x s ds qs) (ht : Touch [] w w') : Solo w0 w' x s ds qs :=
 ⟨h.p.still ht, h.regs, h.ds, h.qs, h.own, h.touch.trans ht (by simp)⟩
theorem Solo.step {w0 w w' : World} {x x' : PT} {s : Mem.MS} {ds : List MDef} {qs qs' : List PX} (h : Solo w0 w x s ds qs) (st : PStep w w' x x' qs') : Solo w0 w' x' s ds qs' :=
 ⟨h.p.step st, h.regs, by rw [st.ds, h.ds], st.qs, fun b hb => by
  have := h.touch.size
  rcases hb with hb | hb
  ·rcases st.blocks b hb with h1 | h1
   ·exact h.own b (Or.inl h1)
   ·omega
  ·exact h.own b (Or.inr hb), h.touch.trans st.touch (fun b hb => Or.inr (h.own b (Or.inl hb)))⟩
theorem Solo.upd {w0 w w' : World} {x x' : PT} {s : Mem.MS} {ds : List MDef} {qs qs' : List PX} {rs : List Mem.Reg} (h : Solo w0 w x s ds qs) (st : PUSt w w' x x' s qs' rs) (hg : Regs ds rs) : Solo w0 w' x' { s with rs := rs } ds qs' :=
 ⟨st.both, hg, by rw [st.ds, h.ds], st.qs, fun b hb => by
  have := h.touch.size
  rcases hb with hb | hb
  ·rcases st.blocks b hb with h1 | h1
   ·exact h.own b (Or.inl h1)
   ·omega
  ·rw [st.sblk] at hb
   exact h.own b (Or.inr hb), h.touch.trans st.touch (fun b hb => Or.inr (h.own b (List.mem_append.1 hb)))⟩
theorem Solo.new {w0 w w' : World} {x : PT} {s s' : Mem.MS} {ds : List MDef} (h : PNewAt w w' x s s' ds) (hv : ∀ d ∈ ds, 1 ≤ d.val) (h0 : Touch [] w0 w) (hs : ∀ b ∈ s.blocks, w0.heap.size ≤ b) : Solo w0 w' x s' ds (ds.map newQ) :=
 ⟨h.both, Regs.of_adds h.adds hv, h.ds, h.qs, fun b hb => by
  have := h0.size
  rcases hb with hb | hb
  ·have := h.own b hb; omega
  ·rcases h.mown b hb with h1 | h1
   ·exact hs b h1
   ·omega, h0.trans h.touch (fun b hb => Or.inr (hs b hb))⟩
theorem Solo.read {w0 w : World} {x : PT} {s : Mem.MS} {ds : List MDef} {qs : List PX} (h : Solo w0 w x s ds qs) {k : Nat} {d : MDef} (hd : ds[k]? = some d) {sl : Nat} (hs : (sl : Int) < d.max) :
  Mem.readE s.rs (plI k sl) d.val = 0 ∧ ((Mem.readV s.rs (plI k sl) d.val).length : Int) = d.val ∧ ∀ y ∈ Mem.readV s.rs (plI k sl) d.val, 0 ≤ y ∧ y ≤ 255 := by
 obtain ⟨r, hr, hp, hb, hl⟩ := h.regs k d hd sl hs
 have := MemAt.read_at h.p.mem hr hp
 rw [hb, hl] at this
 rw [this.1, this.2]
 exact ⟨rfl, hl, (h.p.mem.ok r hr).byte⟩
theorem Solo.write {w0 w w2 : World} {x : PT} {s s2 : Mem.MS} {ds : List MDef} {qs : List PX} (h : Solo w0 w x s ds qs) (h2 : Mem.MemAt w2 s2) {k : Nat} {d : MDef} (hd : ds[k]? = some d) {sl : Nat} (hs : (sl : Int) < d.max) {vs : List Int} (hl : (vs.length : Int) = d.val) (e : s2.rs = Mem.writeRs s.rs (plI k sl) vs) :
  Mem.readV s2.rs (plI k sl) d.val = vs ∧ ∀ (k' : Nat) (d' : MDef) (sl' : Nat), ds[k']? = some d' → (sl' : Int) < d'.max → plI k' sl' ≠ plI k sl → Mem.readV s2.rs (plI k' sl') d'.val = Mem.readV s.rs (plI k' sl') d'.val := by
 obtain ⟨r, hr, hp, hb, hrl⟩ := h.regs k d hd sl hs
 rw [← hb] at e
 obtain ⟨e1, e2⟩ := write_all h.p.mem h2 hr hp (vs := vs) (by omega) e
 rw [hb, hl] at e1
 refine ⟨e1.2, fun k' d' sl' hd' hs' hne => ?_⟩
 obtain ⟨r2, h1, h2, h3, h4⟩ := h.regs k' d' hd' sl' hs'
 have := (e2 r2 h1 h2 (by rw [h3, hb]; exact hne)).2
 rw [h3, h4] at this
 exact this
theorem Solo.writes {w0 w : World} {x : PT} {s : Mem.MS} {ds : List MDef} {qs : List PX} (h : Solo w0 w x s ds qs) {k : Nat} {d : MDef} (hd : ds[k]? = some d) {sl : Nat} (hs : (sl : Int) < d.max) {vs : List Int} (hl : (vs.length : Int) = d.val) :
  Mem.writeE s.rs (plI k sl) vs = 0 ∧ Regs ds (Mem.writeRs s.rs (plI k sl) vs) := by
 obtain ⟨r, hr, hp, hb, hrl⟩ := h.regs k d hd sl hs
 rw [← hb]
 exact ⟨(MemAt.write_at h.p.mem hr hp (by omega)).1, Regs.write h.p.mem h.regs hr hp (by omega)⟩
theorem load_read {rs : List Mem.Reg} {p n : Int} (h0 : 0 < n) (hw : Mem.wordB n = true) (hr : Mem.readE rs p n = 0) : Mem.loadE rs p n = 0 ∧ Mem.loadV rs p n = Mem.num (fun j => (Mem.readV rs p n).getD j 0) n.toNat := by
 unfold Mem.readE at hr
 rw [if_neg (by omega), if_neg (by omega)] at hr
 unfold Mem.loadE Mem.loadV Mem.readV
 rw [if_pos hw, if_pos ⟨hw, hr⟩, if_neg (by omega)]
 exact ⟨hr, rfl⟩
end Go.Proofs.Ytmhhahmjkopjhaa
end
section
namespace Go.Proofs.Ytmhhahmjkopjhaa
open Go.RowKit
def PGetPost2 (w : World) (x : PT) (a : (List Int × Int) × List PX) (e : Ending) (w' : World) : Prop := ∃ v, e = .returned (.tuple #[v, .int .i64 a.1.2]) ∧ Mem.SliceIs w' v a.1.1 ∧ ∃ x', PStep w w' x x' a.2 ∧ (∀ b off l c, v = .slice (some ⟨b, off, none⟩) l c → w.heap.size ≤ b ∧ b ∉ x'.blocks)
theorem pget2_any {w : World} {x : PT} {s : Mem.MS} (h : PBoth w x s) (i : Int) {sa : Option Addr} {sl : Nat} {bs : List Int} (hk : KeyAt w sa sl bs) (sc : Nat) (hsc : sl ≤ sc) :
  Calls Try.prog 8 #[.pointer (some ⟨x.t, 0, none⟩), .int .i64 i, .slice sa sl sc] w (PGetPost2 w x (getP x s.rs i bs)) := by
 have H1 := toHid (plookup_any h.tab i hk sc hsc)
 have hl := hk.1
 subst hl
 by_cases h0 : chkP x.ds i bs.length = 0
 ·obtain ⟨k, m, rfl, hm, hkey⟩ := chk_ok h0
  have hmem := List.mem_of_getElem? hm
  have hqs : x.qs[k]? = some m.q := by unfold PT.qs; rw [List.getElem?_map, hm]; rfl
  have hl : lookP x k bs = ((match (m.q.findA bs).1 with
   | some s => plI k (s : Int)
   | none => 0, 0), x.qs.set k (m.q.findA bs).2) := by
   unfold lookP
   rw [if_pos h0, Int.toNat_natCast, hqs] <;> rfl
  have hv : getP x s.rs k bs = ((match (m.q.findA bs).1 with
   | some u => (Mem.readV s.rs (plI k (u : Int)) m.d.val, Mem.readE s.rs (plI k (u : Int)) m.d.val)
   | none => ([], 14)), x.qs.set k (m.q.findA bs).2) := by
   unfold getP
   rw [if_pos h0, Int.toNat_natCast, hm] <;> rfl
  rw [hl] at H1
  rw [hv]
  have hok := h.tab.ok m hmem
  have hv2 := hok.v2
  have hk8 : k < 8 := by have := (List.getElem?_eq_some_iff.1 hm).1; have := h.tab.many; omega
  have HS64 : Hid (∀ s, (m.q.findA bs).1 = some s → s < 64) := fun s hs => by
   have h1 := pfind_lt hs
   have h2 := (h.tab.maps m hmem).good.m2
   omega
  have HH := toHid (And.intro h hm)
  generalize m.q.findA bs = fq at *
  obtain ⟨fo, q⟩ := fq
  clear h hk h0 hmem hqs hv hkey hm hl hok
  cases fo with
  | none =>
   go_enter Try.func8, Try.ntmps8
   go_wp2_with fail
   refine Calls.mono H1.out ?_
   rintro e w2 ⟨rfl, x1, st⟩
   have HX := toHid st
   clear st H1
   go_wp2
   go_ret2
   exact ⟨_, rfl, Or.inl ⟨rfl, rfl⟩, x1, HX.out, (fun b _ _ _ e => by cases e)⟩
  | some sN =>
   have hs64 := HS64.out sN rfl
   dsimp only at H1 ⊢
   have hp0 : (plI k sN == 0) = false := by unfold plI; simp; omega
   have HPL : Hid (0 ≤ plI k sN ∧ plI k sN ≤ 18446744073709551615) := ⟨by unfold plI; omega, by unfold plI; omega⟩
   generalize plI k sN = pl at *
   go_enter Try.func8, Try.ntmps8
   go_wp2_with fail
   refine Calls.mono H1.out ?_
   rintro e w2 ⟨rfl, x1, st⟩
   have HX := toHid st
   have hR := (HH.out.1.step st).still ((Touch.refl [] w2).drew)
   obtain ⟨m1, hm1, hmd⟩ := st.maps_at HH.out.2
   obtain ⟨gb, hg⟩ := hR.tab.some_g hm1
   obtain ⟨_, _, b2, _, _⟩ := hR.tab.boxed hm1 hg
   rw [hmd] at b2
   have e0 := hR.tab.c0
   have e1 := hR.tab.c1
   rw [hR.at_, st.t] at e0
   rw [hg, st.t] at e1
   unfold slV at e1
   rw [Option.map_some] at e1
   have hkl1 : (k : Int) < x1.maps.length := by have := (List.getElem?_eq_some_iff.1 hm1).1; omega
   have HA := toHid (Mem.read2_any hR.mem pl m.d.val HPL.out.1 HPL.out.2 (by omega))
   have HSS : Hid (∀ w', Touch [] w2.drew w' → w'.cell? ⟨x.t, 0, none⟩ = some (.pointer (some ⟨s.m, 0, none⟩)) ∧ w'.cell? ⟨x.t, 1, none⟩ = some (.slice (some ⟨gb, 0, none⟩) x1.maps.length x1.cap) ∧ w'.cell? ⟨gb, k * 5 + 2, none⟩ = some (.int .i64 m.d.val)) := fun w' ht => ⟨ht.cell e0 (by simp), ht.cell e1 (by simp), ht.cell b2 (by simp)⟩
   generalize x1.maps.length = L at *
   generalize x1.cap = cp at *
   generalize m.d.val = mv at *
   clear st H1 hR hm1 hmd hg e0 e1 b2
   go_wp2_with fail
   refine wp_region_held_drew (S := fun w' => w'.cell? ⟨x.t, 0, none⟩ = some (.pointer (some ⟨s.m, 0, none⟩)) ∧ w'.cell? ⟨x.t, 1, none⟩ = some (.slice (some ⟨gb, 0, none⟩) L cp) ∧ w'.cell? ⟨gb, k * 5 + 2, none⟩ = some (.int .i64 mv)) (by kernel_rfl) ?_ (fun hHeld => ?_)
   ·exact HSS.out _ (Touch.refl _ _)
   refine tk 0 (v := ?_) rfl ?_ ?_
   rotate_left
   ·(intro w hSw; (try dsimp only at hSw); go_simp; try with_reducible rfl)
   simp only [Act.put, AP]
   refine tk 1 (v := ?_) rfl ?_ ?_
   rotate_left
   ·(intro w hSw; (try dsimp only at hSw); go_simp; try with_reducible rfl)
   simp only [Act.put, AP]
   refine tk 2 (v := ?_) rfl ?_ ?_
   rotate_left
   ·(intro w hSw; (try dsimp only at hSw); go_simp; try with_reducible rfl)
   simp only [Act.put, AP]
   refine tk 3 (v := ?_) rfl ?_ ?_
   rotate_left
   ·(intro w hSw; (try dsimp only at hSw); go_simp; try with_reducible rfl)
   simp only [Act.put, AP]
   refine tk 4 (v := ?_) rfl ?_ ?_
   rotate_left
   ·(intro w hSw; (try dsimp only at hSw); go_simp; try with_reducible rfl)
   simp only [Act.put, AP]
   refine tk 5 (v := ?_) rfl ?_ ?_
   rotate_left
   ·(intro w hSw; (try dsimp only at hSw); go_simp; try with_reducible rfl)
   simp only [Act.put, AP]
   refine tk 6 (v := ?_) rfl ?_ ?_
   rotate_left
   ·(intro w hSw; (try dsimp only at hSw); go_simp; try with_reducible rfl)
   simp only [Act.put, AP]
   refine tk 7 (v := ?_) rfl ?_ ?_
   rotate_left
   ·(intro w hSw; (try dsimp only at hSw); go_simp; try with_reducible rfl)
   simp only [Act.put, AP]
   refine tk 8 (v := ?_) rfl ?_ ?_
   rotate_left
   ·(intro w hSw; (try dsimp only at hSw); go_simp; try with_reducible rfl)
   simp only [Act.put, AP]
   refine tk 9 (v := ?_) rfl ?_ ?_
   rotate_left
   ·(intro w hSw; (try dsimp only at hSw); go_simp; try with_reducible rfl)
   simp only [Act.put, AP]
   refine tk 10 (v := ?_) rfl ?_ ?_
   rotate_left
   ·(intro w hSw; (try dsimp only at hSw); go_simp; try with_reducible rfl)
   simp only [Act.put, AP]
   refine tk 11 (v := ?_) rfl ?_ ?_
   rotate_left
   ·(intro w hSw; (try dsimp only at hSw); go_simp; try with_reducible rfl)
   simp only [Act.put, AP]
   refine tk 12 (v := ?_) rfl ?_ ?_
   rotate_left
   ·(intro w hSw; (try dsimp only at hSw); go_simp; try with_reducible rfl)
   simp only [Act.put, AP]
   refine tk 13 (v := ?_) rfl ?_ ?_
   rotate_left
   ·(intro w hSw; (try dsimp only at hSw); go_simp; try with_reducible rfl)
   simp only [Act.put, AP]
   refine wpAnyH_ready (rs := [14]) (by kernel_rfl) (by simp) ?_
   refine AllReadyH.cons rfl (fun K hK => ?_) AllReadyH.nil
   simp only [AP]
   go_simp
   refine Calls.mono HA.out ?_; rintro e w4 ⟨rv, rfl, hsl, hnw, ht4⟩; have HN := toHid (And.intro hsl (And.intro hnw ht4)); clear hsl hnw ht4
   go_wp2_with fail
   refine hK.out _ _ ?_ (fun hHeld => ?_)
   ·exact HSS.out _ HN.out.2.2
   clear hK K
   try simp only [Act.put, AP]
   refine tk 15 (v := ?_) rfl ?_ ?_
   rotate_left
   ·(intro w hSw; (try dsimp only at hSw); go_simp; try with_reducible rfl)
   simp only [Act.put, AP]
   refine tk 16 (v := ?_) rfl ?_ ?_
   rotate_left
   ·(intro w hSw; (try dsimp only at hSw); go_simp; try with_reducible rfl)
   simp only [Act.put, AP]
   refine wpAnyH_ready (rs := [17]) (by kernel_rfl) (by simp) ?_
   refine AllReadyH.cons rfl (fun K hK => ?_) AllReadyH.nil
   simp only [AP]
   go_simp
   refine hK.out _ _ ?_ (fun hHeld => ?_)
   ·exact hHeld
   clear hK K
   try simp only [Act.put, AP]
   refine wpAnyH_ready (rs := [18]) (by kernel_rfl) (by simp) ?_
   refine AllReadyH.cons rfl (fun K hK => ?_) AllReadyH.nil
   simp only [AP]
   go_simp
   refine hK.out _ _ ?_ (fun hHeld => ?_)
   ·exact hHeld
   clear hK K
   try simp only [Act.put, AP]
   refine wpAnyH_done (by kernel_rfl) ?_ _
   clear hHeld HSS HA
   go_wp2
   go_ret2
   exact ⟨_, rfl, HN.out.1, x1, HX.out.still (((Touch.refl [] w2).drew).trans HN.out.2.2 (by simp)), (fun b off l c e => by have h1 := HN.out.2.1 b off l c e; have h2 : w2.drew.heap.size = w2.heap.size := rfl; have h3 := HX.out.touch.size; exact ⟨by omega, fun hx => by have := HX.out.at_.lt b hx; omega⟩)⟩
 ·have hv : getP x s.rs i bs = (([], chkP x.ds i bs.length), x.qs) := if_neg h0
  have hl : lookP x i bs = ((0, chkP x.ds i bs.length), x.qs) := if_neg h0
  rw [hl] at H1
  rw [hv]
  have hne : (chkP x.ds i bs.length != 0) = true := by simpa using h0
  generalize chkP x.ds i bs.length = ce at *
  clear h hk h0 hv hl
  go_enter Try.func8, Try.ntmps8
  go_wp2_with fail
  refine Calls.mono H1.out ?_
  rintro e w2 ⟨rfl, x1, st⟩
  have HX := toHid st
  clear st
  go_wp2
  go_ret2
  exact ⟨_, rfl, Or.inl ⟨rfl, rfl⟩, x1, HX.out, (fun b _ _ _ e => by cases e)⟩
end Go.Proofs.Ytmhhahmjkopjhaa
end
section
namespace Go.Proofs.Ytmhhahmjkopjhaa
open Go.RowKit
def updA (d : MDef) (q : PX) (bs vs : List Int) (fl : Int) : Int × PX × Option Int :=
 if (bs.length : Int) = d.key then
  if (vs.length : Int) = d.val then (if (q.putA bs fl).1.2.2 = 0 then (0, (q.putA bs fl).2, some (q.putA bs fl).1.1) else ((q.putA bs fl).1.2.2, (q.putA bs fl).2, none)) else (2, q, none)
 else (2, q, none)
def delAA (d : MDef) (q : PX) (bs : List Int) : Int × PX := if (bs.length : Int) = d.key then ((q.delA bs).1.2, (q.delA bs).2) else (2, q)
def lookA (d : MDef) (q : PX) (bs : List Int) : Option Nat × Int × PX := if (bs.length : Int) = d.key then ((q.findA bs).1, 0, (q.findA bs).2) else (none, 2, q)
theorem chk_at {ds : List MDef} {k : Nat} {d : MDef} (hd : ds[k]? = some d) (n : Nat) : chkP ds k n = if (n : Int) = d.key then 0 else 2 := by
 unfold chkP
 rw [if_pos ⟨by omega, by have := (List.getElem?_eq_some_iff.1 hd).1; omega⟩, Int.toNat_natCast, hd]
theorem set_same {α : Type} {l : List α} {k : Nat} {a : α} (h : l[k]? = some a) : l.set k a = l := by
 obtain ⟨hk, rfl⟩ := List.getElem?_eq_some_iff.1 h
 exact List.set_getElem_self hk
theorem upd_at {x : PT} {ds : List MDef} {qs : List PX} (h1 : x.ds = ds) (h2 : x.qs = qs) {k : Nat} {d : MDef} {q : PX} (hd : ds[k]? = some d) (hq : qs[k]? = some q) (bs vs : List Int) (fl : Int) :
  updP x k bs vs fl = ((updA d q bs vs fl).1, qs.set k (updA d q bs vs fl).2.1, (updA d q bs vs fl).2.2.map fun s => plI k s) := by
 subst h1
 subst h2
 obtain ⟨m, hm, hmd, hmq⟩ := PT.at_ds hd hq
 subst hmd
 subst hmq
 unfold updP updA
 rw [chk_at hd]
 by_cases hb : (bs.length : Int) = m.d.key
 ·rw [if_pos hb, if_pos rfl, Int.toNat_natCast, hm, if_pos hb]
  dsimp only
  by_cases hv : (vs.length : Int) = m.d.val
  ·rw [if_pos hv, if_pos hv]
   split <;> rfl
  ·rw [if_neg hv, if_neg hv]
   simp only [set_same hq, Option.map_none]
 ·rw [if_neg hb, if_neg (by decide), if_neg hb]
  simp only [set_same hq, Option.map_none]
theorem del_at {x : PT} {ds : List MDef} {qs : List PX} (h1 : x.ds = ds) (h2 : x.qs = qs) {k : Nat} {d : MDef} {q : PX} (hd : ds[k]? = some d) (hq : qs[k]? = some q) (bs : List Int) :
  delP x k bs = ((delAA d q bs).1, qs.set k (delAA d q bs).2) := by
 subst h1
 subst h2
 unfold delP delAA
 rw [chk_at hd]
 by_cases hb : (bs.length : Int) = d.key
 ·rw [if_pos hb, if_pos rfl, Int.toNat_natCast, hq, if_pos hb]
 ·rw [if_neg hb, if_neg (by decide), if_neg hb]
  simp only [set_same hq]
theorem get_at {x : PT} {ds : List MDef} {qs : List PX} (h1 : x.ds = ds) (h2 : x.qs = qs) (rs : List Mem.Reg) {k : Nat} {d : MDef} {q : PX} (hd : ds[k]? = some d) (hq : qs[k]? = some q) (bs : List Int) :
  getP x rs k bs = ((if (lookA d q bs).2.1 = 0 then (match (lookA d q bs).1 with
   | some s => (Mem.readV rs (plI k (s : Int)) d.val, Mem.readE rs (plI k (s : Int)) d.val)
   | none => ([], 14)) else ([], (lookA d q bs).2.1)), qs.set k (lookA d q bs).2.2) := by
 subst h1
 subst h2
 obtain ⟨m, hm, hmd, hmq⟩ := PT.at_ds hd hq
 subst hmd
 subst hmq
 unfold getP lookA
 rw [chk_at hd]
 by_cases hb : (bs.length : Int) = m.d.key
 ·rw [if_pos hb, if_pos rfl, Int.toNat_natCast, hm, if_pos hb]
  rfl
 ·rw [if_neg hb, if_neg (by decide), if_neg hb]
  simp only [set_same hq]
  rfl
theorem upd_zero {d : MDef} {q : PX} {bs vs : List Int} {fl z : Int} (h : (updA d q bs vs fl).2.2 = some z) : (updA d q bs vs fl).1 = 0 := by
 by_cases h1 : (bs.length : Int) = d.key
 ·by_cases h2 : (vs.length : Int) = d.val
  ·by_cases h3 : (q.putA bs fl).1.2.2 = 0
   ·unfold updA
    rw [if_pos h1, if_pos h2, if_pos h3]
   ·unfold updA at h
    rw [if_pos h1, if_pos h2, if_neg h3] at h
    cases h
  ·unfold updA at h
   rw [if_pos h1, if_neg h2] at h
   cases h
 ·unfold updA at h
  rw [if_neg h1] at h
  cases h
theorem upd_slot {d : MDef} {q : PX} (g : PGood q) {bs vs : List Int} {fl z : Int} (h : (updA d q bs vs fl).2.2 = some z) : ∃ sl : Nat, z = sl ∧ sl < q.slots.length ∧ (vs.length : Int) = d.val := by
 unfold updA at h
 split at h
 ·split at h
  ·rename_i hv
   split at h
   ·rename_i h0
    injection h with h
    obtain ⟨sl, h1, h2⟩ := pput_slot g h0
    exact ⟨sl, by rw [← h, h1], h2, hv⟩
   ·cases h
  ·cases h
 ·cases h
theorem Solo.map {w0 w : World} {x : PT} {s : Mem.MS} {ds : List MDef} {qs : List PX} (h : Solo w0 w x s ds qs) {k : Nat} {d : MDef} {q : PX} (hd : ds[k]? = some d) (hq : qs[k]? = some q) : PGood q ∧ (q.slots.length : Int) = d.max ∧ q.slots.length ≤ 64 := by
 obtain ⟨m, hm, rfl, rfl⟩ := PT.at_ds (x := x) (by rw [h.ds]; exact hd) (by rw [h.qs]; exact hq)
 have hmem := List.mem_of_getElem? hm
 have hg := (h.p.tab.maps m hmem).good
 exact ⟨hg, (h.p.tab.ok m hmem).max, by have := hg.m2; omega⟩
structure Sep (w0 w : World) (x : PT) (s : Mem.MS) (ds : List MDef) (qs : List PX) (x' : PT) (s' : Mem.MS) (ds' : List MDef) (qs' : List PX) : Prop where
 t : Solo w0 w x s ds qs
 u : Solo w0 w x' s' ds' qs'
 apart : ∀ y, y ∈ x.blocks ∨ y ∈ s.blocks → ¬ (y ∈ x'.blocks ∨ y ∈ s'.blocks)
theorem Solo.updW {w0 w w2 : World} {x x1 : PT} {s : Mem.MS} {ds : List MDef} {qs : List PX} (h : Solo w0 w x s ds qs) {k : Nat} {d : MDef} {q : PX} (hd : ds[k]? = some d) (hq : qs[k]? = some q) (bs vs : List Int) (fl : Int) {rs : List Mem.Reg} (e : rs = updRs s.rs vs (updP x k bs vs fl)) (st : PUSt w w2 x x1 s (updP x k bs vs fl).2.1 rs) :
  updE s.rs vs (updP x k bs vs fl) = (updA d q bs vs fl).1 ∧ (updP x k bs vs fl).2.1 = qs.set k (updA d q bs vs fl).2.1 ∧ Regs ds rs ∧
  (∀ (k' : Nat) (d' : MDef) (sl : Nat), ds[k']? = some d' → (sl : Int) < d'.max → sl < 64 → k' ≠ k → Mem.readV rs (plI k' sl) d'.val = Mem.readV s.rs (plI k' sl) d'.val) ∧
  (∀ sl : Nat, (sl : Int) < d.max → Mem.readV rs (plI k sl) d.val = if (updA d q bs vs fl).2.2 = some (sl : Int) then vs else Mem.readV s.rs (plI k sl) d.val) := by
 have hu := upd_at h.ds h.qs hd hq bs vs fl
 obtain ⟨hg, hmax, h64⟩ := h.map hd hq
 rw [hu] at e ⊢
 cases hz : (updA d q bs vs fl).2.2 with
 | none =>
  rw [hz] at e
  have e : rs = s.rs := e
  subst e
  refine ⟨rfl, rfl, h.regs, fun k' d' sl _ _ _ _ => rfl, fun sl _ => ?_⟩
  rw [if_neg (by simp)]
 | some z =>
  obtain ⟨sl0, rfl, hsl, hv⟩ := upd_slot hg hz
  rw [hz] at e
  have e : rs = Mem.writeRs s.rs (plI k sl0) vs := e
  obtain ⟨w1, w2'⟩ := h.writes hd (sl := sl0) (by omega) hv
  obtain ⟨v1, v2⟩ := h.write st.both.mem hd (sl := sl0) (by omega) hv e
  have hA1 := upd_zero hz
  refine ⟨by rw [hA1]; exact w1, rfl, by rw [e]; exact w2', fun k' d' sl hd' hs' hs64 hk => v2 k' d' sl hd' hs' (fun hx => hk (pl_inj (by omega) (by omega) hx).1), fun sl hs => ?_⟩
  by_cases hss : sl = sl0
  ·subst hss
   rw [if_pos rfl]
   exact v1
  ·rw [if_neg (fun hx => hss (by injection hx with hx; omega))]
   exact v2 k d sl hd hs (fun hx => hss (pl_inj (by omega) (by omega) hx).2)
structure Alike (w0 w : World) (x : PT) (s : Mem.MS) (qs : List PX) (x' : PT) (s' : Mem.MS) (qs' : List PX) (a b : MDef) : Prop where
 sep : Sep w0 w x s [a, b] qs x' s' [b] qs'
 q : ∃ q0 q, qs = [q0, q] ∧ qs' = [q]
 vals : ∀ sl : Nat, (sl : Int) < b.max → Mem.readV s.rs (plI 1 sl) b.val = Mem.readV s'.rs (plI 0 sl) b.val
end Go.Proofs.Ytmhhahmjkopjhaa
end
section
namespace Go.Proofs.Ytmhhahmjkopjhaa
open Go.RowKit
theorem pfind_own2 {q : PX} (hk : ¬ q.kind = 3) {i : Nat} {bs : List Int} (hi : q.slots[i]? = some (some bs)) (hl : (bs.length : Int) = q.size) (h1 : ∀ j, q.slots[j]? = some (some bs) → j = i) : (q.findA bs).1 = some i := by
 rw [pfind_ne hk]
 unfold PX.find
 rw [if_pos hl]
 cases hs : sameP q.slots bs with
 | none => exact absurd hi (same_not hs i)
 | some j => rw [h1 j (sameP_get hs)]
theorem kfind_own {w : World} {X : Nat} {bl : List Nat} {q : PX} (h : KAt w X bl q) {i : Nat} {bs : List Int} (hi : q.slots[i]? = some (some bs)) : (q.findA bs).1 = some i := by
 have hl := h.good.lens bs (List.mem_of_getElem? hi)
 rcases h.is with ⟨a1, rfl, a3, m, a4, a5⟩ | ⟨a1, b, n, a2, rfl, a4⟩ | ⟨a1, x, a2, rfl, rfl, a5, a6, a7⟩ | ⟨a1, x, a2, rfl, rfl, a5, a6⟩
 ·have hget : ∀ j : Nat, q.slots[j]? = some (some bs) → j < m ∧ bs = le4 (j : Int) := fun j hj => by
   rw [a5] at hj
   have hlt := (List.getElem?_eq_some_iff.1 hj).1
   have hm : j < m := by simpa [allKeys] using hlt
   rw [allKeys, List.map_map, List.getElem?_map, List.getElem?_range hm] at hj
   injection hj with hj
   injection hj with hj
   exact ⟨hm, hj.symm⟩
  have hm64 := a4.2.2
  refine pfind_own2 (by rw [a1]; decide) hi hl (fun j hj => ?_)
  obtain ⟨q1, q2⟩ := hget i hi
  obtain ⟨q3, q4⟩ := hget j hj
  have e1 : keyNum bs = i := by rw [q2, num_le4 _ (by omega) (by omega)]
  have e2 : keyNum bs = j := by rw [q4, num_le4 _ (by omega) (by omega)]
  omega
 ·obtain ⟨D, _, _, hS⟩ := a4.map.map
  exact pfind_own2 (by rw [a1]; decide) hi hl (fun j hj => hS.once hj hi)
 ·obtain ⟨D, _, _, hS⟩ := a6.map.map
  rw [a5] at hS
  exact pfind_own2 (by rw [a1]; decide) hi hl (fun j hj => hS.once hj hi)
 ·unfold PX.findA
  rw [if_pos a1]
  unfold PX.find3
  rw [pfits a2]
  have hT := a6.tied
  obtain ⟨p, hp, rfl⟩ := hT.form bs (by rw [a5]; exact List.mem_of_getElem? hi)
  have hn := a6.n12
  have hnum : keyNum (Lpm.keyP p x.n) = p.length := Lpm.keyNum_key p x.n (by omega)
  have hf : Lpm.fitsK (Lpm.keyP p x.n) x.n = true := by
   unfold Lpm.fitsK
   rw [Lpm.keyP_len, hnum, decide_eq_true rfl, decide_eq_true (by omega)]
   rfl
  rw [hf, if_pos rfl]
  show longTo q.slots (Lpm.keyP p x.n) q.slots.length = some i
  rw [← a5, Lpm.long_eq hT (by omega) (Lpm.keyP_len p x.n) (Lpm.keyP_bd p x.n) (by rw [hnum]; omega), Lpm.pathP_key p hp (by omega)]
  have hat : Lpm.atT x.T p = some i := (hT.at_ p i).2 ⟨hp, by rw [a5]; exact hi⟩
  rcases Lpm.longT_get p x.T with ⟨_, h2⟩ | ⟨s, k, h1, h2, h3, h4⟩
  ·have := h2 p.length
   rw [List.take_length, hat] at this
   cases this
  ·by_cases hk : k < p.length
   ·have := h4 p.length hk (Nat.le_refl _)
    rw [List.take_length, hat] at this
    cases this
   ·have : p.take k = p := by rw [show k = p.length by omega, List.take_length]
    rw [this, hat] at h3
    rw [h1]
    exact h3.symm
def TwinPost (w : World) (k : Int) (q : PX) (e : Ending) (w' : World) : Prop := ∃ C bl, e = .returned (ixV k C) ∧ KAt w' C bl q ∧ (∀ b ∈ bl, w.heap.size ≤ b) ∧ Touch [] w w'
end Go.Proofs.Ytmhhahmjkopjhaa
end
section
namespace Go.Proofs.Ytmhhahmjkopjhaa
open Go.RowKit
def dT (kind : Int) : MDef := ⟨kind, if kind = 0 then 4 else 5, 1, 64⟩
def keyT (kind b : Int) : List Int := if kind = 0 then [b % 32, 0, 0, 0] else if kind = 3 then [8, 0, 0, 0, b] else [b % 32, 0, 0, 0, b]
theorem keyT_len (kind b : Int) : ((keyT kind b).length : Int) = (dT kind).key := by
 unfold keyT dT
 dsimp only
 split
 ·rfl
 ·split <;> rfl
theorem keyT_bd {kind b : Int} (h0 : 0 ≤ b) (h1 : b ≤ 255) : ∀ x ∈ keyT kind b, 0 ≤ x ∧ x ≤ 255 := by
 intro x hx
 unfold keyT at hx
 split at hx
 ·simp at hx; omega
 ·split at hx
  ·simp at hx; omega
  ·simp at hx; omega
def heldN (l : List (Option (List Int))) : Nat := (l.filter Option.isSome).length
theorem held_set {l : List (Option (List Int))} {i : Nat} (o : Option (List Int)) : heldN (l.set i o) ≤ heldN l + 1 := by
 unfold heldN
 induction l generalizing i with
 | nil => simp
 | cons a l ih =>
  cases i with
  | zero =>
   simp only [List.set_cons_zero, List.filter_cons]
   split <;> split <;> simp <;> omega
  | succ i =>
   have := ih (i := i)
   simp only [List.set_cons_succ, List.filter_cons]
   split <;> simp <;> omega
theorem held_none {l : List (Option (List Int))} {i : Nat} : heldN (l.set i none) ≤ heldN l := by
 unfold heldN
 induction l generalizing i with
 | nil => simp
 | cons a l ih =>
  cases i with
  | zero =>
   cases a <;> simp
  | succ i =>
   have := ih (i := i)
   simp only [List.set_cons_succ, List.filter_cons]
   split <;> simp <;> omega
theorem free_of {l : List (Option (List Int))} (h : heldN l < l.length) : ∃ f, freeP l = some f ∧ f < l.length := by
 cases hf : freeP l with
 | some f => exact ⟨f, rfl, freeP_lt hf⟩
 | none =>
  exfalso
  unfold freeP at hf
  rw [List.findIdx?_eq_none_iff] at hf
  have : l.filter Option.isSome = l := List.filter_eq_self.2 fun x hx => by
   have := hf x hx
   cases x with
   | none => cases this
   | some y => rfl
  unfold heldN at h
  rw [this] at h
  omega
theorem cut8 {b : Int} (h0 : 0 ≤ b) (h1 : b ≤ 255) : cutP [8, 0, 0, 0, b] = [8, 0, 0, 0, b] := by
 have hk : keyNum [8, 0, 0, 0, b] = 8 := by
  unfold keyNum num
  simp [num]
 have hb : ∀ j, j < 8 → bitP [8, 0, 0, 0, b] j = b / 2 ^ (7 - j) % 2 := fun j hj => by
  unfold bitP
  rw [show j / 8 = 0 by omega, show j % 8 = j by omega]
  rfl
 have hc : cutAcc [8, 0, 0, 0, b] 0 8 = b := by
  simp only [cutAcc, hk]
  simp only [hb 0 (by omega), hb 1 (by omega), hb 2 (by omega), hb 3 (by omega), hb 4 (by omega), hb 5 (by omega), hb 6 (by omega), hb 7 (by omega), Nat.mul_zero, Nat.zero_add]
  simp
  omega
 unfold cutP cutTo
 simp [hc]
structure Q1 (kind : Int) (q : PX) (n : Nat) : Prop where
 kd : q.kind = kind
 size : q.size = (dT kind).key
 len : q.slots.length = 64
 full : kind = 0 → q.slots = (allKeys 64).map some
 held : kind ≠ 0 → heldN q.slots ≤ n
 form : kind = 3 → ∀ y, some y ∈ q.slots → ∃ b, 0 ≤ b ∧ b ≤ 255 ∧ y = [8, 0, 0, 0, b]
theorem tsame_none {l : List (Option (List Int))} {bs : List Int} (h : ∀ j : Nat, l[j]? ≠ some (some bs)) : sameP l bs = none := by
 cases hs : sameP l bs with
 | none => rfl
 | some i => exact absurd (sameP_get hs) (h i)
theorem tsame_of {l : List (Option (List Int))} {bs : List Int} {i : Nat} (h : l[i]? = some (some bs)) : ∃ j, sameP l bs = some j := by
 cases hs : sameP l bs with
 | none => exact absurd h (same_not hs i)
 | some j => exact ⟨j, rfl⟩
theorem le4_small {v : Int} (h0 : 0 ≤ v) (h1 : v < 32) : le4 v = [v, 0, 0, 0] := by
 rw [le4_eq]
 unfold byteOf
 simp
 omega
theorem full_at {b : Int} {l : List (Option (List Int))} (h : l = (allKeys 64).map some) : l[(b % 32).toNat]? = some (some (keyT 0 b)) := by
 subst h
 have hlt : (b % 32).toNat < 64 := by omega
 unfold allKeys
 rw [List.map_map, List.getElem?_map, List.getElem?_range hlt]
 show some (some (le4 (((b % 32).toNat : Nat) : Int))) = _
 rw [show (((b % 32).toNat : Nat) : Int) = b % 32 by omega, le4_small (by omega) (by omega)]
 rfl
theorem fits_key {kind b : Int} {q : PX} {n : Nat} (h : Q1 kind q n) (h3 : kind = 3) : q.fits3 (keyT kind b) = true := by
 subst h3
 have h1 := keyT_len 3 b
 have h2 : keyNum (keyT 3 b) = 8 := by
  unfold keyT keyNum num
  simp [num]
 unfold PX.fits3
 rw [h.size, decide_eq_true h1, h2]
 rfl
theorem Q1.put {kind : Int} {q : PX} {n : Nat} (h : Q1 kind q n) (k3 : 0 ≤ kind ∧ kind ≤ 3) (hn : n < 64) {b : Int} (b0 : 0 ≤ b) (b1 : b ≤ 255) :
  ∃ sl : Nat, (q.putA (keyT kind b) 0).1.1 = sl ∧ (q.putA (keyT kind b) 0).1.2.2 = 0 ∧ sl < 64 ∧ (q.putA (keyT kind b) 0).2.slots[sl]? = some (some (keyT kind b)) ∧ Q1 kind (q.putA (keyT kind b) 0).2 (n + 1) := by
 have hlen : ((keyT kind b).length : Int) = q.size := by rw [h.size]; exact keyT_len kind b
 have hdone : ∀ (q' : PX) (sl : Nat), q'.kind = q.kind → q'.size = q.size → (q'.slots = q.slots ∨ (kind ≠ 0 ∧ q'.slots = q.slots.set sl (some (keyT kind b)))) → Q1 kind q' (n + 1) := fun q' sl e1 e2 e3 => by
  refine ⟨e1.trans h.kd, e2.trans h.size, ?_, fun hk => ?_, fun hk => ?_, fun hk y hy => ?_⟩
  ·rcases e3 with e3 | ⟨_, e3⟩
   ·rw [e3]; exact h.len
   ·rw [e3, List.length_set]; exact h.len
  ·rcases e3 with e3 | ⟨e4, _⟩
   ·rw [e3]; exact h.full hk
   ·exact absurd hk e4
  ·rcases e3 with e3 | ⟨_, e3⟩
   ·rw [e3]; have := h.held hk; omega
   ·rw [e3]; have := h.held hk; have := held_set (l := q.slots) (i := sl) (some (keyT kind b)); omega
  ·rcases e3 with e3 | ⟨_, e3⟩
   ·rw [e3] at hy; exact h.form hk y hy
   ·rw [e3] at hy
    rcases List.mem_or_eq_of_mem_set hy with hy | hy
    ·exact h.form hk y hy
    ·injection hy with hy
     refine ⟨b, b0, b1, ?_⟩
     rw [hy, hk]
     rfl
 unfold PX.putA
 by_cases h3 : q.kind = 3
 ·have hk3 : kind = 3 := by rw [← h.kd]; exact h3
  have hc : cutP (keyT kind b) = keyT kind b := by rw [hk3]; exact cut8 b0 b1
  rw [if_pos h3]
  unfold PX.put3
  rw [if_pos (fits_key h hk3), if_neg (by decide), hc]
  cases hs : sameP q.slots (keyT kind b) with
  | some i =>
   rw [if_neg (by decide)]
   exact ⟨i, rfl, rfl, by have := sameP_lt hs; have := h.len; omega, sameP_get hs, hdone _ i rfl rfl (Or.inl rfl)⟩
  | none =>
   rw [if_neg (by decide)]
   obtain ⟨f, hf, hfl⟩ := free_of (l := q.slots) (by have := h.held (by omega); have := h.len; omega)
   rw [hf]
   refine ⟨f, rfl, rfl, by have := h.len; omega, ?_, hdone _ f rfl rfl (Or.inr ⟨by omega, rfl⟩)⟩
   show (q.slots.set f _)[f]? = _
   rw [List.getElem?_set, if_pos rfl, if_pos hfl]
 ·rw [if_neg h3]
  unfold PX.put
  rw [if_pos hlen, if_neg (by decide)]
  cases hs : sameP q.slots (keyT kind b) with
  | some i =>
   dsimp only
   rw [if_neg (by decide)]
   exact ⟨i, rfl, rfl, by have := sameP_lt hs; have := h.len; omega, sameP_get hs, hdone _ i rfl rfl (Or.inl rfl)⟩
  | none =>
   by_cases hk0 : kind = 0
   ·exfalso
    subst hk0
    exact same_not hs _ (full_at (b := b) (h.full rfl))
   ·dsimp only
    rw [if_neg (show ¬ q.kind = 0 by rw [h.kd]; exact hk0), if_neg (show ¬ (0 : Int) = 2 by decide)]
    obtain ⟨f, hf, hfl⟩ := free_of (l := q.slots) (by have := h.held hk0; have := h.len; omega)
    have hr : q.room = some f := by unfold PX.room; rw [hf]
    rw [hr]
    refine ⟨f, rfl, rfl, by have := h.len; omega, ?_, hdone _ f rfl rfl (Or.inr ⟨hk0, rfl⟩)⟩
    show (q.slots.set f _)[f]? = _
    rw [List.getElem?_set, if_pos rfl, if_pos hfl]
theorem find_slots (q : PX) (bs : List Int) : (q.findA bs).2.slots = q.slots ∧ (q.findA bs).2.kind = q.kind ∧ (q.findA bs).2.size = q.size := by
 unfold PX.findA
 split
 ·unfold PX.find3
  split <;> exact ⟨rfl, rfl, rfl⟩
 ·unfold PX.find
  split <;> exact ⟨rfl, rfl, rfl⟩
theorem Q1.found {kind : Int} {q : PX} {n : Nat} (h : Q1 kind q n) (bs : List Int) : Q1 kind (q.findA bs).2 n := by
 obtain ⟨e1, e2, e3⟩ := find_slots q bs
 exact ⟨e2.trans h.kd, e3.trans h.size, by rw [e1]; exact h.len, by rw [e1]; exact h.full, by rw [e1]; exact h.held, by rw [e1]; exact h.form⟩
theorem Q1.del {kind : Int} {q : PX} {n : Nat} (h : Q1 kind q n) (_k3 : 0 ≤ kind ∧ kind ≤ 3) (hk : kind ≠ 0) {b : Int} (b0 : 0 ≤ b) (b1 : b ≤ 255) {i : Nat} (hi : q.slots[i]? = some (some (keyT kind b))) (once : ∀ j : Nat, q.slots[j]? = some (some (keyT kind b)) → j = i) :
  (q.delA (keyT kind b)).1.2 = 0 ∧ Q1 kind (q.delA (keyT kind b)).2 n ∧ ∀ j : Nat, (q.delA (keyT kind b)).2.slots[j]? ≠ some (some (keyT kind b)) := by
 have hlen : ((keyT kind b).length : Int) = q.size := by rw [h.size]; exact keyT_len kind b
 obtain ⟨j, hj⟩ := tsame_of hi
 obtain rfl := once j (sameP_get hj)
 have hq : Q1 kind { q with slots := q.slots.set j none } n := by
  refine ⟨h.kd, h.size, by show (q.slots.set j none).length = 64; rw [List.length_set]; exact h.len, fun hk0 => absurd hk0 hk, fun _ => Nat.le_trans held_none (h.held hk), fun h3 y hy => ?_⟩
  rcases List.mem_or_eq_of_mem_set hy with hy | hy
  ·exact h.form h3 y hy
  ·cases hy
 have hno : ∀ a : Nat, (q.slots.set j none)[a]? ≠ some (some (keyT kind b)) := fun a ha => by
  rw [List.getElem?_set] at ha
  by_cases hja : j = a
  ·rw [if_pos hja] at ha
   split at ha <;> simp at ha
  ·rw [if_neg hja] at ha
   exact hja (once a ha).symm
 unfold PX.delA
 by_cases h3 : q.kind = 3
 ·have hk3 : kind = 3 := by rw [← h.kd]; exact h3
  have hc : cutP (keyT kind b) = keyT kind b := by rw [hk3]; exact cut8 b0 b1
  rw [if_pos h3]
  unfold PX.del3
  rw [if_pos (fits_key h hk3), hc, hj]
  exact ⟨rfl, hq, hno⟩
 ·rw [if_neg h3]
  unfold PX.del
  rw [if_neg (by rw [h.kd]; exact hk), if_pos hlen, hj]
  exact ⟨rfl, hq, hno⟩
theorem Q1.gone {kind : Int} {q : PX} {n : Nat} (h : Q1 kind q n) {b : Int} (b0 : 0 ≤ b) (b1 : b ≤ 255) (hno : ∀ j : Nat, q.slots[j]? ≠ some (some (keyT kind b))) : (q.findA (keyT kind b)).1 = none := by
 have hlen : ((keyT kind b).length : Int) = q.size := by rw [h.size]; exact keyT_len kind b
 unfold PX.findA
 by_cases h3 : q.kind = 3
 ·have hk3 : kind = 3 := by rw [← h.kd]; exact h3
  rw [if_pos h3]
  unfold PX.find3
  rw [if_pos (fits_key h hk3)]
  dsimp only
  have hst : ∀ m : Nat, m ≤ q.slots.length → longTo q.slots (keyT kind b) m = none := by
   intro m
   induction m with
   | zero => intro _; rfl
   | succ m ih =>
    intro hm
    show longStep q.slots (keyT kind b) (longTo q.slots (keyT kind b) m) m = none
    rw [ih (by omega)]
    unfold longStep
    split
    ·rfl
    ·rename_i hsk
     rw [if_neg]
     intro he
     cases hs : q.slots.getD m none with
     | none => rw [hs] at hsk; exact hsk rfl
     | some y =>
      have hm2 : q.slots[m]? = some (some y) := by
       rw [List.getD_eq_getElem?_getD, List.getElem?_eq_getElem (by omega)] at hs
       rw [List.getElem?_eq_getElem (by omega)]
       simpa using hs
      rw [hs] at he
      obtain ⟨b', c0, c1, rfl⟩ := h.form hk3 y (List.mem_of_getElem? hm2)
      have hkt : keyT kind b = [8, 0, 0, 0, b] := by rw [hk3]; rfl
      rw [hkt] at he
      have he2 : cutP [8, 0, 0, 0, b] = [8, 0, 0, 0, b'] := he
      rw [cut8 b0 b1] at he2
      refine hno m ?_
      rw [hm2, hkt, he2]
  exact hst _ (Nat.le_refl _)
 ·rw [if_neg h3]
  unfold PX.find
  rw [if_pos hlen]
  exact tsame_none hno
theorem Q1.new {kind : Int} : Q1 kind (newQ (dT kind)) 0 := by
 have hsl : (newQ (dT kind)).slots = if kind = 0 then (allKeys 64).map some else List.replicate 64 none := rfl
 refine ⟨rfl, rfl, ?_, fun hk => ?_, fun hk => ?_, fun hk y hy => ?_⟩
 ·rw [hsl]
  split <;> simp [allKeys]
 ·rw [hsl, if_pos hk]
 ·rw [hsl, if_neg hk]
  decide
 ·rw [hsl, if_neg (by omega)] at hy
  simp at hy
def Q0 (kind : Int) (q : PX) : Prop := Q1 kind q 0 ∧ q.slots = (newQ (dT kind)).slots
theorem Q0.get {kind : Int} {q : PX} (h : Q0 kind q) {b : Int} (b0 : 0 ≤ b) (b1 : b ≤ 255) : ((q.findA (keyT kind b)).1 = none ↔ kind ≠ 0) ∧ Q0 kind (q.findA (keyT kind b)).2 := by
 refine ⟨?_, h.1.found _, by rw [(find_slots q _).1]; exact h.2⟩
 have hsl : q.slots = if kind = 0 then (allKeys 64).map some else List.replicate 64 none := h.2
 by_cases hk : kind = 0
 ·constructor
  ·intro hf
   exfalso
   subst hk
   rw [if_pos rfl] at hsl
   obtain ⟨j, hj⟩ := tsame_of (full_at (b := b) hsl)
   have hlen : ((keyT 0 b).length : Int) = q.size := by rw [h.1.size]; exact keyT_len 0 b
   unfold PX.findA at hf
   rw [if_neg (by rw [h.1.kd]; decide)] at hf
   unfold PX.find at hf
   rw [if_pos hlen, hj] at hf
   cases hf
  ·intro hn
   exact absurd hk hn
 ·refine ⟨fun _ => hk, fun _ => h.1.gone b0 b1 fun j hj => ?_⟩
  rw [hsl, if_neg hk] at hj
  have := List.mem_of_getElem? hj
  simp at this
end Go.Proofs.Ytmhhahmjkopjhaa
end
section
namespace Go.Proofs.Ytmhhahmjkopjhaa
open Go.RowKit
def KS.Bs (w : World) (k : KS) : Prop := (∃ rest, BlkF w k.b (k.bs.map (Value.int .u8) ++ rest) 5) ∧ (∀ x ∈ k.bs, 0 ≤ x ∧ x ≤ 255) ∧ k.bs.length ≤ 65536 ∧ 1 ≤ k.bs.length ∧ k.bs.length ≤ k.cap
structure PR where
 k : KS
 v : KS
def PR.cells (p : PR) : List Value := [p.k.v, p.v.v]
def PR.bs (p : PR) : List Int × List Int := (p.k.bs, p.v.bs)
end Go.Proofs.Ytmhhahmjkopjhaa
end
section
namespace Go.Proofs.Ytmhhahmjkopjhaa
open Go.RowKit
end Go.Proofs.Ytmhhahmjkopjhaa
end
section
namespace Go.Proofs.Ytmhhahmjkopjhaa
open Go.RowKit
def heldP (l : List (Option (List Int))) (f : Nat → List Int) : List (List Int × List Int) := (List.range l.length).filterMap fun j => match l.getD j none with
 | some b => some (b, f j)
 | none => none
end Go.Proofs.Ytmhhahmjkopjhaa
end
section
namespace Go.Proofs.Ytmhhahmjkopjhaa
open Go.RowKit
def Served (rs : List Mem.Reg) (k : Nat) (v : Int) (n : Nat) : Prop := ∀ s : Nat, s < n → Mem.readE rs (plI k s) v = 0 ∧ ((Mem.readV rs (plI k s) v).length : Int) = v ∧ ∀ x ∈ Mem.readV rs (plI k s) v, 0 ≤ x ∧ x ≤ 255
def PMap.dump (m : PMap) (k : Nat) (rs : List Mem.Reg) : List (List Int × List Int) := heldP m.q.slots fun s => Mem.readV rs (plI k s) m.d.val
end Go.Proofs.Ytmhhahmjkopjhaa
end
section
namespace Go.Proofs.Ytmhhahmjkopjhaa
open Go.RowKit
end Go.Proofs.Ytmhhahmjkopjhaa
end
section
namespace Go.Proofs.Ytmhhahmjkopjhaa
open Go.RowKit
theorem KeyAt.new1 (w : World) (a : Int) (h : 0 ≤ a ∧ a ≤ 255) : KeyAt (w.alloc (.cells #[.int .u8 a] 5)) (some ⟨w.heap.size, 0, none⟩) 1 [a] := by
 have hB := Blk.newA w #[.int .u8 a] _ 5 rfl
 refine ⟨rfl, by simpa using h, by simp, fun _ => ⟨_, 0, rfl, fun j hj => ?_⟩⟩
 simp at hj
 subst hj
 exact hB.cell rfl
theorem KeyAt.new2 (w : World) (a b : Int) (h : 0 ≤ a ∧ a ≤ 255) (h' : 0 ≤ b ∧ b ≤ 255) : KeyAt (w.alloc (.cells #[.int .u8 a, .int .u8 b] 5)) (some ⟨w.heap.size, 0, none⟩) 2 [a, b] := by
 have hB := Blk.newA w #[.int .u8 a, .int .u8 b] _ 5 rfl
 refine ⟨rfl, by simpa using ⟨h, h'⟩, by simp, fun _ => ⟨_, 0, rfl, fun j hj => ?_⟩⟩
 simp at hj
 have : j = 0 ∨ j = 1 := by omega
 rcases this with rfl | rfl <;> exact hB.cell rfl
theorem DefsAt.one (w : World) (d : MDef) : DefsAt (w.alloc (.cells d.cells.toArray 28)) (some ⟨w.heap.size, 0, none⟩) 1 [d] := by
 have hB := Blk.newA w d.cells.toArray _ 28 rfl
 refine ⟨rfl, by omega, fun _ => ⟨_, 0, rfl, fun i d' hd j v hv => ?_⟩⟩
 match i, hd with
 | 0, hd =>
  simp at hd
  subst hd
  simp only [Nat.zero_mul, Nat.zero_add]
  exact hB.cell hv
theorem FreeAll.nil (ds : List MDef) (h : ds.length ≤ 8) (h2 : ∀ d ∈ ds, 0 ≤ d.max ∧ d.max ≤ 64) : roomOk ds [] := by
 have := maxSum_bd ds h2
 exact ⟨fun i d _ _ s _ => by simp [Mem.busyB], by simp; omega⟩
def fD : MDef := ⟨1, 1, 2, 2⟩
def fQ : PX := ((newQ fD).putA [7] 0).2
theorem upd_eqs {x : PT} {ds : List MDef} {qs : List PX} (h1 : x.ds = ds) (h2 : x.qs = qs) {k : Nat} {d : MDef} {q : PX} (hd : ds[k]? = some d) (hq : qs[k]? = some q) {bs vs : List Int} {fl : Int} (hb : (bs.length : Int) = d.key) (hv : (vs.length : Int) = d.val) :
  updP x k bs vs fl = if (q.putA bs fl).1.2.2 = 0 then (0, qs.set k (q.putA bs fl).2, some (plI k (q.putA bs fl).1.1)) else ((q.putA bs fl).1.2.2, qs.set k (q.putA bs fl).2, none) := by
 subst h1
 subst h2
 obtain ⟨m, hm, hmd, hmq⟩ := PT.at_ds hd hq
 subst hmd
 subst hmq
 have hc : chkP x.ds k bs.length = 0 := by
  unfold chkP
  rw [if_pos ⟨by omega, by have := (List.getElem?_eq_some_iff.1 hd).1; omega⟩, Int.toNat_natCast, hd]
  dsimp only
  rw [if_pos hb]
 unfold updP
 rw [if_pos hc, Int.toNat_natCast, hm]
 dsimp only
 rw [if_pos hv]
theorem look_eqs {x : PT} {ds : List MDef} {qs : List PX} (h1 : x.ds = ds) (h2 : x.qs = qs) {k : Nat} {d : MDef} {q : PX} (hd : ds[k]? = some d) (hq : qs[k]? = some q) {bs : List Int} (hb : (bs.length : Int) = d.key) :
  lookP x k bs = ((match (q.findA bs).1 with
   | some s => plI k (s : Int)
   | none => 0, 0), qs.set k (q.findA bs).2) := by
 subst h1
 subst h2
 obtain ⟨m, hm, hmd, hmq⟩ := PT.at_ds hd hq
 subst hmd
 subst hmq
 have hc : chkP x.ds k bs.length = 0 := by
  unfold chkP
  rw [if_pos ⟨by omega, by have := (List.getElem?_eq_some_iff.1 hd).1; omega⟩, Int.toNat_natCast, hd]
  dsimp only
  rw [if_pos hb]
 unfold lookP
 rw [if_pos hc, Int.toNat_natCast, hq] <;> rfl
theorem first_any (w : World) : Calls Try.prog 4 #[] w fun e w' => e = .returned (.bool true) ∧ Touch [] w w' := by
 go_enter Try.func4, Try.ntmps4
 go_wp2_with fail
 refine (Mem.newM_any _).mono ?_
 rintro e w2 ⟨rfl, hm, ht⟩
 go_wp2_with fail
 have HM := toHid (And.intro hm ht)
 have ht2 := (Touch.refl [] w2).alloc (.cells fD.cells.toArray 28)
 have H1 := toHid (pnew_any (hm.touch ht2 (by simp)) (by show 0 ≤ 1000000; omega) (sc := 1) (DefsAt.one w2 fD))
 clear hm ht ht2
 refine Calls.mono H1.out ?_
 rintro e w3 hp
 have hp : ∃ x s', e = .returned (.tuple #[.pointer (some ⟨x.t, 0, none⟩), .int .i64 0]) ∧ s'.m = w.heap.size ∧ Solo w w3 x s' [fD] [newQ fD] := by
  rcases hp with hp | hp | ⟨_, _, x, s', he, hN⟩
  ·exact absurd hp.1 (by decide)
  ·exact absurd (FreeAll.nil [fD] (by simp) (by decide)) hp.2.1
  ·exact ⟨x, s', he, hN.m, Solo.new hN (by decide) (HM.out.2.trans ((Touch.refl [] w2).alloc _) (by simp)) (fun b hb => by
    have : b = w.heap.size := by simpa [Mem.MS.blocks, Mem.MS.new] using hb
    omega)⟩
 obtain ⟨x, s, rfl, hsm, hS⟩ := hp
 have HS := toHid (And.intro hS hsm)
 clear hS hsm H1 HM
 go_wp2_with fail
 have ht3 := ((Touch.refl [] w3).alloc (.cells #[.int .u8 7] 5)).trans ((Touch.refl [] _).alloc (.cells #[.int .u8 1, .int .u8 2] 5)) (S' := []) (by simp)
 have hS3 := HS.out.1.still ht3
 have hk7 := (KeyAt.new1 w3 7 (by decide)).touch ((Touch.refl [] _).alloc (.cells #[.int .u8 1, .int .u8 2] 5))
 have hxb : ∀ b off, (some ⟨w3.heap.size, 0, none⟩ : Option Addr) = some ⟨b, off, none⟩ → b ∉ x.blocks := fun b off e hx => by
  injection e with e
  injection e with e
  have := HS.out.1.p.tab.lt b hx
  omega
 have hxb2 : ∀ b off, (some ⟨w3.heap.size + 1, 0, none⟩ : Option Addr) = some ⟨b, off, none⟩ → b ∉ x.blocks := fun b off e hx => by
  injection e with e
  injection e with e
  have := HS.out.1.p.tab.lt b hx
  omega
 have hsz : (w3.alloc (.cells #[.int .u8 7] 5)).heap.size = w3.heap.size + 1 := World.size_alloc _ _
 have hv12 := KeyAt.new2 (w3.alloc (.cells #[.int .u8 7] 5)) 1 2 (by decide) (by decide)
 rw [hsz] at hv12
 have H1 := toHid (pupdate_any hS3.p 0 hk7 1 (by omega) (fun b off e _ => hxb b off e) hv12 2 (fun b off e _ => hxb2 b off e) 0 (by omega))
 rw [show updP x 0 [7] [1, 2] 0 = (0, [fQ], some (plI 0 0)) from (upd_eqs HS.out.1.ds HS.out.1.qs (k := 0) (d := fD) (q := newQ fD) rfl rfl rfl rfl).trans rfl] at H1
 have HS3 := toHid hS3
 clear ht3 hS3 hk7 hxb hxb2 hsz hv12
 refine Calls.mono H1.out ?_
 rintro e w4 ⟨rfl, x1, st⟩
 replace st : PUSt _ w4 x x1 s [fQ] (Mem.writeRs s.rs (plI 0 0) [1, 2]) := st
 obtain ⟨he, hg⟩ := HS3.out.writes (k := 0) (d := fD) rfl (sl := 0) (by decide) (vs := [1, 2]) rfl
 rw [show updE s.rs [1, 2] (0, [fQ], some (plI 0 0)) = 0 from he]
 have HS4 := toHid (HS3.out.upd st hg)
 have HV := toHid (HS3.out.write st.both.mem (k := 0) (d := fD) rfl (sl := 0) (by decide) (vs := [1, 2]) rfl rfl).1
 have HE : Hid (x1.t = x.t) := st.t
 clear st he hg H1
 dsimp only at HV
 generalize Mem.writeRs s.rs (plI 0 0) [1, 2] = rs1 at *
 go_wp2_with fail
 have ht4 := (Touch.refl [] w4).alloc (.cells #[.int .u8 7] 5)
 have hS4 := HS4.out.still ht4
 have H1 := toHid (plookup_any hS4.p.tab 0 (KeyAt.new1 w4 7 (by decide)) 1 (by omega))
 rw [show lookP x1 0 [7] = ((137438953472, 0), [(fQ.findA [7]).2]) from (look_eqs hS4.ds hS4.qs (k := 0) (d := fD) (q := fQ) rfl rfl rfl).trans rfl, HE.out] at H1
 have HS5 := toHid hS4
 clear ht4 hS4 HS4 HS3
 refine Calls.mono H1.out ?_
 rintro e w5 ⟨rfl, x2, st⟩
 have HS6 := toHid (HS5.out.step st)
 clear st H1 HS5
 have H1 := toHid (Mem.load_any HS6.out.p.mem 137438953472 2 (by omega) (by omega))
 have hl := load_read (n := 2) (by omega) (by decide) (HS6.out.read (k := 0) (d := fD) rfl (sl := 0) (by decide)).1
 rw [show Mem.loadE rs1 137438953472 2 = 0 from hl.1, show Mem.loadV rs1 137438953472 2 = 513 from hl.2.trans (by show Mem.num (fun j => (Mem.readV rs1 (plI ((0 : Nat) : Int) ((0 : Nat) : Int)) 2).getD j 0) 2 = 513; rw [show Mem.readV rs1 (plI ((0 : Nat) : Int) ((0 : Nat) : Int)) 2 = [1, 2] from HV.out]; rfl)] at H1
 rw [show ({ s with rs := rs1 } : Mem.MS).m = w.heap.size from HS.out.2] at H1
 clear hl
 go_wp2_with fail
 refine Calls.mono H1.out ?_
 rintro e w6 ⟨rfl, k, rfl⟩
 have HT := toHid (HS6.out.touch.trans ((Touch.refl [] w5).drewN k) (by simp))
 clear H1 HS6
 go_wp2
 go_ret
 exact ⟨rfl, HT.out⟩
end Go.Proofs.Ytmhhahmjkopjhaa
end
section
namespace Go.Proofs.Ytmhhahmjkopjhaa
open Go.RowKit
def Zeros (ds : List MDef) (rs : List Mem.Reg) : Prop := ∀ (k : Nat) (d : MDef), ds[k]? = some d → ∀ sl : Nat, (sl : Int) < d.max → Mem.readV rs (plI k sl) d.val = List.replicate d.val.toNat 0
def NewR (w0 w' : World) (ds : List MDef) (o : Option Addr) (e1 : Int) : Prop :=
 Touch [] w0 w' ∧ ((mayI ds = false ∧ o = none ∧ e1 = 2) ∨ (mayI ds = true ∧ ∃ x s, o = some ⟨x.t, 0, none⟩ ∧ e1 = 0 ∧ Solo w0 w' x s ds (ds.map newQ) ∧ Zeros ds s.rs))
theorem may_facts' {ds : List MDef} (h : mayI ds = true) : ds.length ≤ 8 ∧ ∀ d ∈ ds, 1 ≤ d.max ∧ d.max ≤ 64 ∧ 1 ≤ d.val := by
 unfold mayI at h
 rw [decide_eq_true_iff] at h
 exact ⟨h.1, fun d hd => by have h9 := h.2 d hd; exact ⟨h9.2.2.2.2.1, h9.2.2.2.2.2.1, h9.2.2.1⟩⟩
end Go.Proofs.Ytmhhahmjkopjhaa
end
section
namespace Go.Proofs.Ytmhhahmjkopjhaa
open Go.RowKit
structure Hold (w0 w : World) (x : PT) (s : Mem.MS) (kind : Int) (q0 q1 : PX) (n : Nat) : Prop where
 solo : Solo w0 w x s [dT kind, dT kind] [q0, q1]
 zero : Q0 kind q0
 one : Q1 kind q1 n
structure Left (w w' : World) (x x' : PT) (s s' : Mem.MS) : Prop where
 t : x'.t = x.t
 m : s'.m = s.m
 touch : Touch (x.blocks ++ s.blocks) w w'
 xb : ∀ b ∈ x'.blocks ++ s'.blocks, b ∈ x.blocks ++ s.blocks ∨ w.heap.size ≤ b
theorem Left.of_step {w w' : World} {x x' : PT} {s : Mem.MS} {qs : List PX} (st : PStep w w' x x' qs) : Left w w' x x' s s :=
 ⟨st.t, rfl, st.touch.mono (fun _b hb => Or.inl (List.mem_append_left _ hb)), fun b hb => by
  rcases List.mem_append.1 hb with hb | hb
  ·rcases st.blocks b hb with h1 | h1
   ·exact Or.inl (List.mem_append_left _ h1)
   ·exact Or.inr h1
  ·exact Or.inl (List.mem_append_right _ hb)⟩
theorem Left.of_upd {w w' : World} {x x' : PT} {s : Mem.MS} {qs : List PX} {rs : List Mem.Reg} (st : PUSt w w' x x' s qs rs) : Left w w' x x' s { s with rs := rs } :=
 ⟨st.t, rfl, st.touch, fun b hb => by
  rcases List.mem_append.1 hb with hb | hb
  ·rcases st.blocks b hb with h1 | h1
   ·exact Or.inl (List.mem_append_left _ h1)
   ·exact Or.inr h1
  ·rw [st.sblk] at hb
   exact Or.inl (List.mem_append_right _ hb)⟩
def Apt (w : World) (x : PT) (s : Mem.MS) (b : Nat) : Prop := b < w.heap.size ∧ b ∉ x.blocks ++ s.blocks
theorem Left.apt {w w' : World} {x x' : PT} {s s' : Mem.MS} (h : Left w w' x x' s s') {b : Nat} (ha : Apt w x s b) : Apt w' x' s' b := by
 refine ⟨Nat.lt_of_lt_of_le ha.1 h.touch.size, fun hx => ?_⟩
 rcases h.xb b hx with h1 | h1
 ·exact ha.2 h1
 ·have := ha.1; omega
theorem Left.blk {w w' : World} {x x' : PT} {s s' : Mem.MS} (h : Left w w' x x' s s') {b : Nat} (ha : Apt w x s b) {cs : List Value} {t : TypeId} (hb : Blk w b cs t) : Blk w' b cs t := h.touch.blk hb ha.2
theorem Apt.new {w0 w : World} {x : PT} {s : Mem.MS} {ds : List MDef} {qs : List PX} (h : Solo w0 w x s ds qs) {b : Nat} (hb : w.heap.size ≤ b) {w' : World} (hw : b < w'.heap.size) : Apt w' x s b :=
 ⟨hw, fun hx => by
  rcases List.mem_append.1 hx with hx | hx
  ·have := h.p.tab.lt b hx; omega
  ·have := h.p.mem.lt b hx; omega⟩
theorem Apt.still {w w' : World} {x : PT} {s : Mem.MS} {b : Nat} (h : Apt w x s b) (ht : Touch [] w w') : Apt w' x s b := ⟨Nat.lt_of_lt_of_le h.1 ht.size, h.2⟩
theorem Hold.still {w0 w w' : World} {x : PT} {s : Mem.MS} {kind : Int} {q0 q1 : PX} {n : Nat} (h : Hold w0 w x s kind q0 q1 n) (ht : Touch [] w w') : Hold w0 w' x s kind q0 q1 n := ⟨h.solo.still ht, h.zero, h.one⟩
theorem Hold.map {w0 w : World} {x : PT} {s : Mem.MS} {kind : Int} {q0 q1 : PX} {n : Nat} (h : Hold w0 w x s kind q0 q1 n) : ∃ X bl, KAt w X bl q1 := by
 obtain ⟨m, hm, _, hq⟩ := PT.at_ds (x := x) (k := 1) (d := dT kind) (q := q1) (by rw [h.solo.ds]; rfl) (by rw [h.solo.qs]; rfl)
 have := h.solo.p.tab.maps m (List.mem_of_getElem? hm)
 rw [hq] at this
 exact ⟨_, _, this⟩
theorem Hold.find {w0 w : World} {x : PT} {s : Mem.MS} {kind : Int} {q0 q1 : PX} {n : Nat} (h : Hold w0 w x s kind q0 q1 n) {i : Nat} {bs : List Int} (hi : q1.slots[i]? = some (some bs)) : (q1.findA bs).1 = some i ∧ ∀ j : Nat, q1.slots[j]? = some (some bs) → j = i := by
 obtain ⟨X, bl, hK⟩ := h.map
 have h1 := kfind_own hK hi
 refine ⟨h1, fun j hj => ?_⟩
 have h2 := kfind_own hK hj
 rw [h1] at h2
 injection h2 with h2
 exact h2.symm
theorem look_at {x : PT} {ds : List MDef} {qs : List PX} (h1 : x.ds = ds) (h2 : x.qs = qs) {k : Nat} {d : MDef} {q : PX} (hd : ds[k]? = some d) (hq : qs[k]? = some q) (bs : List Int) (hb : (bs.length : Int) = d.key) :
  lookP x k bs = ((match (q.findA bs).1 with
   | some s => plI k (s : Int)
   | none => 0, 0), qs.set k (q.findA bs).2) := by
 subst h1
 subst h2
 unfold lookP
 rw [chk_at hd, if_pos hb, if_pos rfl, Int.toNat_natCast, hq] <;> rfl
theorem holdUpd {w0 w : World} {x : PT} {s : Mem.MS} {kind : Int} {q0 q1 : PX} {n : Nat} (h : Hold w0 w x s kind q0 q1 n) (k3 : 0 ≤ kind ∧ kind ≤ 3) (hn : n < 64) {b : Int} (b0 : 0 ≤ b) (b1 : b ≤ 255) {sa : Option Addr} {sl sc : Nat} (hk : KeyAt w sa sl (keyT kind b)) (hsc : sl ≤ sc) (hko : ∀ b' off, sa = some ⟨b', off, none⟩ → b' ∉ x.blocks)
  {va : Option Addr} {vc : Nat} {v : Int} (hv : KeyAt w va 1 [v]) (hvo : ∀ b' off, va = some ⟨b', off, none⟩ → b' ∉ x.blocks) {T : Nat} (hT : x.t = T) :
  Calls Try.prog 7 #[.pointer (some ⟨T, 0, none⟩), .int .i64 1, .slice sa sl sc, .slice va 1 vc, .int .u64 0] w fun e w' => e = .returned (.int .i64 0) ∧ ∃ (x' : PT) (s' : Mem.MS) (q1' : PX) (sl' : Nat), Hold w0 w' x' s' kind q0 q1' (n + 1) ∧ q1'.slots[sl']? = some (some (keyT kind b)) ∧ sl' < 64 ∧ Mem.readV s'.rs (plI 1 sl') 1 = [v] ∧ Left w w' x x' s s' := by
 subst hT
 refine (pupdate_any h.solo.p 1 hk sc hsc (fun b' off e _ => hko b' off e) hv vc (fun b' off e _ => hvo b' off e) 0 (by omega)).mono ?_
 rintro e w' ⟨he, x1, st⟩
 have st' : PUSt w w' x x1 s (updP x ((1 : Nat) : Int) (keyT kind b) [v] 0).2.1 (updRs s.rs [v] (updP x ((1 : Nat) : Int) (keyT kind b) [v] 0)) := st
 obtain ⟨e1, e2, e3, _, e5⟩ := h.solo.updW (k := 1) (d := dT kind) (q := q1) rfl rfl (keyT kind b) [v] 0 rfl st'
 obtain ⟨sl', p1, p2, p3, p4, p5⟩ := h.one.put k3 hn b0 b1
 have hA : updA (dT kind) q1 (keyT kind b) [v] 0 = (0, (q1.putA (keyT kind b) 0).2, some (q1.putA (keyT kind b) 0).1.1) := by
  unfold updA
  rw [if_pos (keyT_len kind b), if_pos (show (([v] : List Int).length : Int) = (dT kind).val from rfl), if_pos p2]
 rw [hA] at e1 e2 e5
 have hS := h.solo.upd st' e3
 rw [e2] at hS
 have h5 := e5 sl' (by show (sl' : Int) < 64; omega)
 dsimp only at h5
 rw [p1, if_pos rfl] at h5
 refine ⟨?_, x1, _, _, sl', ⟨hS, h.zero, p5⟩, p4, p3, h5, Left.of_upd st'⟩
 rw [he]
 exact congrArg (fun z => Ending.returned (.int .i64 z)) e1
theorem holdGet {w0 w : World} {x : PT} {s : Mem.MS} {kind : Int} {q0 q1 : PX} {n : Nat} (h : Hold w0 w x s kind q0 q1 n) {b : Int} {sa : Option Addr} {sl sc : Nat} (hk : KeyAt w sa sl (keyT kind b)) (hsc : sl ≤ sc) {i : Nat} (hi : q1.slots[i]? = some (some (keyT kind b))) (i64 : i < 64) {v : Int} (hv : Mem.readV s.rs (plI 1 i) 1 = [v]) {T : Nat} (hT : x.t = T) :
  Calls Try.prog 8 #[.pointer (some ⟨T, 0, none⟩), .int .i64 1, .slice sa sl sc] w fun e w' => ∃ N, e = .returned (.tuple #[.slice (some ⟨N, 0, none⟩) 1 1, .int .i64 0]) ∧ Blk w' N [.int .u8 v] 5 ∧ ∃ x' q1', Hold w0 w' x' s kind q0 q1' n ∧ q1'.slots = q1.slots ∧ Left w w' x x' s s ∧ Apt w' x' s N := by
 subst hT
 refine (pget2_any h.solo.p 1 hk sc hsc).mono ?_
 rintro e w' ⟨v9, rfl, hsl, x1, st, hfr⟩
 have hg := get_at h.solo.ds h.solo.qs s.rs (k := 1) (d := dT kind) (q := q1) rfl rfl (keyT kind b)
 have hA : lookA (dT kind) q1 (keyT kind b) = ((q1.findA (keyT kind b)).1, 0, (q1.findA (keyT kind b)).2) := by
  unfold lookA
  rw [if_pos (keyT_len kind b)]
 rw [hA, (h.find hi).1] at hg
 have hr := h.solo.read (k := 1) (d := dT kind) rfl (sl := i) (by show (i : Int) < 64; omega)
 have hg' : getP x s.rs 1 (keyT kind b) = (([v], 0), [q0, (q1.findA (keyT kind b)).2]) := by
  have h9 : getP x s.rs ((1 : Nat) : Int) (keyT kind b) = ((Mem.readV s.rs (plI ((1 : Nat) : Int) i) (dT kind).val, Mem.readE s.rs (plI ((1 : Nat) : Int) i) (dT kind).val), [q0, (q1.findA (keyT kind b)).2]) := by
   rw [hg]
   rfl
  have h10 : getP x s.rs 1 (keyT kind b) = _ := h9
  rw [h10, hr.1]
  have h11 : Mem.readV s.rs (plI ((1 : Nat) : Int) i) (dT kind).val = [v] := hv
  rw [h11]
 rw [hg'] at hsl st ⊢
 rcases hsl with ⟨hn, _⟩ | ⟨_, N, rfl, hB⟩
 ·cases hn
 ·obtain ⟨f1, f2⟩ := hfr N 0 _ _ rfl
  have hS := h.solo.step st
  refine ⟨N, rfl, hB, x1, _, ⟨hS, h.zero, h.one.found _⟩, (find_slots q1 _).1, Left.of_step st, hB.lt, fun hx => ?_⟩
  rcases List.mem_append.1 hx with hx | hx
  ·exact f2 hx
  ·have := h.solo.p.mem.lt N hx
   omega
theorem holdGone {w0 w : World} {x : PT} {s : Mem.MS} {kind : Int} {q0 q1 : PX} {n : Nat} (h : Hold w0 w x s kind q0 q1 n) {b : Int} (b0 : 0 ≤ b) (b1 : b ≤ 255) {sa : Option Addr} {sl sc : Nat} (hk : KeyAt w sa sl (keyT kind b)) (hsc : sl ≤ sc) (hno : ∀ j : Nat, q1.slots[j]? ≠ some (some (keyT kind b))) {T : Nat} (hT : x.t = T) :
  Calls Try.prog 8 #[.pointer (some ⟨T, 0, none⟩), .int .i64 1, .slice sa sl sc] w fun e w' => e = .returned (.tuple #[.slice none 0 0, .int .i64 14]) ∧ ∃ x' q1', Hold w0 w' x' s kind q0 q1' n ∧ Left w w' x x' s s := by
 subst hT
 refine (pget2_any h.solo.p 1 hk sc hsc).mono ?_
 rintro e w' ⟨v9, rfl, hsl, x1, st, hfr⟩
 have hg := get_at h.solo.ds h.solo.qs s.rs (k := 1) (d := dT kind) (q := q1) rfl rfl (keyT kind b)
 have hA : lookA (dT kind) q1 (keyT kind b) = (none, 0, (q1.findA (keyT kind b)).2) := by
  unfold lookA
  rw [if_pos (keyT_len kind b), h.one.gone b0 b1 hno]
 rw [hA] at hg
 have hg' : getP x s.rs 1 (keyT kind b) = (([], 14), [q0, (q1.findA (keyT kind b)).2]) := hg
 rw [hg'] at hsl st ⊢
 rcases hsl with ⟨_, rfl⟩ | ⟨h1, _⟩
 ·exact ⟨rfl, x1, _, ⟨h.solo.step st, h.zero, h.one.found _⟩, Left.of_step st⟩
 ·simp at h1
theorem holdZero {w0 w : World} {x : PT} {s : Mem.MS} {kind : Int} {q0 q1 : PX} {n : Nat} (h : Hold w0 w x s kind q0 q1 n) {b : Int} (b0 : 0 ≤ b) (b1 : b ≤ 255) {sa : Option Addr} {sl sc : Nat} (hk : KeyAt w sa sl (keyT kind b)) (hsc : sl ≤ sc) {T : Nat} (hT : x.t = T) :
  Calls Try.prog 8 #[.pointer (some ⟨T, 0, none⟩), .int .i64 0, .slice sa sl sc] w fun e w' => ∃ v, e = .returned (.tuple #[v, .int .i64 (if kind = 0 then 0 else 14)]) ∧ ∃ x' q0', Hold w0 w' x' s kind q0' q1 n ∧ Left w w' x x' s s := by
 subst hT
 refine (pget2_any h.solo.p 0 hk sc hsc).mono ?_
 rintro e w' ⟨v9, rfl, hsl, x1, st, hfr⟩
 have hg := get_at h.solo.ds h.solo.qs s.rs (k := 0) (d := dT kind) (q := q0) rfl rfl (keyT kind b)
 obtain ⟨z1, z2⟩ := h.zero.get b0 b1
 have hA : lookA (dT kind) q0 (keyT kind b) = ((q0.findA (keyT kind b)).1, 0, (q0.findA (keyT kind b)).2) := by
  unfold lookA
  rw [if_pos (keyT_len kind b)]
 rw [hA] at hg
 by_cases hk0 : kind = 0
 ·have hne : (q0.findA (keyT kind b)).1 ≠ none := fun hf => (z1.1 hf) hk0
  obtain ⟨i, hi⟩ := Option.ne_none_iff_exists'.1 hne
  have hi64 : i < 64 := by have := pfind_lt hi; have := h.zero.1.len; omega
  rw [hi] at hg
  have hr := h.solo.read (k := 0) (d := dT kind) rfl (sl := i) (by show (i : Int) < 64; omega)
  have hg' : getP x s.rs 0 (keyT kind b) = ((Mem.readV s.rs (plI ((0 : Nat) : Int) i) (dT kind).val, 0), [(q0.findA (keyT kind b)).2, q1]) := by
   have h10 : getP x s.rs 0 (keyT kind b) = ((Mem.readV s.rs (plI ((0 : Nat) : Int) i) (dT kind).val, Mem.readE s.rs (plI ((0 : Nat) : Int) i) (dT kind).val), [(q0.findA (keyT kind b)).2, q1]) := hg
   rw [h10, hr.1]
  rw [hg'] at st ⊢
  exact ⟨v9, by rw [if_pos hk0], x1, _, ⟨h.solo.step st, z2, h.one⟩, Left.of_step st⟩
 ·rw [z1.2 hk0] at hg
  have hg' : getP x s.rs 0 (keyT kind b) = (([], 14), [(q0.findA (keyT kind b)).2, q1]) := hg
  rw [hg'] at st ⊢
  exact ⟨v9, by rw [if_neg hk0], x1, _, ⟨h.solo.step st, z2, h.one⟩, Left.of_step st⟩
theorem holdLook {w0 w : World} {x : PT} {s : Mem.MS} {kind : Int} {q0 q1 : PX} {n : Nat} (h : Hold w0 w x s kind q0 q1 n) {b : Int} {sa : Option Addr} {sl sc : Nat} (hk : KeyAt w sa sl (keyT kind b)) (hsc : sl ≤ sc) {i : Nat} (hi : q1.slots[i]? = some (some (keyT kind b))) {T : Nat} (hT : x.t = T) :
  Calls Try.prog 9 #[.pointer (some ⟨T, 0, none⟩), .int .i64 1, .slice sa sl sc] w fun e w' => e = .returned (.tuple #[.int .u64 (plI 1 i), .int .i64 0]) ∧ ∃ x' q1', Hold w0 w' x' s kind q0 q1' n ∧ q1'.slots = q1.slots ∧ Left w w' x x' s s := by
 subst hT
 refine (plookup_any h.solo.p.tab 1 hk sc hsc).mono ?_
 rintro e w' ⟨he, x1, st⟩
 have hl : lookP x ((1 : Nat) : Int) (keyT kind b) = _ := look_at h.solo.ds h.solo.qs (k := 1) (d := dT kind) (q := q1) rfl rfl (keyT kind b) (keyT_len kind b)
 rw [(h.find hi).1] at hl
 have hl' : lookP x 1 (keyT kind b) = ((plI 1 i, 0), [q0, (q1.findA (keyT kind b)).2]) := hl
 rw [hl'] at he st
 exact ⟨he, x1, _, ⟨h.solo.step st, h.zero, h.one.found _⟩, (find_slots q1 _).1, Left.of_step st⟩
theorem holdDel {w0 w : World} {x : PT} {s : Mem.MS} {kind : Int} {q0 q1 : PX} {n : Nat} (h : Hold w0 w x s kind q0 q1 n) (k3 : 0 ≤ kind ∧ kind ≤ 3) (hk0 : kind ≠ 0) {b : Int} (b0 : 0 ≤ b) (b1 : b ≤ 255) {sa : Option Addr} {sl sc : Nat} (hk : KeyAt w sa sl (keyT kind b)) (hsc : sl ≤ sc) {i : Nat} (hi : q1.slots[i]? = some (some (keyT kind b))) {T : Nat} (hT : x.t = T) :
  Calls Try.prog 11 #[.pointer (some ⟨T, 0, none⟩), .int .i64 1, .slice sa sl sc] w fun e w' => e = .returned (.int .i64 0) ∧ ∃ x' q1', Hold w0 w' x' s kind q0 q1' n ∧ (∀ j : Nat, q1'.slots[j]? ≠ some (some (keyT kind b))) ∧ Left w w' x x' s s := by
 subst hT
 refine (pdelete_any h.solo.p.tab 1 hk sc hsc).mono ?_
 rintro e w' ⟨he, x1, st⟩
 obtain ⟨d1, d2, d3⟩ := h.one.del k3 hk0 b0 b1 hi (h.find hi).2
 have hl := del_at h.solo.ds h.solo.qs (k := 1) (d := dT kind) (q := q1) rfl rfl (keyT kind b)
 have hA : delAA (dT kind) q1 (keyT kind b) = (0, (q1.delA (keyT kind b)).2) := by
  unfold delAA
  rw [if_pos (keyT_len kind b), d1]
 rw [hA] at hl
 have hl' : delP x 1 (keyT kind b) = (0, [q0, (q1.delA (keyT kind b)).2]) := hl
 rw [hl'] at he st
 exact ⟨he, x1, _, ⟨h.solo.step st, h.zero, d2⟩, d3, Left.of_step st⟩
theorem holdLoad {w0 w : World} {x : PT} {s : Mem.MS} {kind : Int} {q0 q1 : PX} {n : Nat} (h : Hold w0 w x s kind q0 q1 n) {i : Nat} (i64 : i < 64) {v : Int} (hv : Mem.readV s.rs (plI 1 i) 1 = [v]) {M : Nat} (hM : s.m = M) :
  Calls Try.prog 10 #[.pointer (some ⟨M, 0, none⟩), .int .u64 (plI 1 i), .int .i64 1] w fun e w' => e = .returned (.tuple #[.int .u64 v, .int .i64 0]) ∧ Touch [] w w' := by
 subst hM
 refine (Mem.load_any h.solo.p.mem (plI 1 i) 1 (by unfold plI; omega) (by unfold plI; omega)).mono ?_
 rintro e w' ⟨rfl, k, rfl⟩
 have hr := h.solo.read (k := 1) (d := dT kind) rfl (sl := i) (by show (i : Int) < 64; omega)
 have hr1 : Mem.readE s.rs (plI 1 i) 1 = 0 := hr.1
 obtain ⟨l1, l2⟩ := load_read (p := plI 1 i) (n := 1) (by omega) (by decide) hr1
 rw [l1, l2, hv]
 refine ⟨?_, (Touch.refl [] w).drewN k⟩
 simp [Mem.num]
end Go.Proofs.Ytmhhahmjkopjhaa
end
section
namespace Go.Proofs.Ytmhhahmjkopjhaa
open Go.RowKit
structure OpT where
 k : Int
 mp : Int
 ka : Option Addr
 kl : Nat
 kc : Nat
 kb : List Int
 va : Option Addr
 vl : Nat
 vc : Nat
 vb : List Int
 fl : Int
structure OpT.Ok (w : World) (o : OpT) : Prop where
 k0 : -9223372036854775808 ≤ o.k
 k1 : o.k ≤ 9223372036854775807
 m0 : -9223372036854775808 ≤ o.mp
 m1 : o.mp ≤ 9223372036854775807
 f0 : 0 ≤ o.fl
 f1 : o.fl ≤ 18446744073709551615
 key : KeyAt w o.ka o.kl o.kb
 val : KeyAt w o.va o.vl o.vb
 kcap : o.kl ≤ o.kc
 vcap : o.vl ≤ o.vc
def OpT.cells (o : OpT) : List Value := [.int .i64 o.k, .int .i64 o.mp, .slice o.ka o.kl o.kc, .slice o.va o.vl o.vc, .int .u64 o.fl]
def opT (o : OpT) : Value := .agg #[.int .i64 o.k, .int .i64 o.mp, .slice o.ka o.kl o.kc, .slice o.va o.vl o.vc, .int .u64 o.fl]
end Go.Proofs.Ytmhhahmjkopjhaa
end
section
namespace Go.Proofs.Ytmhhahmjkopjhaa
open Go.ChangeShapes Go.WideShapes Go.ChangeAt Go.RowKit
theorem laidOut : laidOutB Try.prog = true := by kernel_rfl
theorem cellsDef : Try.prog.cellsOf 28 = 4 := by kernel_rfl
theorem cellTypesDef : Try.prog.cellTypes Try.prog.depth 28 = some [25, 3, 3, 3] := by kernel_rfl
theorem cell_int {P : Program} {w : World} {r : Reach} {base : Nat} {t : TypeId} {v : Value} {k : IntKind} (ht : P.underlying t = some (.int k)) (h : Cell.okWide P w r base t v) : ∃ n, v = .int k n ∧ k.has n := by
 simp only [Cell.okWide, ht] at h
 cases v <;> simp_all [Cell.ok]
theorem cell_slice {P : Program} {w : World} {r : Reach} {base : Nat} {t e : TypeId} {v : Value} (ht : P.underlying t = some (.slice e)) (h : Cell.okWide P w r base t v) : ∃ a len cap, v = .slice a len cap := by
 simp only [Cell.okWide, ht] at h
 cases v <;> simp_all [Cell.ok]
theorem int_open {P : Program} {w : World} {r : Reach} {base : Nat} {t : TypeId} {v : Value} {k : IntKind} (ht : P.underlying t = some (.int k)) (h : Value.okWide P w r base t v) : ∃ n, v = .int k n ∧ k.has n := by
 simp only [Value.okWide, ht] at h
 exact cell_int ht h
theorem slice_open {P : Program} {w : World} {r : Reach} {base : Nat} {t e : TypeId} {v : Value} (ht : P.underlying t = some (.slice e)) (h : Value.okWide P w r base t v) : ∃ a len cap, v = .slice a len cap := by
 simp only [Value.okWide, ht] at h
 exact cell_slice ht h
theorem has_i64 {n : Int} (h : IntKind.i64.has n) : -9223372036854775808 ≤ n ∧ n ≤ 9223372036854775807 := by
 simp [IntKind.has, IntKind.min, IntKind.max, IntKind.signed, IntKind.bits] at h
 omega
theorem has_u64 {n : Int} (h : IntKind.u64.has n) : 0 ≤ n ∧ n ≤ 18446744073709551615 := by
 simp [IntKind.has, IntKind.min, IntKind.max, IntKind.signed, IntKind.bits] at h
 omega
theorem val_i64 {W : World} {base : Nat} {v : Value} (h : Value.okWide Try.prog W .any base 3 v) : ∃ n, v = .int .i64 n ∧ -9223372036854775808 ≤ n ∧ n ≤ 9223372036854775807 := by
 obtain ⟨n, rfl, hn⟩ := int_open Try.underlying3 h
 exact ⟨n, rfl, has_i64 hn⟩
theorem val_u64 {W : World} {base : Nat} {v : Value} (h : Value.okWide Try.prog W .any base 23 v) : ∃ n, v = .int .u64 n ∧ 0 ≤ n ∧ n ≤ 18446744073709551615 := by
 obtain ⟨n, rfl, hn⟩ := int_open Try.underlying23 h
 exact ⟨n, rfl, has_u64 hn⟩
theorem wf_u8 {n : Int} (h : (Lit.int .u8 n).wf = true) : 0 ≤ n ∧ n ≤ 255 := by
 simp [Lit.wf, IntKind.min, IntKind.max, IntKind.signed, IntKind.bits] at h
 omega
theorem four {cs : Array Value} (h : cs.size = 4) : ∃ c0 c1 c2 c3, cs = #[c0, c1, c2, c3] := by
 obtain ⟨l⟩ := cs
 match l, h with
 | [c0, c1, c2, c3], _ => exact ⟨c0, c1, c2, c3, rfl⟩
theorem def_cells {P : Program} {w : World} {r : Reach} {base : Nat} {tk t3 : TypeId} (uk : P.underlying tk = some (.int .i64)) (u3 : P.underlying t3 = some (.int .i64))
  {c0 c1 c2 c3 : Value} (hc : ∀ (i : Nat) v, (#[c0, c1, c2, c3] : Array Value)[i]? = some v → ∃ u, ([tk, t3, t3, t3] : List TypeId)[i % 4]? = some u ∧ Cell.okWide P w r base u v) : ∃ d : MDef, (.agg #[c0, c1, c2, c3]) = Value.agg d.cells.toArray := by
 obtain ⟨x0, hu0, h0⟩ := hc 0 c0 rfl
 obtain ⟨x1, hu1, h1⟩ := hc 1 c1 rfl
 obtain ⟨x2, hu2, h2⟩ := hc 2 c2 rfl
 obtain ⟨x3, hu3, h3⟩ := hc 3 c3 rfl
 simp at hu0 hu1 hu2 hu3
 subst hu0 hu1 hu2 hu3
 obtain ⟨a, rfl, _⟩ := cell_int uk h0
 obtain ⟨b, rfl, _⟩ := cell_int u3 h1
 obtain ⟨c, rfl, _⟩ := cell_int u3 h2
 obtain ⟨d, rfl, _⟩ := cell_int u3 h3
 exact ⟨⟨a, b, c, d⟩, rfl⟩
theorem def_open {W : World} {base : Nat} {v : Value} (h : Value.okWide Try.prog W .any base 28 v) : ∃ d : MDef, v = .agg d.cells.toArray := by
 simp only [Value.okWide, Try.underlying28] at h
 obtain ⟨cs, rfl, hsz, ts, hts, _, hc⟩ := h
 rw [cellTypesDef] at hts
 injection hts with hts
 subst hts
 rw [cellsDef] at hsz
 obtain ⟨c0, c1, c2, c3, rfl⟩ := four hsz
 exact def_cells Try.underlying25 Try.underlying3 hc
structure ScriptT (w : World) (sa : Option Addr) (n : Nat) (f : Nat → OpT) : Prop where
 small : n ≤ 9223372036854775807
 at_ : ∀ j, j < n → ∃ b off, sa = some ⟨b, off, none⟩ ∧ (f j).Ok w ∧ ∀ r v, (f j).cells[r]? = some v → w.cell? ⟨b, off + j * 5 + r, none⟩ = some v
section
variable {H : Type} {enc : TypeId × Value → H} {W : World}
theorem key_in {m : Nat} {v : Value} {x : DataW H × List MemPlace} (h : DataW.trod enc Try.prog W 0 (fun _ => true) true m 22 [v] = some x) : ∃ sa sl sc bs, v = .slice sa sl sc ∧ KeyAt W sa sl bs ∧ sl ≤ sc := by
 rcases open_ints Try.underlying22 Try.underlying5 (by kernel_rfl) h with ⟨hcs, _⟩ | ⟨a, l, c, zs, hcs, _, hl, hm, hz, _, hcell, hwz⟩
 ·simp at hcs
  exact ⟨none, 0, 0, [], hcs, ⟨rfl, by simp, by simp, by simp⟩, Nat.le_refl _⟩
 ·simp at hcs
  have hz' : zs.length = c := by simpa using hz
  unfold maxLen at hm
  have hlen : (zs.take l).length = l := by simp; omega
  refine ⟨some a, l, c, zs.take l, hcs, ⟨hlen.symm, fun y hy => wf_u8 (hwz y (List.mem_of_mem_take hy)), by omega, fun hp => ?_⟩, hl⟩
  obtain ⟨b, off, spot⟩ := a
  have hc := hcell 0 (by omega)
  have hspot : spot = none := by simpa [Addr.add] using World.cell?_spot hc
  subst hspot
  refine ⟨b, off, rfl, fun j hj => ?_⟩
  have hjl : j < l := by omega
  have hj' := hcell j (by omega)
  rw [Addr.add_lit] at hj'
  rw [hj', List.getD_eq_getElem?_getD, List.getD_eq_getElem?_getD, List.getElem?_take, if_pos hjl]
def OpT.zero : OpT := ⟨0, 0, none, 0, 0, [], none, 0, 0, [], 0⟩
theorem def_at {m : Nat} {cs : List Value} {x : DataW H × List MemPlace} (h : DataW.trod enc Try.prog W 0 (fun _ => true) true m 28 cs = some x) : ∃ d : MDef, cs = d.cells := by
 obtain ⟨xs, k, _, _, hl, hxl, hf⟩ := DataW.trod_struct Try.underlying28 h
 rw [cellsDef] at hl
 match cs, hl with
 | [u0, u1, u2, u3], _ =>
  have g0 : DataW.trod enc Try.prog W 0 (fun _ => true) true k 25 (List.take (Try.prog.cellsOf 25) (List.drop 0 [u0, u1, u2, u3])) = xs[0]? := hf 0 _ rfl
  have g1 : DataW.trod enc Try.prog W 0 (fun _ => true) true k 3 (List.take (Try.prog.cellsOf 3) (List.drop 1 [u0, u1, u2, u3])) = xs[1]? := hf 1 _ rfl
  have g2 : DataW.trod enc Try.prog W 0 (fun _ => true) true k 3 (List.take (Try.prog.cellsOf 3) (List.drop 2 [u0, u1, u2, u3])) = xs[2]? := hf 2 _ rfl
  have g3 : DataW.trod enc Try.prog W 0 (fun _ => true) true k 3 (List.take (Try.prog.cellsOf 3) (List.drop 3 [u0, u1, u2, u3])) = xs[3]? := hf 3 _ rfl
  have k3 : Try.prog.cellsOf 3 = 1 := by kernel_rfl
  have kk : Try.prog.cellsOf 25 = 1 := by kernel_rfl
  simp only [k3, kk, List.drop_succ_cons, List.drop_zero, List.take_succ_cons, List.take_zero] at g0 g1 g2 g3
  match xs, hxl with
  | [x0, x1, x2, x3], _ =>
   obtain ⟨n0, e0, _, w0⟩ := DataW.trod_int Try.underlying25 (show _ = some x0 from g0)
   obtain ⟨n1, e1, _, w1⟩ := DataW.trod_int Try.underlying3 (show _ = some x1 from g1)
   obtain ⟨n2, e2, _, w2⟩ := DataW.trod_int Try.underlying3 (show _ = some x2 from g2)
   obtain ⟨n3, e3, _, w3⟩ := DataW.trod_int Try.underlying3 (show _ = some x3 from g3)
   simp at e0 e1 e2 e3
   subst e0 e1 e2 e3
   exact ⟨⟨n0, n1, n2, n3⟩, rfl⟩
theorem choose_defs {Q : Nat → MDef → Prop} : ∀ {m : Nat}, (∀ j, j < m → ∃ i, Q j i) → ∃ ds : List MDef, ds.length = m ∧ ∀ j d, ds[j]? = some d → Q j d
 | 0, _ => ⟨[], rfl, fun j d h => by simp at h⟩
 | m + 1, h => by
  obtain ⟨ds, h1, h2⟩ := choose_defs (m := m) (fun j hj => h j (by omega))
  obtain ⟨d, hd⟩ := h m (by omega)
  refine ⟨ds ++ [d], by simp [h1], fun j d' hj => ?_⟩
  by_cases hjm : j < ds.length
  ·rw [List.getElem?_append_left hjm] at hj
   exact h2 j d' hj
  ·have hlt := (List.getElem?_eq_some_iff.1 hj).1
   simp at hlt
   have : j = ds.length := by omega
   subst this
   simp at hj
   subst hj
   rw [h1]
   exact hd
theorem defs_in {sa : Option Addr} {n c : Nat} {d : DataW H} {p : List MemPlace} (h : DataW.Trod enc Try.prog W 0 (fun _ => true) true 35 (.slice sa n c) d p) : ∃ ds, DefsAt W sa n ds := by
 obtain ⟨fuel, hf⟩ := h
 rcases Deep.open_slice Try.underlying35 hf with ⟨hcs, _⟩ | ⟨x, l, c', m, k, D, Pl, hcs, _, hl, hm, hmm, _, hx⟩
 ·simp [Value.cells] at hcs
  obtain ⟨rfl, rfl, rfl⟩ := hcs
  exact ⟨[], rfl, by omega, by omega⟩
 ·simp [Value.cells] at hcs
  obtain ⟨rfl, rfl, rfl⟩ := hcs
  simp only [if_true] at hmm
  subst hmm
  unfold maxLen at hm
  rw [cellsDef] at hx
  have hx' : ∀ j, j < n → ∃ d : MDef, ∀ r v, d.cells[r]? = some v → W.cell? ((x.add (j * 4)).add r) = some v := by
   intro j hj
   obtain ⟨cs', h1, h2⟩ := hx j (by omega)
   obtain ⟨d, rfl⟩ := def_at h2
   obtain ⟨_, hlen, hcell⟩ := World.cells?_some h1
   refine ⟨d, fun r v hv => ?_⟩
   have hr : r < 4 := by have := (List.getElem?_eq_some_iff.1 hv).1; simpa [MDef.cells] using this
   rw [hcell r hr]
   exact hv
  obtain ⟨ds, hl2, hf⟩ := choose_defs hx'
  refine ⟨ds, hl2.symm, by omega, fun hn => ?_⟩
  obtain ⟨b, off, spot⟩ := x
  have hc := hf 0 ds[0] (List.getElem?_eq_getElem (by omega)) 0 _ rfl
  have hspot : spot = none := by simpa [Addr.add] using World.cell?_spot hc
  subst hspot
  refine ⟨b, off, rfl, fun i d hd j v hv => ?_⟩
  have := hf i d hd j v hv
  rw [Addr.add_lit, Addr.add_lit] at this
  exact this
end
end Go.Proofs.Ytmhhahmjkopjhaa
end
section
namespace Go.Proofs.Ytmhhahmjkopjhaa
open Go.RowKit
attribute [local go_sem ↓] Go.wp_at_zero Go.wp_at_succ
theorem DefsAt.pair (w : World) (a b : MDef) : DefsAt (w.alloc (.cells (a.cells ++ b.cells).toArray 28)) (some ⟨w.heap.size, 0, none⟩) 2 [a, b] := by
 have hB := Blk.newA w (a.cells ++ b.cells).toArray _ 28 rfl
 refine ⟨rfl, by omega, fun _ => ⟨_, 0, rfl, fun i d' hd j v hv => ?_⟩⟩
 have hj : j < 4 := by have := (List.getElem?_eq_some_iff.1 hv).1; simpa [MDef.cells] using this
 match i, hd with
 | 0, hd =>
  simp at hd
  subst hd
  simp only [Nat.zero_mul, Nat.zero_add]
  exact hB.cell (by rw [List.getElem?_append_left (by simpa [MDef.cells] using hj)]; exact hv)
 | 1, hd =>
  simp at hd
  subst hd
  simp only [Nat.zero_add, Nat.one_mul]
  exact hB.cell (by rw [List.getElem?_append_right (by simp [MDef.cells]), show 4 + j - a.cells.length = j by simp [MDef.cells]]; exact hv)
theorem new_hold {w0 w : World} {M : Nat} (h : Mem.MemAt w (Mem.MS.new M)) (hM : w0.heap.size ≤ M) (ht : Touch [] w0 w) {sa : Option Addr} {n sc : Nat} {kind : Int} (hd : DefsAt w sa n [dT kind, dT kind]) (hmay : mayI [dT kind, dT kind] = true) :
  Calls Try.prog 6 #[.pointer (some ⟨M, 0, none⟩), .slice sa n sc] w fun e w' => ∃ x s q0 q1, e = .returned (.tuple #[.pointer (some ⟨x.t, 0, none⟩), .int .i64 0]) ∧ Hold w0 w' x s kind q0 q1 0 ∧ s.m = M := by
 refine (pnew_any (s := Mem.MS.new M) h (by show 0 ≤ 1000000; omega) (sc := sc) hd).mono ?_
 intro e w' hp
 rcases hp with ⟨h1, _⟩ | ⟨h1, h2, _⟩ | ⟨h1, _, x, s', rfl, hN⟩
 ·rw [hmay] at h1
  cases h1
 ·obtain ⟨h3, h4⟩ := may_facts' h1
  exact absurd (FreeAll.nil _ h3 (fun d hd => by have := h4 d hd; omega)) h2
 ·have hS := Solo.new hN (fun d hd => ((may_facts' h1).2 d hd).2.2) ht (fun b hb => by
   have : b = M := by simpa [Mem.MS.blocks, Mem.MS.new] using hb
   omega)
  exact ⟨x, s', _, _, rfl, ⟨hS, ⟨Q1.new, rfl⟩, Q1.new⟩, hN.m⟩
theorem key_blk {w : World} {N : Nat} {bs : List Int} {rest : List Value} (h : Blk w N (bs.map (Value.int .u8) ++ rest) 5) (hb : ∀ x ∈ bs, 0 ≤ x ∧ x ≤ 255) (hl : bs.length ≤ 1000) : KeyAt w (some ⟨N, 0, none⟩) bs.length bs :=
 ⟨rfl, hb, by omega, fun _ => ⟨N, 0, rfl, fun j hj => by
  rw [Nat.zero_add]
  refine h.cell ?_
  rw [List.getElem?_append_left (by simpa using hj), List.getElem?_map, List.getElem?_eq_getElem hj, List.getD_eq_getElem?_getD, List.getElem?_eq_getElem hj]
  rfl⟩⟩
theorem holds_0 {w : World} (k0 : Int) (hk4 : (IntKind.u64.wrap k0).tmod 4 = 0) {sa : Option Addr} {n sc : Nat} {kb : List Int} (hkb : KeyAt w sa n kb) (fl : Int) (_f0 : 0 ≤ fl) (_f1 : fl ≤ 18446744073709551615) :
  Calls Try.prog 3 #[.int .i64 k0, .slice sa n sc, .int .u64 fl] w fun e w' => e = .returned (.bool true) ∧ Touch [] w w' := by
 have HKB0 := toHid hkb
 have hn := hkb.1
 have hn2 := hkb.2.2.1
 clear hkb
 go_enter Try.func3, Try.ntmps3
 go_wp2_with fail
 refine (first_any _).mono ?_
 rintro e w1 ⟨rfl, ht1⟩
 have HT1 := toHid ht1
 have hB0 := Blk.newA w1 #[.int .i64 0, .int .i64 5, .int .i64 1, .int .i64 64] _ 28 rfl
 clear ht1
 go_wp2_with fail
 have hBd : Blk (w1.alloc (.cells #[.int .i64 0, .int .i64 4, .int .i64 1, .int .i64 64] 28)) w1.heap.size [.int .i64 0, .int .i64 4, .int .i64 1, .int .i64 64] 28 := Blk.newA w1 #[.int .i64 0, .int .i64 4, .int .i64 1, .int .i64 64] _ 28 rfl
 have htd : Touch [] w1 (w1.alloc (.cells #[.int .i64 0, .int .i64 4, .int .i64 1, .int .i64 64] 28)) := (Touch.refl [] w1).alloc _
 have HBD := toHid hBd
 have HTD := toHid (HT1.out.trans htd (by simp))
 clear hB0 hBd htd
 generalize w1.heap.size = DD at *
 generalize (w1.alloc (.cells #[.int .i64 0, .int .i64 4, .int .i64 1, .int .i64 64] 28)) = wd at *
 have HD : Hid (∀ w', Touch [] wd w' → w'.cell? ⟨DD, 0, none⟩ = some (.int .i64 0) ∧ w'.cell? ⟨DD, 1, none⟩ = some (.int .i64 4) ∧ w'.cell? ⟨DD, 2, none⟩ = some (.int .i64 1) ∧ w'.cell? ⟨DD, 3, none⟩ = some (.int .i64 64)) := fun w' ht => by
  have h9 := ht.blk HBD.out (by simp)
  exact ⟨h9.cell rfl, h9.cell rfl, h9.cell rfl, h9.cell rfl⟩
 refine (Mem.newM_any _).mono ?_
 rintro e w2 ⟨rfl, hM, ht2⟩
 obtain ⟨d0, d1, d2, d3⟩ := HD.out w2 ht2
 have hM2 : Mem.MemAt (w2.alloc (.cells #[.int .i64 0, .int .i64 4, .int .i64 1, .int .i64 64, .int .i64 0, .int .i64 4, .int .i64 1, .int .i64 64] 28)) (Mem.MS.new wd.heap.size) := hM.touch ((Touch.refl [] w2).alloc _) (by simp)
 have hd2 : DefsAt (w2.alloc (.cells #[.int .i64 0, .int .i64 4, .int .i64 1, .int .i64 64, .int .i64 0, .int .i64 4, .int .i64 1, .int .i64 64] 28)) (some ⟨w2.heap.size, 0, none⟩) 2 [dT 0, dT 0] := DefsAt.pair w2 (dT 0) (dT 0)
 have H1 := toHid (new_hold (w0 := wd) (sc := 2) hM2 (Nat.le_refl _) (ht2.alloc _) hd2 (by decide))
 clear hM ht2 hM2 hd2
 generalize wd.heap.size = M at *
 go_wp2_with fail
 refine Calls.mono H1.out ?_
 rintro e w3 ⟨x, s, q0, q1, rfl, hH0, hsM0⟩
 have HH0 : Hid (∃ x' s q0 q1, Hold wd w3 x' s 0 q0 q1 0 ∧ x'.t = x.t ∧ s.m = M) := ⟨x, s, q0, q1, hH0, rfl, hsM0⟩
 clear hH0 hsM0 H1 d0 d1 d2 d3
 generalize x.t = T at *
 go_wp2_with fail
 go_loopw [49] (fun t w' => ∃ k : Nat, k ≤ n ∧ k ≤ 64 ∧ t = .int .i64 k ∧ Hid (∃ x s q0 q1, Hold wd w' x s 0 q0 q1 k ∧ x.t = T ∧ s.m = M)) (fun t _ => n - (intOf t).toNat)
 case atStart => exact ⟨0, by omega, by omega, rfl, HH0⟩
 case round =>
  clear HH0
  obtain ⟨k, hk, hk64, rfl, HI⟩ := hrel
  by_cases hlt : k < n
  ·obtain ⟨x, s, q0, q1, hH, hxT, hsM⟩ := HI.out
   obtain ⟨kbb, koff, hsa, hcells⟩ := HKB0.out.2.2.2 (by omega)
   have hc := (HTD.out.trans hH.solo.touch (by simp)).cell (hcells k (by omega)) (by simp)
   have hbd := HKB0.out.2.1 (kb.getD k 0) (by
    rw [List.getD_eq_getElem?_getD, List.getElem?_eq_getElem (by omega)]
    exact List.getElem_mem _)
   subst hsa
   generalize kb.getD k 0 = b at *
   have hkn : (k : Int) < n := by omega
   by_cases h64 : k = 64
   ·have h64' : (64 : Int) ≤ k := by omega
    have HF := toHid (HTD.out.trans hH.solo.touch (by simp))
    clear hH hxT hsM HI h64 hcells
    go_wp2
    go_ret
    exact ⟨rfl, HF.out⟩
   ·have h64' : ¬ (64 : Int) ≤ k := by omega
    obtain ⟨d0, d1, _, _⟩ := HD.out _ ((hH.solo.touch.alloc (.cells #[.int .u8 (b % 32), .int .u8 0, .int .u8 0, .int .u8 0, .int .u8 b] 5)))
    have b0 := hbd.1
    have b1 := hbd.2
    have hB5 := Blk.newA wr #[.int .u8 (b % 32), .int .u8 0, .int .u8 0, .int .u8 0, .int .u8 b] _ 5 rfl
    have hBK : Blk (wr.alloc (.cells #[.int .u8 (b % 32), .int .u8 0, .int .u8 0, .int .u8 0, .int .u8 b] 5)) wr.heap.size [.int .u8 (b % 32), .int .u8 0, .int .u8 0, .int .u8 0, .int .u8 b] 5 := Blk.newA wr #[.int .u8 (b % 32), .int .u8 0, .int .u8 0, .int .u8 0, .int .u8 b] _ 5 rfl
    have htK : Touch [] wr (wr.alloc (.cells #[.int .u8 (b % 32), .int .u8 0, .int .u8 0, .int .u8 0, .int .u8 b] 5)) := (Touch.refl [] wr).alloc _
    have hta := (Touch.refl [] (wr.alloc (.cells #[.int .u8 (b % 32), .int .u8 0, .int .u8 0, .int .u8 0, .int .u8 b] 5))).alloc (.cells #[.int .u8 (k : Int)] 5)
    have hBK5 : Blk ((wr.alloc (.cells #[.int .u8 (b % 32), .int .u8 0, .int .u8 0, .int .u8 0, .int .u8 b] 5)).alloc (.cells #[.int .u8 (k : Int)] 5)) wr.heap.size ((keyT 0 b).map (Value.int .u8) ++ [.int .u8 b]) 5 := hta.blk hBK (by simp)
    have hBV := Blk.newA (wr.alloc (.cells #[.int .u8 (b % 32), .int .u8 0, .int .u8 0, .int .u8 0, .int .u8 b] 5)) #[.int .u8 (k : Int)] _ 5 rfl
    have hszK : (wr.alloc (.cells #[.int .u8 (b % 32), .int .u8 0, .int .u8 0, .int .u8 0, .int .u8 b] 5)).heap.size = wr.heap.size + 1 := by rw [World.size_alloc]
    rw [hszK] at hBV
    have hH5 := hH.still (htK.trans hta (by simp))
    have hA5 : Apt ((wr.alloc (.cells #[.int .u8 (b % 32), .int .u8 0, .int .u8 0, .int .u8 0, .int .u8 b] 5)).alloc (.cells #[.int .u8 (k : Int)] 5)) x s wr.heap.size := Apt.new hH.solo (Nat.le_refl _) hBK5.lt
    have hlk : ((keyT 0 b)).length = 4 := rfl
    have hkey := key_blk hBK5 (keyT_bd b0 b1) (by rw [hlk]; omega)
    rw [hlk] at hkey
    have hval : KeyAt ((wr.alloc (.cells #[.int .u8 (b % 32), .int .u8 0, .int .u8 0, .int .u8 0, .int .u8 b] 5)).alloc (.cells #[.int .u8 (k : Int)] 5)) (some ⟨wr.heap.size + 1, 0, none⟩) 1 [(k : Int)] := key_blk (bs := [(k : Int)]) (rest := []) hBV (by intro z hz; simp at hz; omega) (by show (1 : Nat) ≤ 1000; omega)
    have H2 := toHid (holdUpd hH5 (by omega) (by omega : k < 64) b0 b1 hkey (sc := 5) (by omega) (fun b' off e hx => by
     injection e with e
     injection e with e
     subst e
     have := hH.solo.p.tab.lt _ hx
     omega) hval (vc := 1) (fun b' off e hx => by
     injection e with e
     injection e with e
     subst e
     have := hH.solo.p.tab.lt _ hx
     omega) hxT)
    have HKK := toHid (And.intro hBK5 hA5)
    clear hH hH5 hBK5 hA5 hkey hval hBK htK hta hcells HI hszK
    go_wp2_with fail
    refine Calls.mono H2.out ?_
    rintro e w6 ⟨rfl, x6, s6, q6, i6, hH6, hi6, hi64, hv6, hL6⟩
    have hxT6 := hL6.t.trans hxT
    have hsM6 := hL6.m.trans hsM
    have hB6 := hL6.blk HKK.out.2 HKK.out.1
    have hA6 := hL6.apt HKK.out.2
    have HKEY : Hid (∀ w', Blk w' wr.heap.size ((keyT 0 b).map (Value.int .u8) ++ [.int .u8 b]) 5 → KeyAt w' (some ⟨wr.heap.size, 0, none⟩) 4 (keyT 0 b)) := fun w' hB => by
     have h9 := key_blk hB (keyT_bd b0 b1) (by rw [hlk]; omega)
     rw [hlk] at h9
     exact h9
    have H3 := toHid (holdGet hH6 (HKEY.out _ hB6) (sc := 5) (by omega) hi6 hi64 hv6 hxT6)
    have HX6 := toHid (And.intro hB6 (And.intro hA6 (And.intro hi6 (And.intro hv6 (And.intro hxT6 hsM6)))))
    clear hL6 hB6 hA6 hi6 hv6 hH6 H2 HKK hBV hB5
    go_wp2_with fail
    refine Calls.mono H3.out ?_
    rintro e w7 ⟨N, rfl, hBN, x7, q7, hH7, hq7, hL7, hAN⟩
    have hB7 := hL7.blk HX6.out.2.1 HX6.out.1
    have hA7 := hL7.apt HX6.out.2.1
    have hi7 : q7.slots[i6]? = some (some (keyT 0 b)) := by rw [hq7]; exact HX6.out.2.2.1
    have hxT7 := hL7.t.trans hxT6
    have H4 := toHid (holdLook hH7 (HKEY.out _ hB7) (sc := 5) (by omega) hi7 hxT7)
    have HX7 := toHid (And.intro hB7 (And.intro hA7 (And.intro hi7 (And.intro hBN hAN))))
    clear hL7 hB7 hA7 hi7 hH7 hq7 hBN hAN H3
    go_wp2_with fail
    refine Calls.mono H4.out ?_
    rintro e w8 ⟨rfl, x8, q8, hH8, hq8, hL8⟩
    have hB8 := hL8.blk HX7.out.2.1 HX7.out.1
    have hA8 := hL8.apt HX7.out.2.1
    have hN8 := hL8.blk HX7.out.2.2.2.2 HX7.out.2.2.2.1
    have hi8 : q8.slots[i6]? = some (some (keyT 0 b)) := by rw [hq8]; exact HX7.out.2.2.1
    have hxT8 := hL8.t.trans hxT7
    have H5 := toHid (holdLoad hH8 hi64 HX6.out.2.2.2.1 hsM6)
    have HX8 := toHid (And.intro hB8 (And.intro hA8 (And.intro hi8 (And.intro hN8 hH8))))
    clear hL8 hB8 hA8 hi8 hH8 hq8 hN8 H4
    go_wp2_with fail
    refine Calls.mono H5.out ?_
    rintro e w9 ⟨rfl, ht9⟩
    have hH9 := HX8.out.2.2.2.2.still ht9
    have hB9 := ht9.blk HX8.out.1 (by simp)
    have hA9 := HX8.out.2.1.still ht9
    have n9 := (ht9.blk HX8.out.2.2.2.1 (by simp)).cell (i := 0) rfl
    have H6 := toHid (holdZero hH9 b0 b1 (HKEY.out _ hB9) (sc := 5) (by omega) hxT8)
    rw [show (if (0 : Int) = 0 then (0 : Int) else 14) = 0 from by decide] at H6
    obtain ⟨_, _, _, _⟩ := HD.out w9 hH9.solo.touch
    have HX9 := toHid (And.intro hB9 hA9)
    clear hH9 hB9 hA9 ht9 H5
    go_wp2_with fail
    refine Calls.mono H6.out ?_
    rintro e w10 ⟨v10, rfl, x10, q10, hH10, hL10⟩
    have hB10 := hL10.blk HX9.out.2 HX9.out.1
    have hA10 := hL10.apt HX9.out.2
    have hxT10 := hL10.t.trans hxT8
    have hsM10 := hL10.m.trans hsM6
    obtain ⟨k0', k1', _, _⟩ := HD.out w10 hH10.solo.touch
    have HX10 := toHid (And.intro hB10 (And.intro hA10 (And.intro hH10 (And.intro hxT10 hsM10))))
    have hxx := hH10
    clear hxx hH10
    clear hL10 hB10 hA10 H6 hxT10 hsM10 n9
    cases hbit : (bits .and .u64 (fl / 2 ^ (k % 64)) 1 == 1) with
    | true =>
     have HNX : Hid (∃ x s q0 q1, Hold wd w10 x s 0 q0 q1 (k + 1) ∧ x.t = T ∧ s.m = M) := ⟨x10, s6, q10, q8, HX10.out.2.2.1, HX10.out.2.2.2.1, HX10.out.2.2.2.2⟩
     go_wp2
     go_roundw
     case rel => exact ⟨k + 1, by omega, by omega, by go_num, HNX⟩
     case measure => simp [intOf]; omega
    | false =>
     have HNX : Hid (∃ x s q0 q1, Hold wd w10 x s 0 q0 q1 (k + 1) ∧ x.t = T ∧ s.m = M) := ⟨x10, s6, q10, q8, HX10.out.2.2.1, HX10.out.2.2.2.1, HX10.out.2.2.2.2⟩
     go_wp2
     go_roundw
     case rel => exact ⟨k + 1, by omega, by omega, by go_num, HNX⟩
     case measure => simp [intOf]; omega
  ·obtain ⟨x, s, q0, q1, hH, _, _⟩ := HI.out
   have HF := toHid (HTD.out.trans hH.solo.touch (by simp))
   obtain rfl : k = n := by omega
   clear hH HI
   go_wp2
   go_ret
   exact ⟨rfl, HF.out⟩
theorem holds_1 {w : World} (k0 : Int) (hk4 : (IntKind.u64.wrap k0).tmod 4 = 1) {sa : Option Addr} {n sc : Nat} {kb : List Int} (hkb : KeyAt w sa n kb) (fl : Int) (_f0 : 0 ≤ fl) (_f1 : fl ≤ 18446744073709551615) :
  Calls Try.prog 3 #[.int .i64 k0, .slice sa n sc, .int .u64 fl] w fun e w' => e = .returned (.bool true) ∧ Touch [] w w' := by
 have HKB0 := toHid hkb
 have hn := hkb.1
 have hn2 := hkb.2.2.1
 clear hkb
 go_enter Try.func3, Try.ntmps3
 go_wp2_with fail
 refine (first_any _).mono ?_
 rintro e w1 ⟨rfl, ht1⟩
 have HT1 := toHid ht1
 have hB0 := Blk.newA w1 #[.int .i64 1, .int .i64 5, .int .i64 1, .int .i64 64] _ 28 rfl
 clear ht1
 go_wp2_with fail
 have hBd : Blk (w1.alloc (.cells #[.int .i64 1, .int .i64 5, .int .i64 1, .int .i64 64] 28)) w1.heap.size [.int .i64 1, .int .i64 5, .int .i64 1, .int .i64 64] 28 := Blk.newA w1 #[.int .i64 1, .int .i64 5, .int .i64 1, .int .i64 64] _ 28 rfl
 have htd : Touch [] w1 (w1.alloc (.cells #[.int .i64 1, .int .i64 5, .int .i64 1, .int .i64 64] 28)) := (Touch.refl [] w1).alloc _
 have HBD := toHid hBd
 have HTD := toHid (HT1.out.trans htd (by simp))
 clear hB0 hBd htd
 generalize w1.heap.size = DD at *
 generalize (w1.alloc (.cells #[.int .i64 1, .int .i64 5, .int .i64 1, .int .i64 64] 28)) = wd at *
 have HD : Hid (∀ w', Touch [] wd w' → w'.cell? ⟨DD, 0, none⟩ = some (.int .i64 1) ∧ w'.cell? ⟨DD, 1, none⟩ = some (.int .i64 5) ∧ w'.cell? ⟨DD, 2, none⟩ = some (.int .i64 1) ∧ w'.cell? ⟨DD, 3, none⟩ = some (.int .i64 64)) := fun w' ht => by
  have h9 := ht.blk HBD.out (by simp)
  exact ⟨h9.cell rfl, h9.cell rfl, h9.cell rfl, h9.cell rfl⟩
 refine (Mem.newM_any _).mono ?_
 rintro e w2 ⟨rfl, hM, ht2⟩
 obtain ⟨d0, d1, d2, d3⟩ := HD.out w2 ht2
 have hM2 : Mem.MemAt (w2.alloc (.cells #[.int .i64 1, .int .i64 5, .int .i64 1, .int .i64 64, .int .i64 1, .int .i64 5, .int .i64 1, .int .i64 64] 28)) (Mem.MS.new wd.heap.size) := hM.touch ((Touch.refl [] w2).alloc _) (by simp)
 have hd2 : DefsAt (w2.alloc (.cells #[.int .i64 1, .int .i64 5, .int .i64 1, .int .i64 64, .int .i64 1, .int .i64 5, .int .i64 1, .int .i64 64] 28)) (some ⟨w2.heap.size, 0, none⟩) 2 [dT 1, dT 1] := DefsAt.pair w2 (dT 1) (dT 1)
 have H1 := toHid (new_hold (w0 := wd) (sc := 2) hM2 (Nat.le_refl _) (ht2.alloc _) hd2 (by decide))
 clear hM ht2 hM2 hd2
 generalize wd.heap.size = M at *
 go_wp2_with fail
 refine Calls.mono H1.out ?_
 rintro e w3 ⟨x, s, q0, q1, rfl, hH0, hsM0⟩
 have HH0 : Hid (∃ x' s q0 q1, Hold wd w3 x' s 1 q0 q1 0 ∧ x'.t = x.t ∧ s.m = M) := ⟨x, s, q0, q1, hH0, rfl, hsM0⟩
 clear hH0 hsM0 H1 d0 d1 d2 d3
 generalize x.t = T at *
 go_wp2_with fail
 go_loopw [49] (fun t w' => ∃ k : Nat, k ≤ n ∧ k ≤ 64 ∧ t = .int .i64 k ∧ Hid (∃ x s q0 q1, Hold wd w' x s 1 q0 q1 k ∧ x.t = T ∧ s.m = M)) (fun t _ => n - (intOf t).toNat)
 case atStart => exact ⟨0, by omega, by omega, rfl, HH0⟩
 case round =>
  clear HH0
  obtain ⟨k, hk, hk64, rfl, HI⟩ := hrel
  by_cases hlt : k < n
  ·obtain ⟨x, s, q0, q1, hH, hxT, hsM⟩ := HI.out
   obtain ⟨kbb, koff, hsa, hcells⟩ := HKB0.out.2.2.2 (by omega)
   have hc := (HTD.out.trans hH.solo.touch (by simp)).cell (hcells k (by omega)) (by simp)
   have hbd := HKB0.out.2.1 (kb.getD k 0) (by
    rw [List.getD_eq_getElem?_getD, List.getElem?_eq_getElem (by omega)]
    exact List.getElem_mem _)
   subst hsa
   generalize kb.getD k 0 = b at *
   have hkn : (k : Int) < n := by omega
   by_cases h64 : k = 64
   ·have h64' : (64 : Int) ≤ k := by omega
    have HF := toHid (HTD.out.trans hH.solo.touch (by simp))
    clear hH hxT hsM HI h64 hcells
    go_wp2
    go_ret
    exact ⟨rfl, HF.out⟩
   ·have h64' : ¬ (64 : Int) ≤ k := by omega
    obtain ⟨d0, d1, _, _⟩ := HD.out _ ((hH.solo.touch.alloc (.cells #[.int .u8 (b % 32), .int .u8 0, .int .u8 0, .int .u8 0, .int .u8 b] 5)))
    have b0 := hbd.1
    have b1 := hbd.2
    have hB5 := Blk.newA wr #[.int .u8 (b % 32), .int .u8 0, .int .u8 0, .int .u8 0, .int .u8 b] _ 5 rfl
    have hBK : Blk (wr.alloc (.cells #[.int .u8 (b % 32), .int .u8 0, .int .u8 0, .int .u8 0, .int .u8 b] 5)) wr.heap.size [.int .u8 (b % 32), .int .u8 0, .int .u8 0, .int .u8 0, .int .u8 b] 5 := Blk.newA wr #[.int .u8 (b % 32), .int .u8 0, .int .u8 0, .int .u8 0, .int .u8 b] _ 5 rfl
    have htK : Touch [] wr (wr.alloc (.cells #[.int .u8 (b % 32), .int .u8 0, .int .u8 0, .int .u8 0, .int .u8 b] 5)) := (Touch.refl [] wr).alloc _
    have hta := (Touch.refl [] (wr.alloc (.cells #[.int .u8 (b % 32), .int .u8 0, .int .u8 0, .int .u8 0, .int .u8 b] 5))).alloc (.cells #[.int .u8 (k : Int)] 5)
    have hBK5 : Blk ((wr.alloc (.cells #[.int .u8 (b % 32), .int .u8 0, .int .u8 0, .int .u8 0, .int .u8 b] 5)).alloc (.cells #[.int .u8 (k : Int)] 5)) wr.heap.size ((keyT 1 b).map (Value.int .u8) ++ []) 5 := hta.blk hBK (by simp)
    have hBV := Blk.newA (wr.alloc (.cells #[.int .u8 (b % 32), .int .u8 0, .int .u8 0, .int .u8 0, .int .u8 b] 5)) #[.int .u8 (k : Int)] _ 5 rfl
    have hszK : (wr.alloc (.cells #[.int .u8 (b % 32), .int .u8 0, .int .u8 0, .int .u8 0, .int .u8 b] 5)).heap.size = wr.heap.size + 1 := by rw [World.size_alloc]
    rw [hszK] at hBV
    have hH5 := hH.still (htK.trans hta (by simp))
    have hA5 : Apt ((wr.alloc (.cells #[.int .u8 (b % 32), .int .u8 0, .int .u8 0, .int .u8 0, .int .u8 b] 5)).alloc (.cells #[.int .u8 (k : Int)] 5)) x s wr.heap.size := Apt.new hH.solo (Nat.le_refl _) hBK5.lt
    have hlk : ((keyT 1 b)).length = 5 := rfl
    have hkey := key_blk hBK5 (keyT_bd b0 b1) (by rw [hlk]; omega)
    rw [hlk] at hkey
    have hval : KeyAt ((wr.alloc (.cells #[.int .u8 (b % 32), .int .u8 0, .int .u8 0, .int .u8 0, .int .u8 b] 5)).alloc (.cells #[.int .u8 (k : Int)] 5)) (some ⟨wr.heap.size + 1, 0, none⟩) 1 [(k : Int)] := key_blk (bs := [(k : Int)]) (rest := []) hBV (by intro z hz; simp at hz; omega) (by show (1 : Nat) ≤ 1000; omega)
    have H2 := toHid (holdUpd hH5 (by omega) (by omega : k < 64) b0 b1 hkey (sc := 5) (by omega) (fun b' off e hx => by
     injection e with e
     injection e with e
     subst e
     have := hH.solo.p.tab.lt _ hx
     omega) hval (vc := 1) (fun b' off e hx => by
     injection e with e
     injection e with e
     subst e
     have := hH.solo.p.tab.lt _ hx
     omega) hxT)
    have HKK := toHid (And.intro hBK5 hA5)
    clear hH hH5 hBK5 hA5 hkey hval hBK htK hta hcells HI hszK
    go_wp2_with fail
    refine Calls.mono H2.out ?_
    rintro e w6 ⟨rfl, x6, s6, q6, i6, hH6, hi6, hi64, hv6, hL6⟩
    have hxT6 := hL6.t.trans hxT
    have hsM6 := hL6.m.trans hsM
    have hB6 := hL6.blk HKK.out.2 HKK.out.1
    have hA6 := hL6.apt HKK.out.2
    have HKEY : Hid (∀ w', Blk w' wr.heap.size ((keyT 1 b).map (Value.int .u8) ++ []) 5 → KeyAt w' (some ⟨wr.heap.size, 0, none⟩) 5 (keyT 1 b)) := fun w' hB => by
     have h9 := key_blk hB (keyT_bd b0 b1) (by rw [hlk]; omega)
     rw [hlk] at h9
     exact h9
    have H3 := toHid (holdGet hH6 (HKEY.out _ hB6) (sc := 5) (by omega) hi6 hi64 hv6 hxT6)
    have HX6 := toHid (And.intro hB6 (And.intro hA6 (And.intro hi6 (And.intro hv6 (And.intro hxT6 hsM6)))))
    clear hL6 hB6 hA6 hi6 hv6 hH6 H2 HKK hBV hB5
    go_wp2_with fail
    refine Calls.mono H3.out ?_
    rintro e w7 ⟨N, rfl, hBN, x7, q7, hH7, hq7, hL7, hAN⟩
    have hB7 := hL7.blk HX6.out.2.1 HX6.out.1
    have hA7 := hL7.apt HX6.out.2.1
    have hi7 : q7.slots[i6]? = some (some (keyT 1 b)) := by rw [hq7]; exact HX6.out.2.2.1
    have hxT7 := hL7.t.trans hxT6
    have H4 := toHid (holdLook hH7 (HKEY.out _ hB7) (sc := 5) (by omega) hi7 hxT7)
    have HX7 := toHid (And.intro hB7 (And.intro hA7 (And.intro hi7 (And.intro hBN hAN))))
    clear hL7 hB7 hA7 hi7 hH7 hq7 hBN hAN H3
    go_wp2_with fail
    refine Calls.mono H4.out ?_
    rintro e w8 ⟨rfl, x8, q8, hH8, hq8, hL8⟩
    have hB8 := hL8.blk HX7.out.2.1 HX7.out.1
    have hA8 := hL8.apt HX7.out.2.1
    have hN8 := hL8.blk HX7.out.2.2.2.2 HX7.out.2.2.2.1
    have hi8 : q8.slots[i6]? = some (some (keyT 1 b)) := by rw [hq8]; exact HX7.out.2.2.1
    have hxT8 := hL8.t.trans hxT7
    have H5 := toHid (holdLoad hH8 hi64 HX6.out.2.2.2.1 hsM6)
    have HX8 := toHid (And.intro hB8 (And.intro hA8 (And.intro hi8 (And.intro hN8 hH8))))
    clear hL8 hB8 hA8 hi8 hH8 hq8 hN8 H4
    go_wp2_with fail
    refine Calls.mono H5.out ?_
    rintro e w9 ⟨rfl, ht9⟩
    have hH9 := HX8.out.2.2.2.2.still ht9
    have hB9 := ht9.blk HX8.out.1 (by simp)
    have hA9 := HX8.out.2.1.still ht9
    have n9 := (ht9.blk HX8.out.2.2.2.1 (by simp)).cell (i := 0) rfl
    have H6 := toHid (holdZero hH9 b0 b1 (HKEY.out _ hB9) (sc := 5) (by omega) hxT8)
    rw [show (if (1 : Int) = 0 then (0 : Int) else 14) = 14 from by decide] at H6
    obtain ⟨_, _, _, _⟩ := HD.out w9 hH9.solo.touch
    have HX9 := toHid (And.intro hB9 hA9)
    clear hH9 hB9 hA9 ht9 H5
    go_wp2_with fail
    refine Calls.mono H6.out ?_
    rintro e w10 ⟨v10, rfl, x10, q10, hH10, hL10⟩
    have hB10 := hL10.blk HX9.out.2 HX9.out.1
    have hA10 := hL10.apt HX9.out.2
    have hxT10 := hL10.t.trans hxT8
    have hsM10 := hL10.m.trans hsM6
    obtain ⟨k0', k1', _, _⟩ := HD.out w10 hH10.solo.touch
    have HX10 := toHid (And.intro hB10 (And.intro hA10 (And.intro hH10 (And.intro hxT10 hsM10))))
    clear hL10 hB10 hA10 H6 hxT10 hsM10 n9
    cases hbit : (bits .and .u64 (fl / 2 ^ (k % 64)) 1 == 1) with
    | true =>
     have H7 := toHid (holdGet HX10.out.2.2.1 (HKEY.out _ HX10.out.1) (sc := 5) (by omega) HX8.out.2.2.1 hi64 HX6.out.2.2.2.1 HX10.out.2.2.2.1)
     clear hH10
     go_wp2_with fail
     refine Calls.mono H7.out ?_
     rintro e w11 ⟨N11, rfl, _, x11, q11, hH11, hq11, hL11, _⟩
     have hB11 := hL11.blk HX10.out.2.1 HX10.out.1
     have hA11 := hL11.apt HX10.out.2.1
     have hxT11 := hL11.t.trans HX10.out.2.2.2.1
     have hi11 : q11.slots[i6]? = some (some (keyT 1 b)) := by rw [hq11]; exact HX8.out.2.2.1
     have H8 := toHid (holdDel hH11 (by omega) (by decide) b0 b1 (HKEY.out _ hB11) (sc := 5) (by omega) hi11 hxT11)
     have HX11 := toHid (And.intro hB11 hA11)
     clear hH11 hq11 hL11 hB11 hA11 hi11 H7
     go_wp2_with fail
     refine Calls.mono H8.out ?_
     rintro e w12 ⟨rfl, x12, q12, hH12, hno12, hL12⟩
     have hB12 := hL12.blk HX11.out.2 HX11.out.1
     have hxT12 := hL12.t.trans hxT11
     have H9 := toHid (holdGone hH12 b0 b1 (HKEY.out _ hB12) (sc := 5) (by omega) hno12 hxT12)
     clear hH12 hno12 hL12 hB12 H8
     go_wp2_with fail
     refine Calls.mono H9.out ?_
     rintro e w13 ⟨rfl, x13, q13, hH13, hL13⟩
     have HNX : Hid (∃ x s q0 q1, Hold wd w13 x s 1 q0 q1 (k + 1) ∧ x.t = T ∧ s.m = M) := ⟨x13, s6, q10, q13, hH13, hL13.t.trans hxT12, HX10.out.2.2.2.2⟩
     clear hH13 hL13 H9
     go_wp2
     go_roundw
     case rel => exact ⟨k + 1, by omega, by omega, by go_num, HNX⟩
     case measure => simp [intOf]; omega
    | false =>
     have HNX : Hid (∃ x s q0 q1, Hold wd w10 x s 1 q0 q1 (k + 1) ∧ x.t = T ∧ s.m = M) := ⟨x10, s6, q10, q8, HX10.out.2.2.1, HX10.out.2.2.2.1, HX10.out.2.2.2.2⟩
     clear hH10
     go_wp2
     go_roundw
     case rel => exact ⟨k + 1, by omega, by omega, by go_num, HNX⟩
     case measure => simp [intOf]; omega
  ·obtain ⟨x, s, q0, q1, hH, _, _⟩ := HI.out
   have HF := toHid (HTD.out.trans hH.solo.touch (by simp))
   obtain rfl : k = n := by omega
   clear hH HI
   go_wp2
   go_ret
   exact ⟨rfl, HF.out⟩
theorem holds_2 {w : World} (k0 : Int) (hk4 : (IntKind.u64.wrap k0).tmod 4 = 2) {sa : Option Addr} {n sc : Nat} {kb : List Int} (hkb : KeyAt w sa n kb) (fl : Int) (_f0 : 0 ≤ fl) (_f1 : fl ≤ 18446744073709551615) :
  Calls Try.prog 3 #[.int .i64 k0, .slice sa n sc, .int .u64 fl] w fun e w' => e = .returned (.bool true) ∧ Touch [] w w' := by
 have HKB0 := toHid hkb
 have hn := hkb.1
 have hn2 := hkb.2.2.1
 clear hkb
 go_enter Try.func3, Try.ntmps3
 go_wp2_with fail
 refine (first_any _).mono ?_
 rintro e w1 ⟨rfl, ht1⟩
 have HT1 := toHid ht1
 have hB0 := Blk.newA w1 #[.int .i64 2, .int .i64 5, .int .i64 1, .int .i64 64] _ 28 rfl
 clear ht1
 go_wp2_with fail
 have hBd : Blk (w1.alloc (.cells #[.int .i64 2, .int .i64 5, .int .i64 1, .int .i64 64] 28)) w1.heap.size [.int .i64 2, .int .i64 5, .int .i64 1, .int .i64 64] 28 := Blk.newA w1 #[.int .i64 2, .int .i64 5, .int .i64 1, .int .i64 64] _ 28 rfl
 have htd : Touch [] w1 (w1.alloc (.cells #[.int .i64 2, .int .i64 5, .int .i64 1, .int .i64 64] 28)) := (Touch.refl [] w1).alloc _
 have HBD := toHid hBd
 have HTD := toHid (HT1.out.trans htd (by simp))
 clear hB0 hBd htd
 generalize w1.heap.size = DD at *
 generalize (w1.alloc (.cells #[.int .i64 2, .int .i64 5, .int .i64 1, .int .i64 64] 28)) = wd at *
 have HD : Hid (∀ w', Touch [] wd w' → w'.cell? ⟨DD, 0, none⟩ = some (.int .i64 2) ∧ w'.cell? ⟨DD, 1, none⟩ = some (.int .i64 5) ∧ w'.cell? ⟨DD, 2, none⟩ = some (.int .i64 1) ∧ w'.cell? ⟨DD, 3, none⟩ = some (.int .i64 64)) := fun w' ht => by
  have h9 := ht.blk HBD.out (by simp)
  exact ⟨h9.cell rfl, h9.cell rfl, h9.cell rfl, h9.cell rfl⟩
 refine (Mem.newM_any _).mono ?_
 rintro e w2 ⟨rfl, hM, ht2⟩
 obtain ⟨d0, d1, d2, d3⟩ := HD.out w2 ht2
 have hM2 : Mem.MemAt (w2.alloc (.cells #[.int .i64 2, .int .i64 5, .int .i64 1, .int .i64 64, .int .i64 2, .int .i64 5, .int .i64 1, .int .i64 64] 28)) (Mem.MS.new wd.heap.size) := hM.touch ((Touch.refl [] w2).alloc _) (by simp)
 have hd2 : DefsAt (w2.alloc (.cells #[.int .i64 2, .int .i64 5, .int .i64 1, .int .i64 64, .int .i64 2, .int .i64 5, .int .i64 1, .int .i64 64] 28)) (some ⟨w2.heap.size, 0, none⟩) 2 [dT 2, dT 2] := DefsAt.pair w2 (dT 2) (dT 2)
 have H1 := toHid (new_hold (w0 := wd) (sc := 2) hM2 (Nat.le_refl _) (ht2.alloc _) hd2 (by decide))
 clear hM ht2 hM2 hd2
 generalize wd.heap.size = M at *
 go_wp2_with fail
 refine Calls.mono H1.out ?_
 rintro e w3 ⟨x, s, q0, q1, rfl, hH0, hsM0⟩
 have HH0 : Hid (∃ x' s q0 q1, Hold wd w3 x' s 2 q0 q1 0 ∧ x'.t = x.t ∧ s.m = M) := ⟨x, s, q0, q1, hH0, rfl, hsM0⟩
 clear hH0 hsM0 H1 d0 d1 d2 d3
 generalize x.t = T at *
 go_wp2_with fail
 go_loopw [49] (fun t w' => ∃ k : Nat, k ≤ n ∧ k ≤ 64 ∧ t = .int .i64 k ∧ Hid (∃ x s q0 q1, Hold wd w' x s 2 q0 q1 k ∧ x.t = T ∧ s.m = M)) (fun t _ => n - (intOf t).toNat)
 case atStart => exact ⟨0, by omega, by omega, rfl, HH0⟩
 case round =>
  clear HH0
  obtain ⟨k, hk, hk64, rfl, HI⟩ := hrel
  by_cases hlt : k < n
  ·obtain ⟨x, s, q0, q1, hH, hxT, hsM⟩ := HI.out
   obtain ⟨kbb, koff, hsa, hcells⟩ := HKB0.out.2.2.2 (by omega)
   have hc := (HTD.out.trans hH.solo.touch (by simp)).cell (hcells k (by omega)) (by simp)
   have hbd := HKB0.out.2.1 (kb.getD k 0) (by
    rw [List.getD_eq_getElem?_getD, List.getElem?_eq_getElem (by omega)]
    exact List.getElem_mem _)
   subst hsa
   generalize kb.getD k 0 = b at *
   have hkn : (k : Int) < n := by omega
   by_cases h64 : k = 64
   ·have h64' : (64 : Int) ≤ k := by omega
    have HF := toHid (HTD.out.trans hH.solo.touch (by simp))
    clear hH hxT hsM HI h64 hcells
    go_wp2
    go_ret
    exact ⟨rfl, HF.out⟩
   ·have h64' : ¬ (64 : Int) ≤ k := by omega
    obtain ⟨d0, d1, _, _⟩ := HD.out _ ((hH.solo.touch.alloc (.cells #[.int .u8 (b % 32), .int .u8 0, .int .u8 0, .int .u8 0, .int .u8 b] 5)))
    have b0 := hbd.1
    have b1 := hbd.2
    have hB5 := Blk.newA wr #[.int .u8 (b % 32), .int .u8 0, .int .u8 0, .int .u8 0, .int .u8 b] _ 5 rfl
    have hBK : Blk (wr.alloc (.cells #[.int .u8 (b % 32), .int .u8 0, .int .u8 0, .int .u8 0, .int .u8 b] 5)) wr.heap.size [.int .u8 (b % 32), .int .u8 0, .int .u8 0, .int .u8 0, .int .u8 b] 5 := Blk.newA wr #[.int .u8 (b % 32), .int .u8 0, .int .u8 0, .int .u8 0, .int .u8 b] _ 5 rfl
    have htK : Touch [] wr (wr.alloc (.cells #[.int .u8 (b % 32), .int .u8 0, .int .u8 0, .int .u8 0, .int .u8 b] 5)) := (Touch.refl [] wr).alloc _
    have hta := (Touch.refl [] (wr.alloc (.cells #[.int .u8 (b % 32), .int .u8 0, .int .u8 0, .int .u8 0, .int .u8 b] 5))).alloc (.cells #[.int .u8 (k : Int)] 5)
    have hBK5 : Blk ((wr.alloc (.cells #[.int .u8 (b % 32), .int .u8 0, .int .u8 0, .int .u8 0, .int .u8 b] 5)).alloc (.cells #[.int .u8 (k : Int)] 5)) wr.heap.size ((keyT 2 b).map (Value.int .u8) ++ []) 5 := hta.blk hBK (by simp)
    have hBV := Blk.newA (wr.alloc (.cells #[.int .u8 (b % 32), .int .u8 0, .int .u8 0, .int .u8 0, .int .u8 b] 5)) #[.int .u8 (k : Int)] _ 5 rfl
    have hszK : (wr.alloc (.cells #[.int .u8 (b % 32), .int .u8 0, .int .u8 0, .int .u8 0, .int .u8 b] 5)).heap.size = wr.heap.size + 1 := by rw [World.size_alloc]
    rw [hszK] at hBV
    have hH5 := hH.still (htK.trans hta (by simp))
    have hA5 : Apt ((wr.alloc (.cells #[.int .u8 (b % 32), .int .u8 0, .int .u8 0, .int .u8 0, .int .u8 b] 5)).alloc (.cells #[.int .u8 (k : Int)] 5)) x s wr.heap.size := Apt.new hH.solo (Nat.le_refl _) hBK5.lt
    have hlk : ((keyT 2 b)).length = 5 := rfl
    have hkey := key_blk hBK5 (keyT_bd b0 b1) (by rw [hlk]; omega)
    rw [hlk] at hkey
    have hval : KeyAt ((wr.alloc (.cells #[.int .u8 (b % 32), .int .u8 0, .int .u8 0, .int .u8 0, .int .u8 b] 5)).alloc (.cells #[.int .u8 (k : Int)] 5)) (some ⟨wr.heap.size + 1, 0, none⟩) 1 [(k : Int)] := key_blk (bs := [(k : Int)]) (rest := []) hBV (by intro z hz; simp at hz; omega) (by show (1 : Nat) ≤ 1000; omega)
    have H2 := toHid (holdUpd hH5 (by omega) (by omega : k < 64) b0 b1 hkey (sc := 5) (by omega) (fun b' off e hx => by
     injection e with e
     injection e with e
     subst e
     have := hH.solo.p.tab.lt _ hx
     omega) hval (vc := 1) (fun b' off e hx => by
     injection e with e
     injection e with e
     subst e
     have := hH.solo.p.tab.lt _ hx
     omega) hxT)
    have HKK := toHid (And.intro hBK5 hA5)
    clear hH hH5 hBK5 hA5 hkey hval hBK htK hta hcells HI hszK
    go_wp2_with fail
    refine Calls.mono H2.out ?_
    rintro e w6 ⟨rfl, x6, s6, q6, i6, hH6, hi6, hi64, hv6, hL6⟩
    have hxT6 := hL6.t.trans hxT
    have hsM6 := hL6.m.trans hsM
    have hB6 := hL6.blk HKK.out.2 HKK.out.1
    have hA6 := hL6.apt HKK.out.2
    have HKEY : Hid (∀ w', Blk w' wr.heap.size ((keyT 2 b).map (Value.int .u8) ++ []) 5 → KeyAt w' (some ⟨wr.heap.size, 0, none⟩) 5 (keyT 2 b)) := fun w' hB => by
     have h9 := key_blk hB (keyT_bd b0 b1) (by rw [hlk]; omega)
     rw [hlk] at h9
     exact h9
    have H3 := toHid (holdGet hH6 (HKEY.out _ hB6) (sc := 5) (by omega) hi6 hi64 hv6 hxT6)
    have HX6 := toHid (And.intro hB6 (And.intro hA6 (And.intro hi6 (And.intro hv6 (And.intro hxT6 hsM6)))))
    clear hL6 hB6 hA6 hi6 hv6 hH6 H2 HKK hBV hB5
    go_wp2_with fail
    refine Calls.mono H3.out ?_
    rintro e w7 ⟨N, rfl, hBN, x7, q7, hH7, hq7, hL7, hAN⟩
    have hB7 := hL7.blk HX6.out.2.1 HX6.out.1
    have hA7 := hL7.apt HX6.out.2.1
    have hi7 : q7.slots[i6]? = some (some (keyT 2 b)) := by rw [hq7]; exact HX6.out.2.2.1
    have hxT7 := hL7.t.trans hxT6
    have H4 := toHid (holdLook hH7 (HKEY.out _ hB7) (sc := 5) (by omega) hi7 hxT7)
    have HX7 := toHid (And.intro hB7 (And.intro hA7 (And.intro hi7 (And.intro hBN hAN))))
    clear hL7 hB7 hA7 hi7 hH7 hq7 hBN hAN H3
    go_wp2_with fail
    refine Calls.mono H4.out ?_
    rintro e w8 ⟨rfl, x8, q8, hH8, hq8, hL8⟩
    have hB8 := hL8.blk HX7.out.2.1 HX7.out.1
    have hA8 := hL8.apt HX7.out.2.1
    have hN8 := hL8.blk HX7.out.2.2.2.2 HX7.out.2.2.2.1
    have hi8 : q8.slots[i6]? = some (some (keyT 2 b)) := by rw [hq8]; exact HX7.out.2.2.1
    have hxT8 := hL8.t.trans hxT7
    have H5 := toHid (holdLoad hH8 hi64 HX6.out.2.2.2.1 hsM6)
    have HX8 := toHid (And.intro hB8 (And.intro hA8 (And.intro hi8 (And.intro hN8 hH8))))
    clear hL8 hB8 hA8 hi8 hH8 hq8 hN8 H4
    go_wp2_with fail
    refine Calls.mono H5.out ?_
    rintro e w9 ⟨rfl, ht9⟩
    have hH9 := HX8.out.2.2.2.2.still ht9
    have hB9 := ht9.blk HX8.out.1 (by simp)
    have hA9 := HX8.out.2.1.still ht9
    have n9 := (ht9.blk HX8.out.2.2.2.1 (by simp)).cell (i := 0) rfl
    have H6 := toHid (holdZero hH9 b0 b1 (HKEY.out _ hB9) (sc := 5) (by omega) hxT8)
    rw [show (if (2 : Int) = 0 then (0 : Int) else 14) = 14 from by decide] at H6
    obtain ⟨_, _, _, _⟩ := HD.out w9 hH9.solo.touch
    have HX9 := toHid (And.intro hB9 hA9)
    clear hH9 hB9 hA9 ht9 H5
    go_wp2_with fail
    refine Calls.mono H6.out ?_
    rintro e w10 ⟨v10, rfl, x10, q10, hH10, hL10⟩
    have hB10 := hL10.blk HX9.out.2 HX9.out.1
    have hA10 := hL10.apt HX9.out.2
    have hxT10 := hL10.t.trans hxT8
    have hsM10 := hL10.m.trans hsM6
    obtain ⟨k0', k1', _, _⟩ := HD.out w10 hH10.solo.touch
    have HX10 := toHid (And.intro hB10 (And.intro hA10 (And.intro hH10 (And.intro hxT10 hsM10))))
    clear hL10 hB10 hA10 H6 hxT10 hsM10 n9
    cases hbit : (bits .and .u64 (fl / 2 ^ (k % 64)) 1 == 1) with
    | true =>
     have H7 := toHid (holdGet HX10.out.2.2.1 (HKEY.out _ HX10.out.1) (sc := 5) (by omega) HX8.out.2.2.1 hi64 HX6.out.2.2.2.1 HX10.out.2.2.2.1)
     clear hH10
     go_wp2_with fail
     refine Calls.mono H7.out ?_
     rintro e w11 ⟨N11, rfl, _, x11, q11, hH11, hq11, hL11, _⟩
     have hB11 := hL11.blk HX10.out.2.1 HX10.out.1
     have hA11 := hL11.apt HX10.out.2.1
     have hxT11 := hL11.t.trans HX10.out.2.2.2.1
     have hi11 : q11.slots[i6]? = some (some (keyT 2 b)) := by rw [hq11]; exact HX8.out.2.2.1
     have H8 := toHid (holdDel hH11 (by omega) (by decide) b0 b1 (HKEY.out _ hB11) (sc := 5) (by omega) hi11 hxT11)
     have HX11 := toHid (And.intro hB11 hA11)
     clear hH11 hq11 hL11 hB11 hA11 hi11 H7
     go_wp2_with fail
     refine Calls.mono H8.out ?_
     rintro e w12 ⟨rfl, x12, q12, hH12, hno12, hL12⟩
     have hB12 := hL12.blk HX11.out.2 HX11.out.1
     have hxT12 := hL12.t.trans hxT11
     have H9 := toHid (holdGone hH12 b0 b1 (HKEY.out _ hB12) (sc := 5) (by omega) hno12 hxT12)
     clear hH12 hno12 hL12 hB12 H8
     go_wp2_with fail
     refine Calls.mono H9.out ?_
     rintro e w13 ⟨rfl, x13, q13, hH13, hL13⟩
     have HNX : Hid (∃ x s q0 q1, Hold wd w13 x s 2 q0 q1 (k + 1) ∧ x.t = T ∧ s.m = M) := ⟨x13, s6, q10, q13, hH13, hL13.t.trans hxT12, HX10.out.2.2.2.2⟩
     clear hH13 hL13 H9
     go_wp2
     go_roundw
     case rel => exact ⟨k + 1, by omega, by omega, by go_num, HNX⟩
     case measure => simp [intOf]; omega
    | false =>
     have HNX : Hid (∃ x s q0 q1, Hold wd w10 x s 2 q0 q1 (k + 1) ∧ x.t = T ∧ s.m = M) := ⟨x10, s6, q10, q8, HX10.out.2.2.1, HX10.out.2.2.2.1, HX10.out.2.2.2.2⟩
     clear hH10
     go_wp2
     go_roundw
     case rel => exact ⟨k + 1, by omega, by omega, by go_num, HNX⟩
     case measure => simp [intOf]; omega
  ·obtain ⟨x, s, q0, q1, hH, _, _⟩ := HI.out
   have HF := toHid (HTD.out.trans hH.solo.touch (by simp))
   obtain rfl : k = n := by omega
   clear hH HI
   go_wp2
   go_ret
   exact ⟨rfl, HF.out⟩
theorem holds_3 {w : World} (k0 : Int) (hk4 : (IntKind.u64.wrap k0).tmod 4 = 3) {sa : Option Addr} {n sc : Nat} {kb : List Int} (hkb : KeyAt w sa n kb) (fl : Int) (_f0 : 0 ≤ fl) (_f1 : fl ≤ 18446744073709551615) :
  Calls Try.prog 3 #[.int .i64 k0, .slice sa n sc, .int .u64 fl] w fun e w' => e = .returned (.bool true) ∧ Touch [] w w' := by
 have HKB0 := toHid hkb
 have hn := hkb.1
 have hn2 := hkb.2.2.1
 clear hkb
 go_enter Try.func3, Try.ntmps3
 go_wp2_with fail
 refine (first_any _).mono ?_
 rintro e w1 ⟨rfl, ht1⟩
 have HT1 := toHid ht1
 have hB0 := Blk.newA w1 #[.int .i64 3, .int .i64 5, .int .i64 1, .int .i64 64] _ 28 rfl
 clear ht1
 go_wp2_with fail
 have hBd : Blk (w1.alloc (.cells #[.int .i64 3, .int .i64 5, .int .i64 1, .int .i64 64] 28)) w1.heap.size [.int .i64 3, .int .i64 5, .int .i64 1, .int .i64 64] 28 := Blk.newA w1 #[.int .i64 3, .int .i64 5, .int .i64 1, .int .i64 64] _ 28 rfl
 have htd : Touch [] w1 (w1.alloc (.cells #[.int .i64 3, .int .i64 5, .int .i64 1, .int .i64 64] 28)) := (Touch.refl [] w1).alloc _
 have HBD := toHid hBd
 have HTD := toHid (HT1.out.trans htd (by simp))
 clear hB0 hBd htd
 generalize w1.heap.size = DD at *
 generalize (w1.alloc (.cells #[.int .i64 3, .int .i64 5, .int .i64 1, .int .i64 64] 28)) = wd at *
 have HD : Hid (∀ w', Touch [] wd w' → w'.cell? ⟨DD, 0, none⟩ = some (.int .i64 3) ∧ w'.cell? ⟨DD, 1, none⟩ = some (.int .i64 5) ∧ w'.cell? ⟨DD, 2, none⟩ = some (.int .i64 1) ∧ w'.cell? ⟨DD, 3, none⟩ = some (.int .i64 64)) := fun w' ht => by
  have h9 := ht.blk HBD.out (by simp)
  exact ⟨h9.cell rfl, h9.cell rfl, h9.cell rfl, h9.cell rfl⟩
 refine (Mem.newM_any _).mono ?_
 rintro e w2 ⟨rfl, hM, ht2⟩
 obtain ⟨d0, d1, d2, d3⟩ := HD.out w2 ht2
 have hM2 : Mem.MemAt (w2.alloc (.cells #[.int .i64 3, .int .i64 5, .int .i64 1, .int .i64 64, .int .i64 3, .int .i64 5, .int .i64 1, .int .i64 64] 28)) (Mem.MS.new wd.heap.size) := hM.touch ((Touch.refl [] w2).alloc _) (by simp)
 have hd2 : DefsAt (w2.alloc (.cells #[.int .i64 3, .int .i64 5, .int .i64 1, .int .i64 64, .int .i64 3, .int .i64 5, .int .i64 1, .int .i64 64] 28)) (some ⟨w2.heap.size, 0, none⟩) 2 [dT 3, dT 3] := DefsAt.pair w2 (dT 3) (dT 3)
 have H1 := toHid (new_hold (w0 := wd) (sc := 2) hM2 (Nat.le_refl _) (ht2.alloc _) hd2 (by decide))
 clear hM ht2 hM2 hd2
 generalize wd.heap.size = M at *
 go_wp2_with fail
 refine Calls.mono H1.out ?_
 rintro e w3 ⟨x, s, q0, q1, rfl, hH0, hsM0⟩
 have HH0 : Hid (∃ x' s q0 q1, Hold wd w3 x' s 3 q0 q1 0 ∧ x'.t = x.t ∧ s.m = M) := ⟨x, s, q0, q1, hH0, rfl, hsM0⟩
 clear hH0 hsM0 H1 d0 d1 d2 d3
 generalize x.t = T at *
 go_wp2_with fail
 go_loopw [49] (fun t w' => ∃ k : Nat, k ≤ n ∧ k ≤ 64 ∧ t = .int .i64 k ∧ Hid (∃ x s q0 q1, Hold wd w' x s 3 q0 q1 k ∧ x.t = T ∧ s.m = M)) (fun t _ => n - (intOf t).toNat)
 case atStart => exact ⟨0, by omega, by omega, rfl, HH0⟩
 case round =>
  clear HH0
  obtain ⟨k, hk, hk64, rfl, HI⟩ := hrel
  by_cases hlt : k < n
  ·obtain ⟨x, s, q0, q1, hH, hxT, hsM⟩ := HI.out
   obtain ⟨kbb, koff, hsa, hcells⟩ := HKB0.out.2.2.2 (by omega)
   have hc := (HTD.out.trans hH.solo.touch (by simp)).cell (hcells k (by omega)) (by simp)
   have hbd := HKB0.out.2.1 (kb.getD k 0) (by
    rw [List.getD_eq_getElem?_getD, List.getElem?_eq_getElem (by omega)]
    exact List.getElem_mem _)
   subst hsa
   generalize kb.getD k 0 = b at *
   have hkn : (k : Int) < n := by omega
   by_cases h64 : k = 64
   ·have h64' : (64 : Int) ≤ k := by omega
    have HF := toHid (HTD.out.trans hH.solo.touch (by simp))
    clear hH hxT hsM HI h64 hcells
    go_wp2
    go_ret
    exact ⟨rfl, HF.out⟩
   ·have h64' : ¬ (64 : Int) ≤ k := by omega
    obtain ⟨d0, d1, _, _⟩ := HD.out _ ((hH.solo.touch.alloc (.cells #[.int .u8 (b % 32), .int .u8 0, .int .u8 0, .int .u8 0, .int .u8 b] 5)))
    have b0 := hbd.1
    have b1 := hbd.2
    have hB5 := Blk.newA wr #[.int .u8 (b % 32), .int .u8 0, .int .u8 0, .int .u8 0, .int .u8 b] _ 5 rfl
    have hBK : Blk (wr.alloc (.cells #[.int .u8 8, .int .u8 0, .int .u8 0, .int .u8 0, .int .u8 b] 5)) wr.heap.size [.int .u8 8, .int .u8 0, .int .u8 0, .int .u8 0, .int .u8 b] 5 := Blk.newA wr #[.int .u8 8, .int .u8 0, .int .u8 0, .int .u8 0, .int .u8 b] _ 5 rfl
    have htK : Touch [] wr (wr.alloc (.cells #[.int .u8 8, .int .u8 0, .int .u8 0, .int .u8 0, .int .u8 b] 5)) := (Touch.refl [] wr).alloc _
    have hta := (Touch.refl [] (wr.alloc (.cells #[.int .u8 8, .int .u8 0, .int .u8 0, .int .u8 0, .int .u8 b] 5))).alloc (.cells #[.int .u8 (k : Int)] 5)
    have hBK5 : Blk ((wr.alloc (.cells #[.int .u8 8, .int .u8 0, .int .u8 0, .int .u8 0, .int .u8 b] 5)).alloc (.cells #[.int .u8 (k : Int)] 5)) wr.heap.size ((keyT 3 b).map (Value.int .u8) ++ []) 5 := hta.blk hBK (by simp)
    have hBV := Blk.newA (wr.alloc (.cells #[.int .u8 8, .int .u8 0, .int .u8 0, .int .u8 0, .int .u8 b] 5)) #[.int .u8 (k : Int)] _ 5 rfl
    have hszK : (wr.alloc (.cells #[.int .u8 8, .int .u8 0, .int .u8 0, .int .u8 0, .int .u8 b] 5)).heap.size = wr.heap.size + 1 := by rw [World.size_alloc]
    rw [hszK] at hBV
    have hH5 := hH.still (htK.trans hta (by simp))
    have hA5 : Apt ((wr.alloc (.cells #[.int .u8 8, .int .u8 0, .int .u8 0, .int .u8 0, .int .u8 b] 5)).alloc (.cells #[.int .u8 (k : Int)] 5)) x s wr.heap.size := Apt.new hH.solo (Nat.le_refl _) hBK5.lt
    have hlk : ((keyT 3 b)).length = 5 := rfl
    have hkey := key_blk hBK5 (keyT_bd b0 b1) (by rw [hlk]; omega)
    rw [hlk] at hkey
    have hval : KeyAt ((wr.alloc (.cells #[.int .u8 8, .int .u8 0, .int .u8 0, .int .u8 0, .int .u8 b] 5)).alloc (.cells #[.int .u8 (k : Int)] 5)) (some ⟨wr.heap.size + 1, 0, none⟩) 1 [(k : Int)] := key_blk (bs := [(k : Int)]) (rest := []) hBV (by intro z hz; simp at hz; omega) (by show (1 : Nat) ≤ 1000; omega)
    have H2 := toHid (holdUpd hH5 (by omega) (by omega : k < 64) b0 b1 hkey (sc := 5) (by omega) (fun b' off e hx => by
     injection e with e
     injection e with e
     subst e
     have := hH.solo.p.tab.lt _ hx
     omega) hval (vc := 1) (fun b' off e hx => by
     injection e with e
     injection e with e
     subst e
     have := hH.solo.p.tab.lt _ hx
     omega) hxT)
    have HKK := toHid (And.intro hBK5 hA5)
    clear hH hH5 hBK5 hA5 hkey hval hBK htK hta hcells HI hszK
    go_wp2_with fail
    refine Calls.mono H2.out ?_
    rintro e w6 ⟨rfl, x6, s6, q6, i6, hH6, hi6, hi64, hv6, hL6⟩
    have hxT6 := hL6.t.trans hxT
    have hsM6 := hL6.m.trans hsM
    have hB6 := hL6.blk HKK.out.2 HKK.out.1
    have hA6 := hL6.apt HKK.out.2
    have HKEY : Hid (∀ w', Blk w' wr.heap.size ((keyT 3 b).map (Value.int .u8) ++ []) 5 → KeyAt w' (some ⟨wr.heap.size, 0, none⟩) 5 (keyT 3 b)) := fun w' hB => by
     have h9 := key_blk hB (keyT_bd b0 b1) (by rw [hlk]; omega)
     rw [hlk] at h9
     exact h9
    have H3 := toHid (holdGet hH6 (HKEY.out _ hB6) (sc := 5) (by omega) hi6 hi64 hv6 hxT6)
    have HX6 := toHid (And.intro hB6 (And.intro hA6 (And.intro hi6 (And.intro hv6 (And.intro hxT6 hsM6)))))
    clear hL6 hB6 hA6 hi6 hv6 hH6 H2 HKK hBV hB5
    go_wp2_with fail
    refine Calls.mono H3.out ?_
    rintro e w7 ⟨N, rfl, hBN, x7, q7, hH7, hq7, hL7, hAN⟩
    have hB7 := hL7.blk HX6.out.2.1 HX6.out.1
    have hA7 := hL7.apt HX6.out.2.1
    have hi7 : q7.slots[i6]? = some (some (keyT 3 b)) := by rw [hq7]; exact HX6.out.2.2.1
    have hxT7 := hL7.t.trans hxT6
    have H4 := toHid (holdLook hH7 (HKEY.out _ hB7) (sc := 5) (by omega) hi7 hxT7)
    have HX7 := toHid (And.intro hB7 (And.intro hA7 (And.intro hi7 (And.intro hBN hAN))))
    clear hL7 hB7 hA7 hi7 hH7 hq7 hBN hAN H3
    go_wp2_with fail
    refine Calls.mono H4.out ?_
    rintro e w8 ⟨rfl, x8, q8, hH8, hq8, hL8⟩
    have hB8 := hL8.blk HX7.out.2.1 HX7.out.1
    have hA8 := hL8.apt HX7.out.2.1
    have hN8 := hL8.blk HX7.out.2.2.2.2 HX7.out.2.2.2.1
    have hi8 : q8.slots[i6]? = some (some (keyT 3 b)) := by rw [hq8]; exact HX7.out.2.2.1
    have hxT8 := hL8.t.trans hxT7
    have H5 := toHid (holdLoad hH8 hi64 HX6.out.2.2.2.1 hsM6)
    have HX8 := toHid (And.intro hB8 (And.intro hA8 (And.intro hi8 (And.intro hN8 hH8))))
    clear hL8 hB8 hA8 hi8 hH8 hq8 hN8 H4
    go_wp2_with fail
    refine Calls.mono H5.out ?_
    rintro e w9 ⟨rfl, ht9⟩
    have hH9 := HX8.out.2.2.2.2.still ht9
    have hB9 := ht9.blk HX8.out.1 (by simp)
    have hA9 := HX8.out.2.1.still ht9
    have n9 := (ht9.blk HX8.out.2.2.2.1 (by simp)).cell (i := 0) rfl
    have H6 := toHid (holdZero hH9 b0 b1 (HKEY.out _ hB9) (sc := 5) (by omega) hxT8)
    rw [show (if (3 : Int) = 0 then (0 : Int) else 14) = 14 from by decide] at H6
    obtain ⟨_, _, _, _⟩ := HD.out w9 hH9.solo.touch
    have HX9 := toHid (And.intro hB9 hA9)
    clear hH9 hB9 hA9 ht9 H5
    go_wp2_with fail
    refine Calls.mono H6.out ?_
    rintro e w10 ⟨v10, rfl, x10, q10, hH10, hL10⟩
    have hB10 := hL10.blk HX9.out.2 HX9.out.1
    have hA10 := hL10.apt HX9.out.2
    have hxT10 := hL10.t.trans hxT8
    have hsM10 := hL10.m.trans hsM6
    obtain ⟨k0', k1', _, _⟩ := HD.out w10 hH10.solo.touch
    have HX10 := toHid (And.intro hB10 (And.intro hA10 (And.intro hH10 (And.intro hxT10 hsM10))))
    clear hL10 hB10 hA10 H6 hxT10 hsM10 n9
    cases hbit : (bits .and .u64 (fl / 2 ^ (k % 64)) 1 == 1) with
    | true =>
     have H7 := toHid (holdGet HX10.out.2.2.1 (HKEY.out _ HX10.out.1) (sc := 5) (by omega) HX8.out.2.2.1 hi64 HX6.out.2.2.2.1 HX10.out.2.2.2.1)
     clear hH10
     go_wp2_with fail
     refine Calls.mono H7.out ?_
     rintro e w11 ⟨N11, rfl, _, x11, q11, hH11, hq11, hL11, _⟩
     have hB11 := hL11.blk HX10.out.2.1 HX10.out.1
     have hA11 := hL11.apt HX10.out.2.1
     have hxT11 := hL11.t.trans HX10.out.2.2.2.1
     have hi11 : q11.slots[i6]? = some (some (keyT 3 b)) := by rw [hq11]; exact HX8.out.2.2.1
     have H8 := toHid (holdDel hH11 (by omega) (by decide) b0 b1 (HKEY.out _ hB11) (sc := 5) (by omega) hi11 hxT11)
     have HX11 := toHid (And.intro hB11 hA11)
     clear hH11 hq11 hL11 hB11 hA11 hi11 H7
     go_wp2_with fail
     refine Calls.mono H8.out ?_
     rintro e w12 ⟨rfl, x12, q12, hH12, hno12, hL12⟩
     have hB12 := hL12.blk HX11.out.2 HX11.out.1
     have hxT12 := hL12.t.trans hxT11
     have H9 := toHid (holdGone hH12 b0 b1 (HKEY.out _ hB12) (sc := 5) (by omega) hno12 hxT12)
     clear hH12 hno12 hL12 hB12 H8
     go_wp2_with fail
     refine Calls.mono H9.out ?_
     rintro e w13 ⟨rfl, x13, q13, hH13, hL13⟩
     have HNX : Hid (∃ x s q0 q1, Hold wd w13 x s 3 q0 q1 (k + 1) ∧ x.t = T ∧ s.m = M) := ⟨x13, s6, q10, q13, hH13, hL13.t.trans hxT12, HX10.out.2.2.2.2⟩
     clear hH13 hL13 H9
     go_wp2
     go_roundw
     case rel => exact ⟨k + 1, by omega, by omega, by go_num, HNX⟩
     case measure => simp [intOf]; omega
    | false =>
     have HNX : Hid (∃ x s q0 q1, Hold wd w10 x s 3 q0 q1 (k + 1) ∧ x.t = T ∧ s.m = M) := ⟨x10, s6, q10, q8, HX10.out.2.2.1, HX10.out.2.2.2.1, HX10.out.2.2.2.2⟩
     clear hH10
     go_wp2
     go_roundw
     case rel => exact ⟨k + 1, by omega, by omega, by go_num, HNX⟩
     case measure => simp [intOf]; omega
  ·obtain ⟨x, s, q0, q1, hH, _, _⟩ := HI.out
   have HF := toHid (HTD.out.trans hH.solo.touch (by simp))
   obtain rfl : k = n := by omega
   clear hH HI
   go_wp2
   go_ret
   exact ⟨rfl, HF.out⟩
theorem holds_law {w : World} (k0 : Int) {sa : Option Addr} {n sc : Nat} {kb : List Int} (hkb : KeyAt w sa n kb) (fl : Int) (f0 : 0 ≤ fl) (f1 : fl ≤ 18446744073709551615) :
  Calls Try.prog 3 #[.int .i64 k0, .slice sa n sc, .int .u64 fl] w fun e w' => e = .returned (.bool true) ∧ Touch [] w w' := by
 obtain ⟨q, hq, hkq⟩ := kind4 k0
 obtain rfl | rfl | rfl | rfl : q = 0 ∨ q = 1 ∨ q = 2 ∨ q = 3 := by omega
 ·exact holds_0 k0 hkq hkb fl f0 f1
 ·exact holds_1 k0 hkq hkb fl f0 f1
 ·exact holds_2 k0 hkq hkb fl f0 f1
 ·exact holds_3 k0 hkq hkb fl f0 f1
end Go.Proofs.Ytmhhahmjkopjhaa
end
