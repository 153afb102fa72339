/-
  allSet, copied, region.lay, lay, look: bytes told and bytes laid.
-/
import Derived.Test.YtkfmhabplcikiaaMNum
namespace Go.Proofs.Ytkfmhabplcikiaa.Mem
open Go.RowKit
/-- Are n bytes from a on set? -/
def allSetB (r : Reg) (a n : Nat) : Bool := match r.sb with
  | none => true
  | some _ => ((r.set.drop a).take n).all (fun x => x)

theorem allSetB_yes {r : Reg} {a n : Nat} (h : ∀ j, j < n → r.set.getD (a + j) true = true) : allSetB r a n = true := by
  unfold allSetB
  cases r.sb with
  | none => rfl
  | some s =>
    simp only [List.all_eq_true]
    intro x hx
    obtain ⟨j, hj, rfl⟩ := List.getElem_of_mem hx
    rw [List.getElem_take, List.getElem_drop]
    have hjn : j < n := by rw [List.length_take] at hj; omega
    have := h j hjn
    rw [List.getD_eq_getElem?_getD, List.getElem?_eq_getElem (by rw [List.length_take, List.length_drop] at hj; omega)] at this
    simpa using this
theorem allSetB_no {r : Reg} {a n s i : Nat} (hs : r.sb = some s) (hi : i < n) (hl : a + n ≤ r.set.length) (h : r.set.getD (a + i) true = false) : allSetB r a n = false := by
  unfold allSetB
  rw [hs]
  simp only [List.all_eq_false]
  refine ⟨r.set.getD (a + i) true, ?_, by rw [h]; decide⟩
  rw [List.getD_eq_getElem?_getD, List.getElem?_eq_getElem (by omega)]
  simp only [Option.getD_some]
  rw [List.mem_iff_getElem]
  exact ⟨i, by rw [List.length_take, List.length_drop]; omega, by rw [List.getElem_take, List.getElem_drop]⟩

theorem run_eql_nil {P : Program} (w : World) (t e : TypeId) (a : Option Addr) (l c : Nat) (h : P.underlying t = some (.slice e)) : (binOp .eql t (.slice a l c) (.slice none 0 0)).run P w = .ok (.bool a.isNone) w := by
  simp only [binOp]
  simp [run_equal_slice_nil w t e a l c h]
theorem nil42 (w : World) : (binOp .eql 73 (.slice none 0 0) (.slice none 0 0)).run Try.prog w = .ok (.bool true) w := run_eql_nil w 73 4 none 0 0 Try.underlying73
theorem some42 (w : World) (a : Addr) (l c : Nat) : (binOp .eql 73 (.slice (some a) l c) (.slice none 0 0)).run Try.prog w = .ok (.bool false) w := run_eql_nil w 73 4 (some a) l c Try.underlying73

theorem oneCell_u8 {bs : List Int} : ∀ v ∈ bs.map (Value.int .u8), v.oneCell' = true := by
  intro v hv
  obtain ⟨x, _, rfl⟩ := List.mem_map.1 hv
  rfl

/-- n bytes lie from an address on. -/
def BytesAt (w : World) (k off : Nat) (bs : List Int) : Prop := ∀ j v, (bs.map (Value.int .u8))[j]? = some v → w.cell? ⟨k, off + j, none⟩ = some v

theorem BytesAt.touch {S : List Nat} {w w' : World} {k off : Nat} {bs : List Int} (h : BytesAt w k off bs) (ht : Touch S w w') (hk : k ∉ S) : BytesAt w' k off bs := fun j v hj => ht.cell (h j v hj) hk
theorem BytesAt.of_blk {w : World} {k off : Nat} {xs : List Int} {t : TypeId} (h : Blk w k (xs.map (Value.int .u8)) t) (n : Nat) : BytesAt w k off ((xs.drop off).take n) := fun j v hj => by
  refine h.cell ?_
  rw [List.getElem?_map] at hj ⊢
  rw [List.getElem?_take] at hj
  split at hj
  · rwa [List.getElem?_drop] at hj
  · simp at hj

set_option maxHeartbeats 1000000 in
set_option maxRecDepth 100000 in
theorem copied_any (k off n c : Nat) (bs : List Int) (w : World) (hn : n ≤ 65536) (hl : bs.length = n) (hb : BytesAt w k off bs) (_hk : k < w.heap.size) :
    Calls Try.prog 46 #[.slice (some ⟨k, off, none⟩) n c] w fun e w' => e = .returned (.slice (some ⟨w.heap.size, 0, none⟩) n n) ∧ Blk w' w.heap.size (bs.map (Value.int .u8)) 5 ∧ Touch [] w w' := by
  have hmk := run_make_blk (P := Try.prog) Try.underlying60 info5 rfl n (by omega) (by omega) .i64
  have hN := Blk.new w (List.replicate n (Value.int .u8 0)) 5
  have ht : Touch [] w (w.alloc (.cells (List.replicate n (Value.int .u8 0)).toArray 5)) := (Touch.refl _ w).alloc _
  have hmk0 := hmk w
  clear hmk
  generalize w.alloc (.cells (List.replicate n (Value.int .u8 0)).toArray 5) = W1 at hmk0 hN ht
  have hcp : ∀ ty, (Builtin.copy_ #[60, 60] ty #[.slice (some ⟨w.heap.size, 0, none⟩) n n, .slice (some ⟨k, off, none⟩) n c]).run Try.prog W1 = _ := fun ty =>
    run_copy_blk W1 60 60 ty 5 Try.underlying60 (size_of_info info5) w.heap.size 0 n n ⟨k, off, none⟩ n c _ 5 (bs.map (Value.int .u8)) hN (by simp only [Nat.min_def, List.length_map, hl]; split <;> omega) (fun j v hj => by
      rw [Addr.add_lit]
      exact ht.cell (hb j v hj) (by simp)) (by simp; omega) oneCell_u8
  have hX : (List.replicate n (Value.int .u8 0)).take 0 ++ bs.map (Value.int .u8) ++ (List.replicate n (Value.int .u8 0)).drop (0 + (bs.map (Value.int .u8)).length) = bs.map (Value.int .u8) := by simp [hl]
  rw [hX] at hcp
  have hB := hN.setRow (bs.map (Value.int .u8))
  have ht2 := ht.setRow w.heap.size (bs.map (Value.int .u8)).toArray (Or.inr (Nat.le_refl _))
  generalize W1.setRow w.heap.size (bs.map (Value.int .u8)).toArray = W2 at hcp hB ht2
  have HC := toHid hcp
  have HB := toHid (And.intro hB ht2)
  clear hcp hB ht2 hX hN ht hb
  go_enter Try.func46, Try.ntmps46
  go_wp2_with fail
  rw [HC.out]
  go_wp2
  go_ret
  exact ⟨rfl, HB.out⟩

/-- A region with bytes laid into it. -/
def layR (r : Reg) (a : Nat) (bs : List Int) : Reg :=
  { r with bytes := r.bytes.take a ++ bs ++ r.bytes.drop (a + bs.length), set := match r.sb with
    | none => r.set
    | some _ => r.set.take a ++ List.replicate bs.length true ++ r.set.drop (a + bs.length) }

theorem layR_len {r : Reg} {a : Nat} {bs : List Int} (h : a + bs.length ≤ r.bytes.length) : (layR r a bs).bytes.length = r.bytes.length := by
  simp only [layR, List.length_append, List.length_take, List.length_drop]
  omega

/-- The marks of a fresh region, k of them laid. -/
def setTo (st : List Bool) (a k : Nat) : List Value := (st.take a ++ List.replicate k true ++ st.drop (a + k)).map Value.bool

theorem setTo_succ (st : List Bool) (a k : Nat) (h : a + k < st.length) : (setTo st a k).set (a + k) (.bool true) = setTo st a (k + 1) := by
  unfold setTo
  rw [← List.map_set]
  congr 1
  have e : st.drop (a + k) = st[a + k] :: st.drop (a + k + 1) := List.drop_eq_getElem_cons h
  have e2 : (st.take a ++ List.replicate k true).length = a + k := by simp; omega
  rw [e]
  conv => lhs; arg 2; rw [← e2]
  rw [List.set_append_right _ _ (Nat.le_refl _), Nat.sub_self, List.set_cons_zero, List.replicate_succ', ← Nat.add_assoc]
  simp

theorem RegAt.laid {w w' : World} {r : Reg} {a : Nat} {bs : List Int} (_h : RegAt w r) (hl : a + bs.length ≤ r.bytes.length) (hp : Blk w' r.p r.cells 75)
    (hb : Blk w' r.bb ((layR r a bs).bytes.map (Value.int .u8)) 5) (hs : ∀ s, r.sb = some s → Blk w' s (setTo r.set a bs.length) 4) : RegAt w' (layR r a bs) where
  self := by
    have e : (layR r a bs).cells = r.cells := by
      unfold Reg.cells Reg.setV
      rw [layR_len hl]
      rfl
    rw [e]
    exact hp
  bytes := hb
  set := fun s hs' => by
    have hs'' : r.sb = some s := hs'
    have := hs s hs''
    unfold setTo at this
    simp only [layR, hs'']
    exact this

set_option maxHeartbeats 1000000 in
set_option maxRecDepth 100000 in
theorem rlay_any {w : World} {r : Reg} (h : RegAt w r) (ho : RegOk r) (a k off n c : Nat) (bs : List Int) (hn1 : 1 ≤ n) (hl : bs.length = n) (han : a + n ≤ r.bytes.length) (hb : BytesAt w k off bs) :
    Calls Try.prog 50 #[.pointer (some ⟨r.p, 0, none⟩), .int .i64 a, .slice (some ⟨k, off, none⟩) n c] w fun e w' => e = .returned (.tuple #[]) ∧ RegAt w' (layR r a bs) ∧ Touch (r.bb :: r.sb.toList) w w' := by
  have hsz := ho.size2
  have hown := ho.own
  simp only [Reg.blocks, List.nodup_cons, List.mem_cons, not_or] at hown
  have hcp : ∀ ty dc, (Builtin.copy_ #[60, 60] ty #[.slice (some ⟨r.bb, a, none⟩) (r.bytes.length - a) dc, .slice (some ⟨k, off, none⟩) n c]).run Try.prog w = _ := fun ty dc =>
    run_copy_blk w 60 60 ty 5 Try.underlying60 (size_of_info info5) r.bb a (r.bytes.length - a) dc ⟨k, off, none⟩ n c _ 5 (bs.map (Value.int .u8)) h.bytes (by simp only [Nat.min_def, List.length_map, hl]; split <;> omega) (fun j v hj => by
      rw [Addr.add_lit]
      exact hb j v hj) (by simp; omega) oneCell_u8
  have hX : (r.bytes.map (Value.int .u8)).take a ++ bs.map (Value.int .u8) ++ (r.bytes.map (Value.int .u8)).drop (a + (bs.map (Value.int .u8)).length) = (layR r a bs).bytes.map (Value.int .u8) := by
    simp [layR, List.map_take, List.map_drop]
  rw [hX] at hcp
  have hB := h.bytes.setRow ((layR r a bs).bytes.map (Value.int .u8))
  have hP := h.self.setRow_other r.bb ((layR r a bs).bytes.map (Value.int .u8)).toArray hown.1.1
  have hS : ∀ s, r.sb = some s → Blk (w.setRow r.bb ((layR r a bs).bytes.map (Value.int .u8)).toArray) s (setTo r.set a 0) 4 := fun s hs => by
    have : setTo r.set a 0 = r.set.map Value.bool := by simp [setTo]
    rw [this]
    refine (h.set s hs).setRow_other _ _ (fun e => hown.2.1 ?_)
    rw [hs, e]
    simp
  have ht : Touch (r.bb :: r.sb.toList) w (w.setRow r.bb ((layR r a bs).bytes.map (Value.int .u8)).toArray) := (Touch.refl _ w).setRow _ _ (Or.inl (by simp))
  generalize w.setRow r.bb ((layR r a bs).bytes.map (Value.int .u8)).toArray = W1 at hcp hB hP hS ht
  have hc3 := h.c3
  have q1 : ¬ (r.bytes.length = a) := by omega
  have q2 : (a : Int) ≤ r.bytes.length := by omega
  cases hsb : r.sb with
  | none =>
    have hc4 : W1.cell? ⟨r.p, 4, none⟩ = some r.setV := hP.cell rfl
    unfold Reg.setV at hc4
    rw [hsb] at hc4
    simp only at hc4
    have HF : Hid (RegAt W1 (layR r a bs) ∧ Touch (r.bb :: r.sb.toList) w W1) := ⟨h.laid (by omega) hP hB (fun s hs => by rw [hsb] at hs; cases hs), ht⟩
    rw [hsb] at HF
    have HC := toHid hcp
    have hnil := nil42
    clear hcp hX hB hP hS ht h ho hb
    go_enter Try.func50, Try.ntmps50
    go_wp2_with fail
    rw [HC.out]
    go_wp2
    exact bodyPost_ret (v := .tuple #[]) (by simp [results, Try.results50]) rfl ⟨rfl, HF.out⟩
  | some sb =>
    have hset := hS sb hsb
    have hlen := ho.setLen sb hsb
    have hc4 : W1.cell? ⟨r.p, 4, none⟩ = some r.setV := hP.cell rfl
    unfold Reg.setV at hc4
    rw [hsb] at hc4
    simp only at hc4
    rw [hsb] at ht
    have HT := toHid ht
    have HS := toHid hset
    have HP := toHid hP
    have HBB := toHid hB
    have HC := toHid hcp
    have hnil := some42
    have hne1 : ¬ sb = r.p := fun e => hown.1.2 (by rw [hsb, e]; simp)
    have hne2 : ¬ sb = r.bb := fun e => hown.2.1 (by rw [hsb, e]; simp)
    have HR := toHid h
    have HSB := toHid hsb
    clear hcp hX hB hP hS ht h ho hb hset hsb
    go_enter Try.func50, Try.ntmps50
    go_wp2_with fail
    rw [HC.out]
    go_wp2
    go_loopw [22] (fun t w' => ∃ i : Nat, i ≤ n ∧ t = .int .i64 i ∧ Hid (Blk w' sb (setTo r.set a i) 4 ∧ Blk w' r.p r.cells 75 ∧ Blk w' r.bb ((layR r a bs).bytes.map (Value.int .u8)) 5 ∧ Touch [r.bb, sb] w w')) (fun t _ => n - (intOf t).toNat)
    case atStart => exact ⟨0, by omega, rfl, HS.out, HP.out, HBB.out, HT.out⟩
    case round =>
      rename_i wr
      obtain ⟨i, hi, rfl, HI⟩ := hrel
      clear hc4
      have hc4 : wr.cell? ⟨r.p, 4, none⟩ = some r.setV := HI.out.2.1.cell rfl
      unfold Reg.setV at hc4
      rw [HSB.out] at hc4
      simp only at hc4
      by_cases hlt : i < n
      · have c1 := HI.out.1.cellN (i := a + i) (by simp [setTo]; omega)
        have f1 := HI.out.1.frozen (a + i)
        go_wp2
        refine ⟨⟨i + 1, by omega, by go_num, ?_, ?_, ?_, ?_⟩, by simp [intOf]; omega⟩
        · rw [← setTo_succ r.set a i (by omega)]
          exact HI.out.1.setCell _ _
        · exact HI.out.2.1.setCell_other _ _ (fun e => hne1 e.symm)
        · exact HI.out.2.2.1.setCell_other _ _ (fun e => hne2 e.symm)
        · exact HI.out.2.2.2.setCell _ _ (Or.inl (by simp))
      · obtain rfl : i = n := by omega
        go_wp2
        go_end0
        refine ⟨rfl, HR.out.laid (by omega) HI.out.2.1 HI.out.2.2.1 (fun s hs => ?_), by simpa using HI.out.2.2.2⟩
        rw [HSB.out] at hs
        injection hs with hs
        subst hs
        rw [hl]
        exact HI.out.1
end Go.Proofs.Ytkfmhabplcikiaa.Mem
