/-
  Texts laid together: MIns, MAdd, MIdx, PRoom, PSettle, MNum, MLook, MLay, MApi, MApi2, MApi3, PAt, PLook, PUpd, PRead, PGet, PSettle2, PPush, PNew, MNil, MFirst, PSolo, PFirst, PNil, PTwin, PCopy, OneOp, PTabNil, PArgs.
-/
import Derived.Test.YtmhhahmjkopjhaaGreatNilM2
import Derived.Test.YtmhhahmjkopjhaaGreatRows
import Derived.Deep.RegionLaw
import Derived.BigQuiet
import Derived.Deep.QuietTactic
import Derived.Deep.RegionHeld3
import Derived.ProofKit
import Derived.Deep.Slices
section
namespace Go.Proofs.YtmhhahmjkopjhaaGreat.Mem
open Go.RowKit
theorem info79 : (Tryz.prog.info? 118).map (fun i => (i.zero, i.size, i.bytes)) = some (some (.pointer none), 1, 8) := by kernel_rfl
set_option maxHeartbeats 1000000 in
set_option maxRecDepth 100000 in
theorem insert_end (g : Option Nat) (n cap k : Nat) (cs : List Value) (x : Value) (w : World) (h : RowAt w 118 1 g n cap cs) (hn : n ≤ 4096) (hx : x.oneCell' = true) (tk : TypeId)
  (hk : Blk w k [x] tk) :
  Calls Tryz.prog 58 #[slV g n cap, .int .i64 n, .slice (some ⟨k, 0, none⟩) 1 1] w fun e w' => ∃ g' cap', e = .returned (slV g' (n + 1) cap') ∧ RowAt w' 118 1 g' (n + 1) cap' (cs ++ [x]) ∧ Touch g.toList w w' ∧
   (g' = g ∨ g' = some w.heap.size) ∧ (g' = some w.heap.size → w.heap.size < w'.heap.size) := by
 obtain ⟨i, hi, hz, hs, hb⟩ := info_of info79
 obtain ⟨g', cap', w', hr, h2, h3, h4, h5⟩ := run_append_row (P := Tryz.prog) w 77 77 118 i (.pointer none) 1 Tryz.underlying77 hi hz hs rfl (by omega) g n cap cs h ⟨k, 0, none⟩ 1 1 [x] rfl
  (fun j v hj => by
   have : j = 0 := by have := (List.getElem?_eq_some_iff.1 hj).1; simp at this; exact this
   subst this
   exact hk.cell hj) (fun u hu => by simp at hu; subst hu; exact hx) (by rw [hb]; omega) (by omega)
 have hnc := h.2.1
 have HR : Hid ((Builtin.append_ #[77, 77] 77 #[slV g n cap, .slice (some ⟨k, 0, none⟩) 1 1]).run Tryz.prog w = .ok (slV g' (n + 1) cap') w') := hr
 clear hr
 cases g with
 | none =>
  simp only [slV_none] at HR ⊢
  obtain rfl : cap = 0 := h.2.2.2
  obtain rfl : n = 0 := by omega
  go_enter Tryz.func58, Tryz.ntmps58
  go_wp2_with (at_builtin; refine Lib.wpList_append_run _ rfl _ _ _ _ rfl _ _ rfl rfl _ _ HR.out ?_)
  go_ret
  exact ⟨g', cap', rfl, h2, h3, h4, h5⟩
 | some b =>
  simp only [slV_some] at HR ⊢
  go_enter Tryz.func58, Tryz.ntmps58
  go_wp2_with (at_builtin; refine Lib.wpList_append_run _ rfl _ _ _ _ rfl _ _ rfl rfl _ _ HR.out ?_)
  all_goals
   go_ret
   exact ⟨g', cap', rfl, h2, h3, h4, h5⟩
theorem hov (k b la off lb cb : Nat) (w : World) (ds cs : List Value) (tk : TypeId) (hne : k ≠ b) (hk : Blk w k ds tk) (hb : Blk w b cs 118) (hb0 : cs.length ≠ 0) :
  (callFunc 81 #[.slice (some ⟨k, 0, none⟩) la la, .slice (some ⟨b, off, none⟩) lb cb]).run Tryz.prog w = .ok (.value (.bool false)) w := by
 rw [run_callFunc_extern Tryz.func81 (by kernel_rfl) (by kernel_rfl) (by kernel_rfl) (e := Extern.SlicesOverlaps.overlaps #[77, 77] #[4]) (by kernel_rfl),
   Lib.run_overlaps_apart w 77 4 118 Tryz.underlying77 1 (sizeOf_of_info info79) ⟨k, 0, none⟩ ⟨b, off, none⟩ la la lb cb hne tk 118 ds.length cs.length hk.shape hb.shape hb0 (hk.frozen _) (hk.frozen _)]
 rfl
set_option maxHeartbeats 1000000 in
set_option maxRecDepth 100000 in
theorem insert_shift (b n cap i k : Nat) (cs rest : List Value) (x : Value) (w : World) (hcl : cs.length = n) (hn : n ≤ 4096) (hin : i < n) (hroom : n + 1 ≤ cap) (hcap : cap ≤ n + rest.length) (hcm : cap ≤ maxLen)
  (hb : Blk w b (cs ++ rest) 118) (hx : x.oneCell' = true) (h1 : ∀ u ∈ cs, u.oneCell' = true) (tk : TypeId) (hk : Blk w k [x] tk) (hkb : k ≠ b) :
  Calls Tryz.prog 58 #[.slice (some ⟨b, 0, none⟩) n cap, .int .i64 i, .slice (some ⟨k, 0, none⟩) 1 1] w fun e w' => e = .returned (.slice (some ⟨b, 0, none⟩) (n + 1) cap) ∧ Blk w' b (cs.take i ++ x :: cs.drop i ++ rest.drop 1) 118 ∧ Touch [b] w w' := by
 unfold maxLen at hcm
 have hsz := size_of_info info79
 have hov1 : ∀ off lb cb, (callFunc 81 #[.slice (some ⟨k, 0, none⟩) 1 1, .slice (some ⟨b, off, none⟩) lb cb]).run Tryz.prog w = .ok (.value (.bool false)) w := fun off lb cb => hov k b 1 off lb cb w _ _ tk hkb hk hb (by rw [List.length_append]; omega)
 have hdl : (cs.drop i).length = n - i := by rw [List.length_drop, hcl]
 have hal : (cs ++ rest).length = n + rest.length := by rw [List.length_append, hcl]
 have hcp1 : ∀ ty dc sc, (Builtin.copy_ #[77, 77] ty #[.slice (some ⟨b, i + 1, none⟩) (n - i) dc, .slice (some ⟨b, i, none⟩) (n + 1 - i) sc]).run Tryz.prog w.drew = .ok (goInt (cs.drop i).length) (w.drew.setRow b ((cs ++ rest).take (i + 1) ++ cs.drop i ++ (cs ++ rest).drop (i + 1 + (cs.drop i).length)).toArray) := fun ty dc sc =>
  run_copy_blk w.drew 77 77 ty 118 Tryz.underlying77 hsz b (i + 1) _ _ ⟨b, i, none⟩ _ _ _ 118 (cs.drop i) hb.drew (by rw [hdl]; simp only [Nat.min_def]; split <;> omega) (fun j v hj => by
   rw [Addr.add_lit]
   rw [List.getElem?_drop] at hj
   exact hb.drew.cell (by rw [List.getElem?_append_left (List.getElem?_eq_some_iff.1 hj).1]; exact hj)) (by rw [hal, hdl]; omega) (fun v hv => h1 v (List.mem_of_mem_drop hv))
 have hX : (cs ++ rest).take (i + 1) ++ cs.drop i ++ (cs ++ rest).drop (i + 1 + (cs.drop i).length) = cs.take (i + 1) ++ cs.drop i ++ rest.drop 1 := by
  rw [List.take_append_of_le_length (by omega), hdl, show i + 1 + (n - i) = cs.length + 1 by omega, List.drop_append]
  simp
 rw [hX] at hcp1
 have hb1 : Blk (w.drew.setRow b (cs.take (i + 1) ++ cs.drop i ++ rest.drop 1).toArray) b _ 118 := hb.drew.setRow _
 have hk1 : Blk (w.drew.setRow b (cs.take (i + 1) ++ cs.drop i ++ rest.drop 1).toArray) k [x] tk := hk.drew.setRow_other _ _ hkb
 have ht1 : Touch [b] w (w.drew.setRow b (cs.take (i + 1) ++ cs.drop i ++ rest.drop 1).toArray) := (Touch.refl _ w).drew.setRow _ _ (Or.inl (by simp))
 generalize w.drew.setRow b (cs.take (i + 1) ++ cs.drop i ++ rest.drop 1).toArray = W1 at hcp1 hb1 hk1 ht1
 have hcp2 : ∀ ty dc, (Builtin.copy_ #[77, 77] ty #[.slice (some ⟨b, i, none⟩) (n + 1 - i) dc, .slice (some ⟨k, 0, none⟩) 1 1]).run Tryz.prog W1 = .ok (goInt [x].length) (W1.setRow b ((cs.take (i + 1) ++ cs.drop i ++ rest.drop 1).take i ++ [x] ++ (cs.take (i + 1) ++ cs.drop i ++ rest.drop 1).drop (i + [x].length)).toArray) := fun ty dc =>
  run_copy_blk W1 77 77 ty 118 Tryz.underlying77 hsz b i _ _ ⟨k, 0, none⟩ _ _ _ 118 [x] hb1 (by simp only [Nat.min_def, List.length_singleton]; split <;> omega) (fun j v hj => by
   have : j = 0 := by have := (List.getElem?_eq_some_iff.1 hj).1; simp at this; exact this
   subst this
   exact hk1.cell hj) (by simp [hcl]; omega) (fun v hv => by simp at hv; subst hv; exact hx)
 have hY : (cs.take (i + 1) ++ cs.drop i ++ rest.drop 1).take i ++ [x] ++ (cs.take (i + 1) ++ cs.drop i ++ rest.drop 1).drop (i + [x].length) = cs.take i ++ x :: cs.drop i ++ rest.drop 1 := by
  have e1 : (cs.take (i + 1)).length = i + 1 := by simp; omega
  rw [List.append_assoc (cs.take (i + 1)), List.take_append_of_le_length (l₁ := cs.take (i + 1)) (by omega), List.take_take, List.length_singleton, Nat.min_eq_left (by omega)]
  conv => lhs; arg 2; arg 1; rw [← e1]
  rw [List.drop_left]
  simp
 rw [hY] at hcp2
 have hb2 := hb1.setRow (cs.take i ++ x :: cs.drop i ++ rest.drop 1)
 have ht2 := ht1.setRow b (cs.take i ++ x :: cs.drop i ++ rest.drop 1).toArray (Or.inl (by simp))
 generalize W1.setRow b (cs.take i ++ x :: cs.drop i ++ rest.drop 1).toArray = W2 at hcp2 hb2 ht2
 have HB : Hid (Blk W2 b (cs.take i ++ x :: cs.drop i ++ rest.drop 1) 118 ∧ Touch [b] w W2) := ⟨hb2, ht2⟩
 have HP1 : Hid (∀ ty dc sc, (Builtin.copy_ #[77, 77] ty #[.slice (some ⟨b, i + 1, none⟩) (n - i) dc, .slice (some ⟨b, i, none⟩) (n + 1 - i) sc]).run Tryz.prog w.drew = .ok (goInt (cs.drop i).length) W1) := hcp1
 have HP2 : Hid (∀ ty dc, (Builtin.copy_ #[77, 77] ty #[.slice (some ⟨b, i, none⟩) (n + 1 - i) dc, .slice (some ⟨k, 0, none⟩) 1 1]).run Tryz.prog W1 = .ok (goInt [x].length) W2) := hcp2
 clear hcp1 hcp2 hX hY hb1 hk1 ht1 hb2 ht2 hdl hal
 have hw1 : IntKind.i64.wrap ((i : Int) + 1) = (i : Int) + 1 := by rw [IntKind.wrap_i64]; omega
 have q1 : (0 : Int) ≤ (i : Int) + 1 := by omega
 have q2 : (i : Int) + 1 ≤ (n : Int) + 1 := by omega
 have q3 : ((i : Int) + 1).toNat = i + 1 := by omega
 have q4 : ¬ (cap = i + 1) := by omega
 have q5 : ¬ (cap = i) := by omega
 have q6 : (i : Int) ≤ (n : Int) + 1 := by omega
 go_enter Tryz.func58, Tryz.ntmps58
 go_wp2_with (simp only [hov1])
 go_region_law (refine step_copy_known rfl _ _ 77 77 rfl (.slice (some ⟨b, i + 1, none⟩) (n - i) (cap - (i + 1))) (.slice (some ⟨b, i, none⟩) (n + 1 - i) (cap - i)) (by simp [Act.eval, Act.put]) (by simp [Act.eval, Act.put]) (HP1.out 3 (cap - (i + 1)) (cap - i)) ?_)
 go_wp2_with fail
 rw [HP2.out]
 go_wp2
 go_ret
 exact ⟨rfl, HB.out⟩
set_option maxHeartbeats 1000000 in
set_option maxRecDepth 100000 in
theorem insert_grow (b n cap i k : Nat) (cs rest : List Value) (x : Value) (w : World) (hcl : cs.length = n) (hn : n ≤ 4096) (hin : i < n) (hnc : n ≤ cap) (hroom : cap < n + 1) (_hcap : cap ≤ n + rest.length)
  (hb : Blk w b (cs ++ rest) 118) (hx : x.oneCell' = true) (h1 : ∀ u ∈ cs, u.oneCell' = true) (tk : TypeId) (hk : Blk w k [x] tk) (_hkb : k ≠ b) :
  Calls Tryz.prog 58 #[.slice (some ⟨b, 0, none⟩) n cap, .int .i64 i, .slice (some ⟨k, 0, none⟩) 1 1] w fun e w' => ∃ G rest', e = .returned (.slice (some ⟨w.heap.size, 0, none⟩) (n + 1) G) ∧ n + 1 ≤ G ∧ G ≤ maxLen ∧ G = n + 1 + rest'.length ∧
   Blk w' w.heap.size (cs.take i ++ x :: cs.drop i ++ rest') 118 ∧ Touch [] w w' := by
 have hsz := size_of_info info79
 obtain ⟨i0, hi0, hz0, hzs, hzb⟩ := info_of info79
 have hold : (Builtin.firstCells i0.size i (.slice (some ⟨b, 0, none⟩) i cap)).run Tryz.prog w.drew = .ok (cs.take i).toArray w.drew := by
  rw [hzs]
  exact run_firstCells_some w.drew 1 i ⟨b, 0, none⟩ i cap (cs.take i) (by rw [List.length_take]; omega) (fun j v hj => by
   rw [Addr.add_lit, Nat.zero_add]
   have hj2 := (List.getElem?_eq_some_iff.1 hj).1
   rw [List.length_take] at hj2
   rw [List.getElem?_take, if_pos (by omega)] at hj
   exact hb.drew.cell (by rw [List.getElem?_append_left (by omega)]; exact hj))
 have hkk : (n : Int) + 1 - (i : Int) = ((n + 1 - i : Nat) : Int) := by omega
 have hik : i + (n + 1 - i) = n + 1 := by omega
 have hrz : ∀ ty, (Builtin.append_ #[77, 3] ty #[.slice (some ⟨b, 0, none⟩) i cap, .int .i64 ((n : Int) + 1 - (i : Int))]).run Tryz.prog w =
   .ok (.slice (some ⟨w.heap.size, 0, none⟩) (n + 1) (grownCap w (n + 1) cap 118)) (w.drew.alloc (.cells ((cs.take i).toArray ++ Builtin.zeroCells (Value.pointer none).cells (n + 1 - i) ++ Builtin.zeroCells (Value.pointer none).cells (grownCap w (n + 1) cap 118 - (n + 1))) 118)) := fun ty => by
  have h := Lib.run_append_grow_zeros w 77 3 ty 118 i0 _ .i64 .i64 Tryz.underlying77 Tryz.underlying3 hi0 hz0 (some ⟨b, 0, none⟩) i cap (cs.take i) hold (n + 1 - i) (by omega) (by omega) (by omega) (by omega) (by rw [hzb]; omega) (by rw [hzb, hik]; exact growslice_fits hroom (by omega))
  rw [hik] at h
  rw [hkk]
  exact h
 have hGn := grownCap_ge w (n + 1) cap 118
 have hGm := grownCap_le_maxLen w (n + 1) cap 118 (by unfold maxLen; omega)
 generalize grownCap w (n + 1) cap 118 = G at hrz hGn hGm
 have hz : ∀ m, (Builtin.zeroCells (Value.pointer none).cells m).toList = List.replicate m (.pointer none) := fun m => by
  apply List.ext_getElem
  ·simp [Builtin.zeroCells, Value.cells]
  ·intro j h1 h2
   simp [Builtin.zeroCells, Value.cells, Nat.mod_one]
 have hbN := Blk.newA w.drew ((cs.take i).toArray ++ Builtin.zeroCells (Value.pointer none).cells (n + 1 - i) ++ Builtin.zeroCells (Value.pointer none).cells (G - (n + 1))) _ 118 rfl
 simp only [Array.toList_append, hz] at hbN
 have hb1 := hb.drew.alloc (.cells ((cs.take i).toArray ++ Builtin.zeroCells (Value.pointer none).cells (n + 1 - i) ++ Builtin.zeroCells (Value.pointer none).cells (G - (n + 1))) 118)
 have hk1 := hk.drew.alloc (.cells ((cs.take i).toArray ++ Builtin.zeroCells (Value.pointer none).cells (n + 1 - i) ++ Builtin.zeroCells (Value.pointer none).cells (G - (n + 1))) 118)
 have ht1 : Touch [] w _ := (Touch.refl _ w).drew.alloc (.cells ((cs.take i).toArray ++ Builtin.zeroCells (Value.pointer none).cells (n + 1 - i) ++ Builtin.zeroCells (Value.pointer none).cells (G - (n + 1))) 118)
 generalize w.drew.alloc (.cells ((cs.take i).toArray ++ Builtin.zeroCells (Value.pointer none).cells (n + 1 - i) ++ Builtin.zeroCells (Value.pointer none).cells (G - (n + 1))) 118) = W1 at hrz hbN hb1 hk1 ht1
 rw [show w.drew.heap.size = w.heap.size from rfl] at hbN
 have hbw := hb.lt
 have hkw := hk.lt
 generalize hN : w.heap.size = N at *
 -- copy(s2[i:], v)
 have hcpA : ∀ ty dc, (Builtin.copy_ #[77, 77] ty #[.slice (some ⟨N, i, none⟩) (n + 1 - i) dc, .slice (some ⟨k, 0, none⟩) 1 1]).run Tryz.prog W1 = _ := fun ty dc =>
  run_copy_blk W1 77 77 ty 118 Tryz.underlying77 hsz N i _ _ ⟨k, 0, none⟩ _ _ _ 118 [x] hbN (by simp only [Nat.min_def, List.length_singleton]; split <;> omega) (fun j v hj => by
   have : j = 0 := by have := (List.getElem?_eq_some_iff.1 hj).1; simp at this; exact this
   subst this
   exact hk1.cell hj) (by simp; omega) (fun v hv => by simp at hv; subst hv; exact hx)
 have e1 : (cs.take i).length = i := by simp; omega
 have hA : (cs.take i ++ List.replicate (n + 1 - i) (Value.pointer none) ++ List.replicate (G - (n + 1)) (Value.pointer none)).take i ++ [x] ++ (cs.take i ++ List.replicate (n + 1 - i) (Value.pointer none) ++ List.replicate (G - (n + 1)) (Value.pointer none)).drop (i + [x].length) =
   cs.take i ++ [x] ++ List.replicate (G - (i + 1)) (Value.pointer none) := by
  rw [List.append_assoc (cs.take i), List.replicate_append_replicate, List.take_append_of_le_length (l₁ := cs.take i) (by omega), List.take_take, Nat.min_self, List.drop_append, List.drop_eq_nil_of_le (by simp; omega), List.drop_replicate, e1]
  simp
  omega
 rw [hA] at hcpA
 have hbA := hbN.setRow (cs.take i ++ [x] ++ List.replicate (G - (i + 1)) (Value.pointer none))
 have hb2 := hb1.setRow_other N (cs.take i ++ [x] ++ List.replicate (G - (i + 1)) (Value.pointer none)).toArray (by omega)
 have ht2 := ht1.setRow N (cs.take i ++ [x] ++ List.replicate (G - (i + 1)) (Value.pointer none)).toArray (Or.inr (by omega))
 generalize W1.setRow N (cs.take i ++ [x] ++ List.replicate (G - (i + 1)) (Value.pointer none)).toArray = W2 at hcpA hbA hb2 ht2
 have hdl : (cs.drop i).length = n - i := by rw [List.length_drop, hcl]
 have hcpB : ∀ ty dc sc, (Builtin.copy_ #[77, 77] ty #[.slice (some ⟨N, i + 1, none⟩) (n - i) dc, .slice (some ⟨b, i, none⟩) (n - i) sc]).run Tryz.prog W2.drew = _ := fun ty dc sc =>
  run_copy_blk W2.drew 77 77 ty 118 Tryz.underlying77 hsz N (i + 1) _ _ ⟨b, i, none⟩ _ _ _ 118 (cs.drop i) hbA.drew (by rw [hdl]; simp only [Nat.min_def]; split <;> omega) (fun j v hj => by
   rw [Addr.add_lit]
   rw [List.getElem?_drop] at hj
   exact hb2.drew.cell (by rw [List.getElem?_append_left (List.getElem?_eq_some_iff.1 hj).1]; exact hj)) (by simp; omega) (fun v hv => h1 v (List.mem_of_mem_drop hv))
 have e2 : (cs.take i ++ [x]).length = i + 1 := by simp; omega
 have hB : (cs.take i ++ [x] ++ List.replicate (G - (i + 1)) (Value.pointer none)).take (i + 1) ++ cs.drop i ++ (cs.take i ++ [x] ++ List.replicate (G - (i + 1)) (Value.pointer none)).drop (i + 1 + (cs.drop i).length) =
   cs.take i ++ x :: cs.drop i ++ List.replicate (G - (n + 1)) (Value.pointer none) := by
  rw [List.take_append_of_le_length (by omega), List.take_of_length_le (l := cs.take i ++ [x]) (by omega), List.drop_append, List.drop_eq_nil_of_le (show (cs.take i ++ [x]).length ≤ i + 1 + (cs.drop i).length by omega), List.drop_replicate, e2, hdl, Nat.add_sub_cancel_left, show G - (i + 1) - (n - i) = G - (n + 1) by omega]
  simp
 rw [hB] at hcpB
 have hbB := hbA.drew.setRow (cs.take i ++ x :: cs.drop i ++ List.replicate (G - (n + 1)) (Value.pointer none))
 have ht3 := ht2.drew.setRow N (cs.take i ++ x :: cs.drop i ++ List.replicate (G - (n + 1)) (Value.pointer none)).toArray (Or.inr (by omega))
 generalize W2.drew.setRow N (cs.take i ++ x :: cs.drop i ++ List.replicate (G - (n + 1)) (Value.pointer none)).toArray = W3 at hcpB hbB ht3
 have HB : Hid (Blk W3 N (cs.take i ++ x :: cs.drop i ++ List.replicate (G - (n + 1)) (Value.pointer none)) 118 ∧ Touch [] w W3) := ⟨hbB, ht3⟩
 have HZ := id (show Hid _ from hrz)
 have HA := id (show Hid _ from hcpA)
 have HP := id (show Hid _ from hcpB)
 clear hrz hcpA hcpB hbB ht3 hA hB e1 e2 hdl hbA hb2 ht2 hb1 hk1 ht1 hbN hz hkk hik hold
 unfold maxLen at hGm
 have hw1 : IntKind.i64.wrap ((i : Int) + 1) = (i : Int) + 1 := by rw [IntKind.wrap_i64]; omega
 have q1 : (0 : Int) ≤ (i : Int) + 1 := by omega
 have q2 : (i : Int) + 1 ≤ (n : Int) + 1 := by omega
 have q3 : ((i : Int) + 1).toNat = i + 1 := by omega
 have q5 : ¬ (cap = i) := by omega
 have q6 : (i : Int) ≤ (n : Int) := by omega
 have q7 : ¬ (G = i + 1) := by omega
 have q8 : ¬ (G = i) := by omega
 have q9 : ¬ ((i : Int) = n) := by omega
 go_enter Tryz.func58, Tryz.ntmps58
 go_wp2_with (at_builtin; refine Lib.wpList_append_run _ rfl _ _ _ _ rfl _ _ rfl rfl _ _ (HZ.out _) ?_)
 rw [HA.out]
 go_wp2_with fail
 go_region_law (refine step_copy_known rfl _ _ 77 77 rfl (.slice (some ⟨N, i + 1, none⟩) (n - i) (G - (i + 1))) (.slice (some ⟨b, i, none⟩) (n - i) (cap - i)) (by simp [Act.eval, Act.put]) (by simp [Act.eval, Act.put]) (HP.out 3 (G - (i + 1)) (cap - i)) ?_)
 go_wp2
 go_ret
 exact ⟨G, _, rfl, by omega, by unfold maxLen; omega, by simp; omega, HB.out⟩
theorem insert_any (g : Option Nat) (n cap i k : Nat) (cs : List Value) (x : Value) (w : World) (h : RowAt w 118 1 g n cap cs) (hn : n ≤ 4096) (hi : i ≤ n) (hx : x.oneCell' = true) (h1 : ∀ u ∈ cs, u.oneCell' = true) (tk : TypeId)
  (hk : Blk w k [x] tk) (hkg : ∀ b, g = some b → k ≠ b) :
  Calls Tryz.prog 58 #[slV g n cap, .int .i64 i, .slice (some ⟨k, 0, none⟩) 1 1] w fun e w' => ∃ g' cap', e = .returned (slV g' (n + 1) cap') ∧ RowAt w' 118 1 g' (n + 1) cap' (cs.take i ++ x :: cs.drop i) ∧ Touch g.toList w w' ∧
   (g' = g ∨ g' = some w.heap.size) ∧ (g' = some w.heap.size → w.heap.size < w'.heap.size) := by
 have hcl : cs.length = n := by have := h.1; omega
 by_cases hin : i = n
 ·subst hin
  rw [← hcl, List.take_length, List.drop_length, hcl]
  exact insert_end g i cap k cs x w h hn hx tk hk
 ·cases g with
  | none =>
   have : cap = 0 := h.2.2.2
   have := h.2.1
   omega
  | some b =>
   obtain ⟨h2, h3, h4, rest, hb, hc⟩ := h
   rw [List.length_append, hcl] at hc
   by_cases hroom : n + 1 ≤ cap
   ·refine (insert_shift b n cap i k cs rest x w hcl hn (by omega) hroom (by omega) h4 hb hx h1 tk hk (hkg b rfl)).mono ?_
    rintro e w' ⟨rfl, hb', ht⟩
    have hlt := hb.lt
    refine ⟨some b, cap, rfl, ⟨by simp; omega, hroom, h4, rest.drop 1, hb', by simp; omega⟩, ht, Or.inl rfl, fun e => by injection e with e; omega⟩
   ·refine (insert_grow b n cap i k cs rest x w hcl hn (by omega) h3 (by omega) (by omega) hb hx h1 tk hk (hkg b rfl)).mono ?_
    rintro e w' ⟨G, rest', rfl, hG1, hG2, hG3, hb', ht⟩
    refine ⟨some w.heap.size, G, rfl, ⟨by simp; omega, hG1, hG2, rest', hb', by simp; omega⟩, ht.nil, Or.inr rfl, fun _ => hb'.lt⟩
end Go.Proofs.YtmhhahmjkopjhaaGreat.Mem
end
section
namespace Go.Proofs.YtmhhahmjkopjhaaGreat.Mem
open Go.RowKit
def addE (rs : List Reg) (base size perm : Int) : Int := if mayBeB base size perm = false then 2 else if busyB rs base size = true then 12 else if 4096 ≤ rs.length then 13 else 0
def Own (w : World) (s s' : MS) : Prop := s'.m = s.m ∧ ∀ x ∈ s'.blocks, x ∈ s.blocks ∨ w.heap.size ≤ x
theorem Own.refl (w : World) (s : MS) : Own w s s := ⟨rfl, fun _ hx => Or.inl hx⟩
structure NewReg (r : Reg) (id base size perm : Int) : Prop where
 hid : r.id = id
 hbase : r.base = base
 hperm : r.perm = perm
 hbytes : r.bytes = List.replicate size.toNat 0
 hset : r.set = if perm < 4 then [] else List.replicate size.toNat false
def AddPost (w : World) (s : MS) (base size perm : Int) (e : Ending) (w' : World) : Prop :=
 e = .returned (.tuple #[.int .i64 (if addE s.rs base size perm = 0 then s.next else 0), .int .i64 (addE s.rs base size perm)]) ∧ Touch s.blocks w w' ∧ ∃ s', MemAt w' s' ∧ Own w s s' ∧
  (addE s.rs base size perm ≠ 0 → s' = s) ∧
  (addE s.rs base size perm = 0 → s'.next = s.next + 1 ∧ ∃ i r, i ≤ s.rs.length ∧ s'.rs = s.rs.take i ++ r :: s.rs.drop i ∧ NewReg r s.next base size perm)
theorem AddPost.err {w w' : World} {s : MS} {base size perm : Int} {e : Ending} (h : MemAt w s) (ht : Touch [] w w') (he : addE s.rs base size perm ≠ 0)
  (hv : e = .returned (.tuple #[.int .i64 0, .int .i64 (addE s.rs base size perm)])) : AddPost w s base size perm e w' := by
 refine ⟨by rw [if_neg he]; exact hv, ht.nil, s, h.touch ht (by simp), Own.refl w s, fun _ => rfl, fun h0 => absurd h0 he⟩
theorem MemAt.added {w w' : World} {s : MS} (h : MemAt w s) {r : Reg} {i : Nat} {g' : Option Nat} {cap' : Nat} (hi : i ≤ s.rs.length) (hlen : s.rs.length < 4096)
  (hm : Blk w' s.m [slV g' (s.rs.length + 1) cap', .int .i64 ((s.next + 1 : Nat) : Int)] 79)
  (hrow : RowAt w' 118 1 g' (s.rs.length + 1) cap' ((s.rs.map Reg.ptr).take i ++ r.ptr :: (s.rs.map Reg.ptr).drop i))
  (hold : ∀ x ∈ s.rs, RegAt w' x) (hr : RegAt w' r) (hro : RegOk r) (hid : r.id = s.next)
  (hnew : ∀ x ∈ r.blocks, w.heap.size ≤ x) (hg : g' = s.g ∨ ∃ b, g' = some b ∧ w.heap.size ≤ b ∧ b ∉ r.blocks)
  (hlo : ∀ j, j < i → (s.rs.getD j Reg.zero).base ≤ r.base) (hhi : ∀ j, i ≤ j → j < s.rs.length → r.base < (s.rs.getD j Reg.zero).base) (hbusy : busyB s.rs r.base r.bytes.length = false) :
  MemAt w' ⟨s.m, g', cap', s.rs.take i ++ r :: s.rs.drop i, s.next + 1⟩ := by
 have hlt := h.lt
 have hl : (s.rs.take i ++ r :: s.rs.drop i).length = s.rs.length + 1 := by simp; omega
 have hmem : ∀ x, x ∈ s.rs.take i ++ r :: s.rs.drop i ↔ x = r ∨ x ∈ s.rs := by
  intro x
  rw [List.mem_append, List.mem_cons]
  constructor
  ·rintro (hx | rfl | hx)
   ·exact Or.inr (List.mem_of_mem_take hx)
   ·exact Or.inl rfl
   ·exact Or.inr (List.mem_of_mem_drop hx)
  ·rintro (rfl | hx)
   ·exact Or.inr (Or.inl rfl)
   ·rw [← List.take_append_drop i s.rs, List.mem_append] at hx
    rcases hx with hx | hx
    ·exact Or.inl hx
    ·exact Or.inr (Or.inr hx)
 have hnb : ∀ x ∈ s.rs, ¬ (x.base < r.base + (r.bytes.length : Int) ∧ r.base < x.base + (x.bytes.length : Int)) := by
  intro x hx
  unfold busyB at hbusy
  rw [List.any_eq_false] at hbusy
  simpa using hbusy x hx
 have htake : ∀ x ∈ s.rs.take i, x.base ≤ r.base := by
  intro x hx
  obtain ⟨j, hj, rfl⟩ := List.getElem_of_mem hx
  rw [List.length_take] at hj
  have := hlo j (by omega)
  rw [List.getD_eq_getElem?_getD, List.getElem?_eq_getElem (by omega)] at this
  simpa using this
 have hdrop : ∀ x ∈ s.rs.drop i, r.base < x.base := by
  intro x hx
  obtain ⟨j, hj, rfl⟩ := List.getElem_of_mem hx
  rw [List.length_drop] at hj
  have := hhi (i + j) (by omega) (by omega)
  rw [List.getD_eq_getElem?_getD, List.getElem?_eq_getElem (by omega)] at this
  simpa using this
 refine ⟨?_, ?_, ?_, ?_, ?_, ?_, ?_, ?_, ?_⟩
 ·rw [hl]; exact hm
 ·rw [hl]
  simpa [List.map_append, List.map_take, List.map_drop] using hrow
 ·intro x hx
  rcases (hmem x).1 hx with rfl | hx
  ·exact hr
  ·exact hold x hx
 ·intro x hx
  rcases (hmem x).1 hx with rfl | hx
  ·exact hro
  ·exact h.ok x hx
 ·have hap := h.apart
  have hperm : (s.rs.take i ++ r :: s.rs.drop i).flatMap Reg.blocks |>.Perm (r.blocks ++ s.rs.flatMap Reg.blocks) := by
   have : (s.rs.take i ++ r :: s.rs.drop i).Perm (r :: s.rs) := by
    refine (List.perm_middle).trans ?_
    rw [List.take_append_drop]
   refine (this.flatMap_right _).trans ?_
   rw [List.flatMap_cons]
  have hnd : (s.m :: (g'.toList ++ (r.blocks ++ s.rs.flatMap Reg.blocks))).Nodup := by
   simp only [MS.blocks, List.cons_append, List.nodup_cons, List.nodup_append, List.mem_append] at hap ⊢
   obtain ⟨h1, h2, h3, h4⟩ := hap
   have hmlt := hlt s.m s.mem_m
   have hold2 : ∀ x ∈ s.rs.flatMap Reg.blocks, x < w.heap.size := by
    intro x hx
    obtain ⟨y, hy, hx⟩ := List.mem_flatMap.1 hx
    exact hlt x (s.mem_r hy hx)
   refine ⟨?_, ?_, ⟨hro.own, h3, ?_⟩, ?_⟩
   ·rintro (hx | hx | hx)
    ·rcases hg with rfl | ⟨b, rfl, hb, _⟩
     ·exact h1 (Or.inl hx)
     ·simp at hx; omega
    ·have := hnew _ hx; omega
    ·exact h1 (Or.inr hx)
   ·cases g' <;> simp
   ·intro a ha b hb hab
    have h5 := hnew a ha
    have h6 := hold2 b hb
    omega
   ·intro a ha b hb hab
    subst hab
    rcases hg with rfl | ⟨b, rfl, hbb, hbr⟩
    ·rcases hb with hb | hb
     ·have h5 := hnew a hb
      have h6 := hlt a (s.mem_g (by simpa using ha))
      omega
     ·exact h4 a ha a hb rfl
    ·simp at ha
     subst ha
     rcases hb with hb | hb
     ·exact hbr hb
     ·have := hold2 _ hb; omega
  show (s.m :: g'.toList ++ (s.rs.take i ++ r :: s.rs.drop i).flatMap Reg.blocks).Nodup
  rw [List.cons_append]
  exact ((List.Perm.append_left _ hperm).cons _).nodup_iff.2 hnd
 ·have hsrt := h.sorted
  rw [← List.take_append_drop i s.rs, List.pairwise_append] at hsrt
  rw [List.pairwise_append, List.pairwise_cons]
  refine ⟨hsrt.1, ⟨fun x hx => ?_, hsrt.2.1⟩, fun x hx y hy => ?_⟩
  ·have h1 := hdrop x hx
   have h2 := hnb x (List.mem_of_mem_drop hx)
   have h3 := (h.ok x (List.mem_of_mem_drop hx)).size1
   omega
  ·rcases List.mem_cons.1 hy with rfl | hy
   ·have h1 := htake x hx
    have h2 := hnb x (List.mem_of_mem_take hx)
    have h3 := hro.size1
    omega
   ·exact hsrt.2.2 x hx y hy
 ·have hids := h.ids
  rw [← List.take_append_drop i s.rs, List.pairwise_append] at hids
  rw [List.pairwise_append, List.pairwise_cons]
  refine ⟨hids.1, ⟨fun x hx => ?_, hids.2.1⟩, fun x hx y hy => ?_⟩
  ·have := (h.idlt x (List.mem_of_mem_drop hx)).2
   rw [hid]; omega
  ·rcases List.mem_cons.1 hy with rfl | hy
   ·have := (h.idlt x (List.mem_of_mem_take hx)).2
    rw [hid]; omega
   ·exact hids.2.2 x hx y hy
 ·intro x hx
  rcases (hmem x).1 hx with rfl | hx
  ·rw [hid]; exact ⟨by omega, by show (s.next : Int) < ((s.next + 1 : Nat) : Int); omega⟩
  ·have := h.idlt x hx
   exact ⟨this.1, by show x.id < ((s.next + 1 : Nat) : Int); omega⟩
 ·show (s.rs.take i ++ r :: s.rs.drop i).length ≤ 4096
  omega
set_option maxHeartbeats 2000000 in
set_option maxRecDepth 100000 in
theorem add_any {w : World} {s : MS} (h : MemAt w s) (base size perm : Int) (hb0 : 0 ≤ base) (hb1 : base ≤ 18446744073709551615) (hnext : s.next < 4611686018427387904) :
  Calls Tryz.prog 29 #[.pointer (some ⟨s.m, 0, none⟩), .int .u64 base, .int .i64 size, .int .i64 perm] w (AddPost w s base size perm) := by
 have hmany := h.many
 cases hmb : mayBeB base size perm with
 | false =>
  have he : addE s.rs base size perm = 2 := by unfold addE; rw [if_pos hmb]
  have HF : Hid (AddPost w s base size perm (.returned (.tuple #[.int .i64 0, .int .i64 2])) w) := AddPost.err h (Touch.refl _ w) (by rw [he]; decide) (by rw [he])
  have HM := toHid hmb
  clear h he hmb
  go_enter Tryz.func29, Tryz.ntmps29
  go_wp2_with (go_at_call 54; refine (mayBe_any base size perm _ hb0 hb1).mono ?_; rintro e w ⟨rfl, rfl⟩; rw [HM.out])
  go_ret2
  exact HF.out
 | true =>
  have hb := of_decide_eq_true hmb
  obtain ⟨z, rfl⟩ : ∃ z : Nat, size = z := ⟨size.toNat, by omega⟩
  have HM := toHid hmb
  have hc0 := h.c0
  have hc1 := h.c1
  cases hbusy : busyB s.rs base z with
  | true =>
   have he : addE s.rs base z perm = 12 := by unfold addE; rw [if_neg (by rw [hmb]; decide), if_pos hbusy]
   have HF : ∀ k, Hid (AddPost w s base z perm (.returned (.tuple #[.int .i64 0, .int .i64 12])) (w.drewN k)) := fun k => AddPost.err h ((Touch.refl _ w).drewN k) (by rw [he]; decide) (by rw [he])
   have HB := toHid hbusy
   have HMem := toHid h
   clear h he hmb hbusy
   go_enter Tryz.func29, Tryz.ntmps29
   go_wp2_with (go_at_call 54; refine (mayBe_any base z perm _ hb0 hb1).mono ?_; rintro e w ⟨rfl, rfl⟩; rw [HM.out])
   refine (behind_any HMem.out base).mono ?_
   rintro e w' ⟨⟨i, hi, rfl, hlo, hhi⟩, k, rfl⟩
   have HT := toHid (taken_any (HMem.out.touch ((Touch.refl [] w).drewN k) (by simp)) i z base hb0 (by omega) (by omega) (by omega) hi hlo hhi)
   clear hlo hhi
   go_wp2_with (go_at_call 56; refine HT.out.mono ?_; rintro e w' ⟨rfl, k2, rfl⟩; rw [HB.out])
   go_ret2
   exact (HF _).out
  | false =>
   by_cases hlen : 4096 ≤ s.rs.length
   ·have he : addE s.rs base z perm = 13 := by unfold addE; rw [if_neg (by rw [hmb]; decide), if_neg (by rw [hbusy]; decide), if_pos hlen]
    have HF : ∀ k, Hid (AddPost w s base z perm (.returned (.tuple #[.int .i64 0, .int .i64 13])) (w.drewN k)) := fun k => AddPost.err h ((Touch.refl _ w).drewN k) (by rw [he]; decide) (by rw [he])
    have HB := toHid hbusy
    have HMem := toHid h
    have hl : (4096 : Int) ≤ s.rs.length := by omega
    simp only [slV] at hc0
    clear h he hmb hbusy
    go_enter Tryz.func29, Tryz.ntmps29
    go_wp2_with (go_at_call 54; refine (mayBe_any base z perm _ hb0 hb1).mono ?_; rintro e w ⟨rfl, rfl⟩; rw [HM.out])
    refine (behind_any HMem.out base).mono ?_
    rintro e w' ⟨⟨i, hi, rfl, hlo, hhi⟩, k, rfl⟩
    have HT := toHid (taken_any (HMem.out.touch ((Touch.refl [] w).drewN k) (by simp)) i z base hb0 (by omega) (by omega) (by omega) hi hlo hhi)
    clear hlo hhi
    go_wp2_with (go_at_call 56; refine HT.out.mono ?_; rintro e w' ⟨rfl, k2, rfl⟩; rw [HB.out])
    go_ret2
    exact (HF _).out
   ·have he : addE s.rs base z perm = 0 := by unfold addE; rw [if_neg (by rw [hmb]; decide), if_neg (by rw [hbusy]; decide), if_neg hlen]
    have HB := toHid hbusy
    have HMem := toHid h
    have HE := toHid he
    simp only [slV] at hc0
    clear h he hmb hbusy
    go_enter Tryz.func29, Tryz.ntmps29
    go_wp2_with (go_at_call 54; refine (mayBe_any base z perm _ hb0 hb1).mono ?_; rintro e w ⟨rfl, rfl⟩; rw [HM.out])
    refine (behind_any HMem.out base).mono ?_
    rintro e w' ⟨⟨i, hi, rfl, hlo, hhi⟩, k, rfl⟩
    have HT := toHid (taken_any (HMem.out.touch ((Touch.refl [] w).drewN k) (by simp)) i z base hb0 (by omega) (by omega) (by omega) hi hlo hhi)
    have HLO := toHid hlo
    have HHI := toHid hhi
    clear hlo hhi
    go_wp2_with (go_at_call 56; refine HT.out.mono ?_; rintro e w' ⟨rfl, k2, rfl⟩; rw [HB.out])
    have H1 := toHid (newRegion_any s.next base perm z (w.drewN (k + k2)) (by omega) (by omega) (by omega) (by omega) hb0 (by omega))
    refine H1.out.mono ?_
    rintro e w1 ⟨r, rfl, hrA, hrO, hrid, hrb, hrp, hrby, hrs, ht1, hrn⟩
    clear H1 HT hc0 hc1
    have hM1 : MemAt w1 s := HMem.out.touch (((Touch.refl [] w).drewN (k + k2)).trans ht1 (by simp)) (by simp)
    have hc0 := hM1.c0
    simp only [slV] at hc0
    -- the variadic argument's own block
    have hk := Blk.newA w1 #[r.ptr] [r.ptr] 118 rfl
    have ht2 : Touch [] w1 (w1.alloc (.cells #[r.ptr] 118)) := (Touch.refl _ w1).alloc _
    have hM2 := hM1.touch ht2 (by simp)
    have H2 := toHid (insert_any s.g s.rs.length s.cap i w1.heap.size (s.rs.map Reg.ptr) r.ptr (w1.alloc (.cells #[r.ptr] 118)) hM2.row hmany hi rfl (fun u hu => by obtain ⟨x, _, rfl⟩ := List.mem_map.1 hu; rfl) 118 hk (fun b hb => by have := hM1.lt b (s.mem_g hb); omega))
    unfold Reg.ptr at H2 ⊢
    go_wp2_with fail
    refine H2.out.mono ?_
    rintro e w3 ⟨g', cap', rfl, hrow, ht3, hg', hg2⟩
    have hlt1 := hM1.lt
    have hmg : s.m ∉ s.g.toList := by
     have := hM1.apart
     simp only [MS.blocks, List.cons_append, List.nodup_cons, List.mem_append] at this
     exact fun hh => this.1 (Or.inl hh)
    have hm3 := ht3.blk hM2.self hmg
    have e0 : w3.cell? ⟨s.m, 0, none⟩ = some _ := hm3.cell rfl
    have e1 : w3.cell? ⟨s.m, 1, none⟩ = some _ := hm3.cell rfl
    have f0 := hm3.frozen 0
    have f1 := hm3.frozen 1
    have hrg : ∀ x ∈ r.blocks, x ∉ s.g.toList := fun x hx hh => by
     have h5 := hrn x hx
     have h6 := HMem.out.lt x (s.mem_g (by simpa using hh))
     simp at h5
     omega
    have hrA3 : RegAt w3 r := (hrA.touch ht2 (by simp)).touch ht3 hrg
    have r0 := hrA3.c0
    have hne : ¬ r.p = s.m := fun hh => by
     have h5 := hrn r.p r.mem_p
     have h6 := HMem.out.lt s.m s.mem_m
     simp at h5
     omega
    have hne2 : ¬ s.m = r.p := fun hh => hne hh.symm
    clear H2 hc0
    simp only [slV]
    go_wp2
    go_ret2
    show AddPost w s base z perm (.returned (.tuple #[.int .i64 s.next, .int .i64 0])) ((w3.setCell ⟨s.m, 0, none⟩ (slV g' (s.rs.length + 1) cap')).setCell ⟨s.m, 1, none⟩ (.int .i64 ((s.next : Int) + 1)))
    have hm4 := (hm3.setCell 0 (slV g' (s.rs.length + 1) cap')).setCell 1 (.int .i64 ((s.next : Int) + 1))
    have ht34 : Touch [s.m] w3 ((w3.setCell ⟨s.m, 0, none⟩ (slV g' (s.rs.length + 1) cap')).setCell ⟨s.m, 1, none⟩ (.int .i64 ((s.next : Int) + 1))) :=
     ((Touch.refl _ w3).setCell _ _ (Or.inl (by simp))).setCell _ _ (Or.inl (by simp))
    generalize (w3.setCell ⟨s.m, 0, none⟩ (slV g' (s.rs.length + 1) cap')).setCell ⟨s.m, 1, none⟩ (.int .i64 ((s.next : Int) + 1)) = W4 at hm4 ht34
    clear e0 e1 f0 f1 r0
    have hsz1 : w.heap.size ≤ w1.heap.size := by simpa using ht1.size
    have hmw : s.m < w.heap.size := HMem.out.lt s.m s.mem_m
    have hap := HMem.out.apart
    simp only [MS.blocks, List.cons_append, List.nodup_cons, List.mem_append, List.nodup_append] at hap
    have hrm : ∀ x ∈ r.blocks, x ∉ [s.m] := fun x hx hh => by
     have h5 := hrn x hx
     simp at hh h5
     omega
    have hg4 : ∀ b, g' = some b → b ∉ [s.m] := fun b hb hh => by
     simp at hh
     subst hh
     rcases hg' with rfl | rfl
     ·exact hmg (by simp [hb])
     ·injection hb with hb
      simp at hb
      omega
    have hrA4 : RegAt W4 r := hrA3.touch ht34 hrm
    have hold : ∀ x ∈ s.rs, RegAt W4 x := fun x hx => by
     refine ((hM2.regs x hx).touch ht3 (fun y hy hh => ?_)).touch ht34 (fun y hy hh => ?_)
     ·exact hap.2.2.2 y hh y (List.mem_flatMap.2 ⟨x, hx, hy⟩) rfl
     ·simp at hh
      subst hh
      exact hap.1 (Or.inr (List.mem_flatMap.2 ⟨x, hx, hy⟩))
    have hg5 : g' = s.g ∨ ∃ b, g' = some b ∧ w.heap.size ≤ b ∧ b ∉ r.blocks := by
     rcases hg' with hh | hh
     ·exact Or.inl hh
     ·refine Or.inr ⟨_, hh, by simp; omega, fun hx => ?_⟩
      have := hrA.lt _ hx
      simp at this
      omega
    have hadd : MemAt W4 ⟨s.m, g', cap', s.rs.take i ++ r :: s.rs.drop i, s.next + 1⟩ := MemAt.added HMem.out hi (by omega) hm4 (hrow.touch ht34 hg4) hold hrA4 hrO hrid
     (fun x hx => by simpa using hrn x hx) hg5 (by rw [hrb]; exact HLO.out) (by rw [hrb]; exact HHI.out) (by rw [hrb, hrby]; simpa using HB.out)
    have ht4 : Touch s.blocks w W4 := by
     refine Touch.trans (b := w3) ?_ ht34 (fun x hx => Or.inl ?_)
     ·refine Touch.trans (b := w1.alloc (.cells #[r.ptr] 118)) ?_ ht3 (fun x hx => Or.inl (s.mem_g (by simpa using hx)))
      exact ((((Touch.refl [] w).drewN (k + k2)).trans ht1 (by simp)).trans ht2 (by simp)).nil
     ·simp at hx
      rw [hx]
      exact s.mem_m
    refine ⟨by rw [HE.out]; rfl, ht4, _, hadd, ⟨rfl, fun x hx => ?_⟩, fun hh => absurd HE.out hh, fun _ => ⟨rfl, i, r, hi, rfl, ⟨hrid, hrb, hrp, by rw [hrby]; simp, by rw [hrs]; simp⟩⟩⟩
    simp only [MS.blocks, List.cons_append, List.mem_cons, List.mem_append, List.mem_flatMap] at hx ⊢
    rcases hx with hx | hx | ⟨y, (hy | rfl | hy), hx⟩
    ·exact Or.inl (Or.inl hx)
    ·rcases hg5 with rfl | ⟨b, rfl, hb, _⟩
     ·exact Or.inl (Or.inr (Or.inl hx))
     ·simp at hx
      subst hx
      exact Or.inr hb
    ·exact Or.inl (Or.inr (Or.inr ⟨y, List.mem_of_mem_take hy, hx⟩))
    ·exact Or.inr (by simpa using hrn x hx)
    ·exact Or.inl (Or.inr (Or.inr ⟨y, List.mem_of_mem_drop hy, hx⟩))
end Go.Proofs.YtmhhahmjkopjhaaGreat.Mem
end
section
namespace Go.Proofs.YtmhhahmjkopjhaaGreat.Mem
open Go.RowKit
set_option maxHeartbeats 400000 in
theorem count_any {w : World} {s : MS} (h : MemAt w s) : Calls Tryz.prog 9 #[.pointer (some ⟨s.m, 0, none⟩)] w fun e w' => e = .returned (.int .i64 s.rs.length) ∧ w' = w := by
 have hc0 := h.c0
 simp only [slV] at hc0
 clear h
 go_enter Tryz.func9, Tryz.ntmps9
 go_wp2
 go_ret
 exact ⟨rfl, rfl⟩
set_option maxHeartbeats 1000000 in
set_option maxRecDepth 100000 in
theorem find_any {w : World} {s : MS} (h : MemAt w s) (addr : Int) (ha0 : 0 ≤ addr) (ha1 : addr ≤ 18446744073709551615) :
  Calls Tryz.prog 92 #[.pointer (some ⟨s.m, 0, none⟩), .int .u64 addr] w fun e w' => e = .returned (match findR s.rs addr with
   | none => .tuple #[.int .i64 0, .int .i64 0, .bool false]
   | some r => .tuple #[.int .i64 r.id, .int .i64 (addr - r.base), .bool true]) ∧ ∃ k, w' = w.drewN k := by
 have hH := holder_any h addr ha0 ha1
 cases hf : findR s.rs addr with
 | none =>
  rw [hf] at hH
  have HH := toHid hH
  clear hH h hf
  go_enter Tryz.func92, Tryz.ntmps92
  go_wp2_with (go_at_call 93; refine HH.out.mono ?_; rintro e w' ⟨rfl, k, rfl⟩; simp only [holderV])
  go_ret3
  exact ⟨rfl, _, rfl⟩
 | some r =>
  rw [hf] at hH
  have hc0 := (h.regs r (findR_mem hf).1).c0
  have HH := toHid hH
  clear hH h hf
  go_enter Tryz.func92, Tryz.ntmps92
  go_wp2_with (go_at_call 93; refine HH.out.mono ?_; rintro e w' ⟨rfl, k, rfl⟩; simp only [holderV])
  go_ret3
  exact ⟨rfl, _, rfl⟩
def idxR (rs : List Reg) (id : Int) : Int := match rs.findIdx? (fun r => r.id == id) with
 | some i => i
 | none => -1
end Go.Proofs.YtmhhahmjkopjhaaGreat.Mem
end
section
namespace Go.Proofs.YtmhhahmjkopjhaaGreat
open Go.RowKit
structure PBoth (w : World) (x : PT) (s : Mem.MS) : Prop where
 tab : PTAt w x
 mem : Mem.MemAt w s
 at_ : x.mem = s.m
 apart : ∀ b ∈ x.blocks, b ∉ s.blocks
theorem PBoth.still {w w' : World} {x : PT} {s : Mem.MS} (h : PBoth w x s) (ht : Touch [] w w') : PBoth w' x s := ⟨h.tab.still ht, h.mem.touch ht (by simp), h.at_, h.apart⟩
theorem PBoth.step {w w2 : World} {x x1 : PT} {s : Mem.MS} {qs : List PX} (h : PBoth w x s) (st : PStep w w2 x x1 qs) : PBoth w2 x1 s := by
 have hlt : ∀ b ∈ s.blocks, b < w.heap.size := h.mem.lt
 refine ⟨st.at_, h.mem.touch st.touch (fun b hb hx => h.apart b hx hb), by rw [st.mem]; exact h.at_, fun b hb hx => ?_⟩
 rcases st.blocks b hb with h1 | h1
 ·exact h.apart b h1 hx
 ·have := hlt b hx
  omega
theorem PBoth.over {w w2 : World} {x : PT} {s s' : Mem.MS} (h : PBoth w x s) (hm : Mem.MemAt w2 s') (hs : s'.m = s.m) (hb : ∀ b ∈ s'.blocks, b ∈ s.blocks ∨ w.heap.size ≤ b) (ht : Touch s.blocks w w2) : PBoth w2 x s' :=
 ⟨h.tab.touch ht (fun b hx => h.apart b hx), hm, by rw [hs]; exact h.at_, fun b hx hy => by
  rcases hb b hy with h1 | h1
  ·exact h.apart b hx h1
  ·have := h.tab.lt b hx
   omega⟩
theorem busy_find {rs : List Mem.Reg} {p n : Int} (h1 : ∀ r ∈ rs, 1 ≤ r.bytes.length) (hn : 1 ≤ n) : Mem.busyB rs p n = false ↔ ∀ j : Int, 0 ≤ j → j < n → Mem.findR rs (p + j) = none := by
 constructor
 ·intro hb j h0 hj
  refine Mem.findR_none fun r hr => ?_
  cases hh : Mem.hasB r (p + j) with
  | false => rfl
  | true =>
   unfold Mem.hasB at hh
   have := of_decide_eq_true hh
   rw [Mem.busy_of hr (by omega) (by omega)] at hb
   cases hb
 ·intro hf
  cases hb : Mem.busyB rs p n with
  | false => rfl
  | true =>
   unfold Mem.busyB at hb
   rw [List.any_eq_true] at hb
   obtain ⟨r, hr, hb⟩ := hb
   have hb := of_decide_eq_true hb
   have hl := h1 r hr
   have h9 := hf (if p ≤ r.base then r.base - p else 0) (by split <;> omega) (by split <;> omega)
   unfold Mem.findR at h9
   rw [List.find?_eq_none] at h9
   have h8 := h9 r hr
   unfold Mem.hasB at h8
   simp only [decide_eq_true_eq] at h8
   split at h8 <;> omega
set_option maxHeartbeats 2000000 in
set_option maxRecDepth 100000 in
theorem isFree_any {w : World} {x : PT} {s : Mem.MS} (h : PBoth w x s) (p : Int) (n : Nat) (p0 : 0 ≤ p) (n1 : 1 ≤ n) (n2 : n ≤ 64) (hp : p + n ≤ 18446744073709551616) :
  Calls Tryz.prog 77 #[.pointer (some ⟨x.t, 0, none⟩), .int .u64 p, .int .i64 (n : Int)] w fun e w' => e = .returned (.bool (!Mem.busyB s.rs p n)) ∧ ∃ k, w' = w.drewN k := by
 have HH := toHid h
 have hB := busy_find (rs := s.rs) (p := p) (n := n) (fun r hr => (h.mem.ok r hr).size1) (by omega)
 have HYes : Hid (∀ j : Nat, j < n → (Mem.findR s.rs (p + j)).isSome = true → Mem.busyB s.rs p n = true) := fun j hj hs => by
  cases hb : Mem.busyB s.rs p n with
  | true => rfl
  | false =>
   rw [hB.1 hb j (by omega) (by omega)] at hs
   cases hs
 have HNo : Hid ((∀ j : Nat, j < n → Mem.findR s.rs (p + j) = none) → Mem.busyB s.rs p n = false) := fun hf => hB.2 (fun j h0 hj => by
  have := hf j.toNat (by omega)
  rwa [Int.toNat_of_nonneg h0] at this)
 have c0 : ∀ k, (w.drewN k).cell? ⟨x.t, 0, none⟩ = some (.pointer (some ⟨s.m, 0, none⟩)) := fun k => by
  have := ((h.still ((Touch.refl [] w).drewN k)).tab).c0
  rwa [h.at_] at this
 clear h hB
 go_enter Tryz.func77, Tryz.ntmps77
 go_wp2_with fail
 go_loopw [12] (fun t w' => ∃ k : Nat, k ≤ n ∧ t = .int .i64 k ∧ (∃ q, w' = w.drewN q) ∧ Hid (∀ j : Nat, j < k → Mem.findR s.rs (p + j) = none)) (fun t _ => n - (intOf t).toNat)
 case atStart => exact ⟨0, by omega, rfl, ⟨0, rfl⟩, fun j hj => by omega⟩
 case round =>
  obtain ⟨k, hk, rfl, ⟨q, rfl⟩, HI⟩ := hrel
  by_cases hlt : k < n
  ·have w1 : IntKind.u64.wrap (k : Int) = k := by rw [IntKind.wrap_u64]; omega
   have w2 : IntKind.u64.wrap (p + (k : Int)) = p + k := by rw [IntKind.wrap_u64]; omega
   have H1 := toHid (fun d => Mem.find_any (HH.out.still ((Touch.refl [] w).drewN d)).mem (p + (k : Int)) (by omega) (by omega))
   have d0 := c0 q
   cases hf : Mem.findR s.rs (p + (k : Int)) with
   | none =>
    simp only [hf] at H1
    have HN : Hid (∀ j : Nat, j < k + 1 → Mem.findR s.rs (p + j) = none) := fun j hj => by
     by_cases e : j = k
     ·rw [e]; exact hf
     ·exact HI.out j (by omega)
    clear c0 hf HI
    go_wp2_with fail
    refine Calls.mono (H1.out _) ?_
    rintro e w' ⟨rfl, d, rfl⟩
    rw [World.drewN_drewN]
    clear d0
    go_wp2
    exact ⟨⟨k + 1, by omega, by go_num, ⟨_, rfl⟩, HN⟩, by simp [intOf]; omega⟩
   | some r =>
    simp only [hf] at H1
    have hv := toHid (HYes.out k hlt (by rw [hf]; rfl))
    clear c0 hf HI
    go_wp2_with fail
    refine Calls.mono (H1.out _) ?_
    rintro e w' ⟨rfl, d, rfl⟩
    rw [World.drewN_drewN]
    clear d0
    go_wp2
    go_ret
    exact ⟨by rw [hv.out]; rfl, _, rfl⟩
  ·obtain rfl : k = n := by omega
   have hv := toHid (HNo.out HI.out)
   clear c0
   go_wp2
   go_ret
   exact ⟨by rw [hv.out]; rfl, _, rfl⟩
def maxSum (ds : List MDef) : Int := (ds.map MDef.max).sum
theorem maxSum_snoc (ds : List MDef) (k : Nat) (d : MDef) (h : ds[k]? = some d) : maxSum (ds.take (k + 1)) = maxSum (ds.take k) + d.max := by
 unfold maxSum
 rw [List.take_add_one, h]
 simp
theorem maxSum_bd (ds : List MDef) (h : ∀ d ∈ ds, 0 ≤ d.max ∧ d.max ≤ 64) : 0 ≤ maxSum ds ∧ maxSum ds ≤ 64 * ds.length := by
 unfold maxSum
 induction ds with
 | nil => simp
 | cons d ds ih =>
  have h1 := h d (by simp)
  have h2 := ih (fun d' hd => h d' (by simp [hd]))
  simp only [List.map_cons, List.sum_cons, List.length_cons]
  omega
def FreeAll (ds : List MDef) (rs : List Mem.Reg) (n : Nat) : Prop := ∀ (i : Nat) (d : MDef), i < n → ds[i]? = some d → ∀ s : Nat, (s : Int) < d.max → Mem.busyB rs (plI i s) d.val = false
def BoxCells (m : PMap) : Array Value := #[.int .i64 m.d.kind, .int .i64 m.d.key, .int .i64 m.d.val, .int .i64 m.d.max, ixV m.d.kind m.X]
def roomOk (ds : List MDef) (rs : List Mem.Reg) : Prop := FreeAll ds rs ds.length ∧ (rs.length : Int) + maxSum ds ≤ 4096
set_option maxHeartbeats 4000000 in
set_option maxRecDepth 100000 in
theorem hasRoom_any {w : World} {x : PT} {s : Mem.MS} (h : PBoth w x s) (hmx : ∀ m ∈ x.maps, 1 ≤ m.d.max ∧ m.d.max ≤ 64) :
  Calls Tryz.prog 46 #[.pointer (some ⟨x.t, 0, none⟩)] w fun e w' => (∃ b, e = .returned (.bool b) ∧ (b = true ↔ roomOk x.ds s.rs)) ∧ Touch [] w w' := by
 have hz := (zero_of_info (P := Tryz.prog) zero89).1
 have hsz := (zero_of_info (P := Tryz.prog) zero89).2
 have H0 := toHid (Mem.count_any h.mem)
 have HH := toHid (And.intro h hmx)
 have hmany := h.tab.many
 have c0 := h.tab.c0
 have c1 := h.tab.c1
 rw [h.at_] at c0
 unfold slV at c1
 have hlen := h.mem.many
 have hds : x.ds.length = x.maps.length := by simp [PT.ds]
 have hbd : ∀ k, 0 ≤ maxSum (x.ds.take k) ∧ maxSum (x.ds.take k) ≤ 512 := fun k => by
  have h1 := maxSum_bd (x.ds.take k) (fun d hd => by
   obtain ⟨m, hm, rfl⟩ := List.mem_map.1 (List.mem_of_mem_take hd)
   have := hmx m hm
   omega)
  have h2 : (x.ds.take k).length ≤ 8 := by rw [List.length_take]; omega
  omega
 have HBD := toHid hbd
 have HDS := toHid hds
 generalize hsg : (x.g.map fun b => (⟨b, 0, none⟩ : Addr)) = sg at *
 have HG := toHid hsg
 generalize hL : x.maps.length = L at *
 have HL := toHid hL
 generalize hR : s.rs.length = R at *
 have HR := toHid hR
 clear h hmx hbd hds hsg hL hR
 go_enter Tryz.func46, Tryz.ntmps46
 go_wp2_with fail
 refine Calls.mono H0.out ?_
 rintro e w ⟨rfl, rfl⟩
 go_wp2_with fail
 go_loopw [3, 17] (fun c t w' => ∃ k : Nat, k ≤ L ∧ t = .int .i64 k ∧ c = .int .i64 (R + maxSum (x.ds.take k)) ∧ Hid (Touch [] w w' ∧ FreeAll x.ds s.rs k)) (fun _ t _ => L - (intOf t).toNat)
 case atStart => exact ⟨0, by omega, rfl, by simp [maxSum], Touch.refl _ _, fun i d hi => by omega⟩
 case round =>
  obtain ⟨k, hk, rfl, rfl, HI⟩ := hrel
  by_cases hlt : k < L
  ·obtain ⟨m, hm⟩ : ∃ m, x.maps[k]? = some m := ⟨_, List.getElem?_eq_getElem (by rw [HL.out]; exact hlt)⟩
   have hmem := List.mem_of_getElem? hm
   have hB := HH.out.1.still HI.out.1
   obtain ⟨gb, hg⟩ := hB.tab.some_g hm
   have hsg := HG.out
   rw [hg, Option.map_some] at hsg
   subst hsg
   obtain ⟨b0, b1, b2, b3, b4⟩ := hB.tab.boxed hm hg
   have hmk := HH.out.2 m hmem
   have hok := hB.tab.ok m hmem
   have hdk : x.ds[k]? = some m.d := by unfold PT.ds; rw [List.getElem?_map, hm]; rfl
   have hsum := maxSum_snoc x.ds k m.d hdk
   have hbd1 := HBD.out k
   have hbd2 := HBD.out (k + 1)
   have hm1 := hok.v1
   have hm2 := hok.v2
   obtain ⟨V, hV⟩ : ∃ V : Nat, m.d.val = V := Int.eq_ofNat_of_zero_le (by omega)
   obtain ⟨M, hM⟩ : ∃ M : Nat, m.d.max = M := Int.eq_ofNat_of_zero_le (by omega)
   have HBX : Hid (∀ o, Touch [] wr (wr.alloc o)) := fun o => (Touch.refl [] wr).alloc o
   have hNB := Blk.newA wr (BoxCells m) _ 89 rfl
   have HNB := toHid hNB
   have HM := toHid (And.intro hm (And.intro hdk (And.intro hV hM)))
   have HB := toHid hB
   have hk8 : k < 8 := by omega
   rw [hV] at b2 hm1 hm2
   rw [hM] at b3 hmk hsum
   have HC : Hid (∀ w', Touch [] (wr.alloc (.cells (BoxCells m) 89)) w' → w'.cell? ⟨wr.heap.size, 2, none⟩ = some (.int .i64 (V : Int)) ∧ w'.cell? ⟨wr.heap.size, 3, none⟩ = some (.int .i64 (M : Int))) := fun w' ht => by
    have h1 := ht.blk hNB (by simp)
    rw [← hV, ← hM]
    exact ⟨h1.cell rfl, h1.cell rfl⟩
   have HT := toHid HI.out.1
   have HFA := toHid HI.out.2
   unfold BoxCells ixV at HC
   unfold ixV at b4
   generalize typF m.d.kind = ty at *
   generalize m.X = X at *
   generalize m.d.kind = kd at *
   generalize m.d.key = ky at *
   rw [hV, hM] at HC
   have HSUM := toHid hsum
   have w1 : IntKind.i64.wrap ((R : Int) + maxSum (x.ds.take k) + M) = R + maxSum (x.ds.take (k + 1)) := by rw [IntKind.wrap_i64]; omega
   have c3 := (HC.out _ (Touch.refl _ _)).2
   clear hB hmem hok hdk hNB hm hV hM HI hg hsum c0 c1 HNB
   generalize hwb : wr.alloc (.cells #[.int .i64 kd, .int .i64 ky, .int .i64 (V : Int), .int .i64 (M : Int), .iface ty (.pointer (some ⟨X, 0, none⟩))] 89) = wb at *
   have HWB := toHid hwb
   go_wp2_with fail
   clear hwb b0 b1 b2 b3 b4 c3
   have HTB : Hid (Touch [] wr wb) := by rw [← HWB.out]; exact HBX.out _
   have hM64 : M ≤ 64 := by omega
   go_loopw [30] (fun t w' => ∃ q : Nat, q ≤ M ∧ t = .int .i64 q ∧ Hid (Touch [] wb w' ∧ ∀ i : Nat, i < q → Mem.busyB s.rs (plI k i) V = false)) (fun t _ => M - (intOf t).toNat)
   case atStart => exact ⟨0, by omega, rfl, Touch.refl _ _, fun i hi => by omega⟩
   case round =>
    obtain ⟨q, hq, rfl, HJ⟩ := hrel
    obtain ⟨c2, c3⟩ := HC.out _ HJ.out.1
    by_cases hqt : q < M
    ·have hB2 := HB.out.still (HTB.out.trans HJ.out.1 (by simp))
     have HP := toHid (fun d => place_any (wr.drewN d) k q hk8 (by omega))
     have HF := toHid (fun d => isFree_any (hB2.still ((Touch.refl [] wr).drewN d)) (plI k q) V (by unfold plI; omega) (by omega) (by omega) (by unfold plI; omega))
     have hkx : (k : Int) = k := rfl
     have HNx : Hid (Mem.busyB s.rs (plI k q) V = false → ∀ n, Touch [] wb (wr.drewN n) ∧ ∀ i : Nat, i < q + 1 → Mem.busyB s.rs (plI k i) V = false) := fun hb n => ⟨HJ.out.1.drewN n, fun i hi => by
      by_cases e : i = q
      ·rw [e]; exact hb
      ·exact HJ.out.2 i (by omega)⟩
     have HBad : Hid (Mem.busyB s.rs (plI k q) V = true → ¬ roomOk x.ds s.rs) := fun hb hr => by
      obtain ⟨_, hdk, hV, hM⟩ := HM.out
      have h9 := hr.1 k m.d (by rw [HDS.out]; exact hlt) hdk q (by rw [hM]; omega)
      rw [hV, hb] at h9
      cases h9
     have HTT : Hid (∀ n, Touch [] w (wr.drewN n)) := fun n => ((HT.out.trans HTB.out (by simp)).trans HJ.out.1 (by simp)).drewN n
     generalize Mem.busyB s.rs (plI k q) V = fb at *
     generalize plI k q = pl at *
     clear hB2 HJ c3 HC
     cases fb with
     | true =>
      have HBad := toHid (HBad.out rfl)
      clear HNx
      go_wp2_with fail
      go_quiet (first | (go_at_call 42; refine Calls.quiet_of_same (HP.out _)) | (go_at_call 77; refine Calls.quiet_of (HF.out _)))
      go_wp2
      go_ret
      exact ⟨⟨false, rfl, by simpa using HBad.out⟩, HTT.out _⟩
     | false =>
      clear HBad HTT
      go_wp2_with fail
      go_quiet (first | (go_at_call 42; refine Calls.quiet_of_same (HP.out _)) | (go_at_call 77; refine Calls.quiet_of (HF.out _)))
      go_wp2
      exact ⟨⟨q + 1, by omega, by go_num, (HNx.out trivial _)⟩, by simp [intOf]; omega⟩
    ·obtain rfl : q = M := by omega
     have HNx : Hid (Touch [] w wr ∧ FreeAll x.ds s.rs (k + 1)) := ⟨(HT.out.trans HTB.out (by simp)).trans HJ.out.1 (by simp), fun i d hi hd u hu => by
      by_cases e : i = k
      ·subst e
       obtain ⟨_, hdk, hV, hM⟩ := HM.out
       rw [hdk] at hd
       injection hd with hd
       subst hd
       rw [hV]
       exact HJ.out.2 u (by omega)
      ·exact HFA.out i d (by omega) hd u hu⟩
     clear HC HJ
     go_wp2
     exact ⟨⟨k + 1, by omega, by go_num, rfl, HNx⟩, by simp [intOf]; omega⟩
  ·obtain rfl : L = k := by omega
   have hbd1 := HBD.out L
   have hT : x.ds.take L = x.ds := by rw [← HDS.out]; exact List.take_length
   have HR2 : Hid ((decide (R + maxSum (x.ds.take L) ≤ 4096) = true ↔ roomOk x.ds s.rs)) := by
    show _ ↔ _
    rw [decide_eq_true_iff, hT, ← HR.out]
    exact ⟨fun hh => ⟨by rw [HDS.out]; exact HI.out.2, hh⟩, fun hh => hh.2⟩
   have HT := toHid HI.out.1
   clear HI c0 c1 hT
   go_wp2
   go_ret
   exact ⟨⟨_, rfl, HR2.out⟩, HT.out⟩
end Go.Proofs.YtmhhahmjkopjhaaGreat
end
section
namespace Go.Proofs.YtmhhahmjkopjhaaGreat
open Go.RowKit
def PAdds : List (Int × Int) → List Mem.Reg × Nat → List Mem.Reg × Nat → Prop
 | [], a, b => b = a
 | p :: ps, a, b => ∃ (i : Nat) (r : Mem.Reg), i ≤ a.1.length ∧ Mem.RegOk r ∧ Mem.NewReg r a.2 p.1 p.2 3 ∧ PAdds ps (a.1.take i ++ r :: a.1.drop i, a.2 + 1) b
theorem PAdds.snoc {ps : List (Int × Int)} {p : Int × Int} : ∀ {a b : List Mem.Reg × Nat}, PAdds ps a b → ∀ {i : Nat} {r : Mem.Reg}, i ≤ b.1.length → Mem.RegOk r → Mem.NewReg r b.2 p.1 p.2 3 → PAdds (ps ++ [p]) a (b.1.take i ++ r :: b.1.drop i, b.2 + 1) := by
 induction ps with
 | nil =>
  intro a b h i r hi ho hn
  have h : b = a := h
  subst h
  exact ⟨i, r, hi, ho, hn, rfl⟩
 | cons q ps ih =>
  intro a b h i r hi ho hn
  obtain ⟨j, r2, h1, h2, h3, h4⟩ := h
  exact ⟨j, r2, h1, h2, h3, ih h4 hi ho hn⟩
theorem mem_put {rs : List Mem.Reg} {i : Nat} {r : Mem.Reg} (y : Mem.Reg) : y ∈ rs.take i ++ r :: rs.drop i ↔ y = r ∨ y ∈ rs := by
 rw [List.mem_append, List.mem_cons]
 constructor
 ·rintro (hx | rfl | hx)
  ·exact Or.inr (List.mem_of_mem_take hx)
  ·exact Or.inl rfl
  ·exact Or.inr (List.mem_of_mem_drop hx)
 ·rintro (rfl | hx)
  ·exact Or.inr (Or.inl rfl)
  ·rw [← List.take_append_drop i rs, List.mem_append] at hx
   rcases hx with hx | hx
   ·exact Or.inl hx
   ·exact Or.inr (Or.inr hx)
theorem PAdds.facts {ps : List (Int × Int)} : ∀ {a b : List Mem.Reg × Nat}, PAdds ps a b → b.1.length = a.1.length + ps.length ∧ b.2 = a.2 + ps.length ∧ (∀ r ∈ a.1, r ∈ b.1) ∧ (∀ p ∈ ps, ∃ r ∈ b.1, ∃ id, Mem.RegOk r ∧ Mem.NewReg r id p.1 p.2 3) ∧ (∀ r ∈ b.1, r ∈ a.1 ∨ ∃ p ∈ ps, ∃ id, Mem.NewReg r id p.1 p.2 3) := by
 induction ps with
 | nil =>
  intro a b h
  have h : b = a := h
  subst h
  exact ⟨rfl, rfl, fun _ hr => hr, by simp, fun _ hr => Or.inl hr⟩
 | cons q ps ih =>
  intro a b h
  obtain ⟨j, r2, h1, h2, h3, h4⟩ := h
  obtain ⟨e1, e2, e3, e4, e5⟩ := ih h4
  refine ⟨?_, ?_, fun r hr => e3 r ((mem_put r).2 (Or.inr hr)), fun p hp => ?_, fun r hr => ?_⟩
  ·rw [e1]
   simp
   omega
  ·rw [e2]
   simp
   omega
  ·rcases List.mem_cons.1 hp with rfl | hp
   ·exact ⟨r2, e3 r2 ((mem_put r2).2 (Or.inl rfl)), _, h2, h3⟩
   ·exact e4 p hp
  ·rcases e5 r hr with hx | ⟨p, hp, id, hx⟩
   ·rcases (mem_put r).1 hx with rfl | hx
    ·exact Or.inr ⟨q, by simp, _, h3⟩
    ·exact Or.inl hx
   ·exact Or.inr ⟨p, by simp [hp], id, hx⟩
def rowP (i : Nat) (v : Int) (n : Nat) : List (Int × Int) := (List.range n).map fun s : Nat => (plI i s, v)
theorem rowP_succ (i : Nat) (v : Int) (n : Nat) : rowP i v (n + 1) = rowP i v n ++ [(plI i n, v)] := by
 unfold rowP
 rw [List.range_succ, List.map_append]
 rfl
theorem rowP_len (i : Nat) (v : Int) (n : Nat) : (rowP i v n).length = n := by simp [rowP]
def plcs (ds : List MDef) (k : Nat) : List (Int × Int) := (List.range k).flatMap fun i => match ds[i]? with
 | some d => rowP i d.val d.max.toNat
 | none => []
theorem plcs_succ {ds : List MDef} {k : Nat} {d : MDef} (h : ds[k]? = some d) : plcs ds (k + 1) = plcs ds k ++ rowP k d.val d.max.toNat := by
 unfold plcs
 rw [List.range_succ, List.flatMap_append, List.flatMap_singleton, h]
theorem plcs_mem {ds : List MDef} {k : Nat} {p : Int × Int} (h : p ∈ plcs ds k) : ∃ (i : Nat) (d : MDef) (s : Nat), i < k ∧ ds[i]? = some d ∧ (s : Int) < d.max ∧ p = (plI i s, d.val) := by
 unfold plcs at h
 obtain ⟨i, hi, hp⟩ := List.mem_flatMap.1 h
 cases hd : ds[i]? with
 | none =>
  rw [hd] at hp
  cases hp
 | some d =>
  rw [hd] at hp
  obtain ⟨s, hs, rfl⟩ := List.mem_map.1 hp
  have := List.mem_range.1 hs
  exact ⟨i, d, s, List.mem_range.1 hi, hd, by omega, rfl⟩
theorem plcs_len {ds : List MDef} : ∀ {k : Nat}, k ≤ ds.length → (∀ d ∈ ds, 0 ≤ d.max) → ((plcs ds k).length : Int) = maxSum (ds.take k)
 | 0, _, _ => by simp [plcs, maxSum]
 | k + 1, hk, h => by
  have hd : ds[k]? = some ds[k] := List.getElem?_eq_getElem (by omega)
  rw [plcs_succ hd, maxSum_snoc ds k _ hd, List.length_append, rowP_len, ← plcs_len (k := k) (by omega) h]
  have := h _ (List.mem_of_getElem? hd)
  omega
theorem NewReg.off {r : Mem.Reg} {id b n p v : Int} (h : Mem.NewReg r id b n 3) (h0 : 0 ≤ n) (hp : p + v ≤ b ∨ b + n ≤ p) : ¬ (r.base < p + v ∧ p < r.base + (r.bytes.length : Int)) := by
 have h1 := h.hbase
 have h2 := h.hbytes
 rw [h1, h2, List.length_replicate]
 omega
theorem PAdds.free {ps : List (Int × Int)} {a b : List Mem.Reg × Nat} (h : PAdds ps a b) {p v : Int} (hf : Mem.busyB a.1 p v = false) (ho : ∀ q ∈ ps, 0 ≤ q.2 ∧ (p + v ≤ q.1 ∨ q.1 + q.2 ≤ p)) : Mem.busyB b.1 p v = false := by
 obtain ⟨_, _, _, _, e5⟩ := h.facts
 cases hb : Mem.busyB b.1 p v with
 | false => rfl
 | true =>
  unfold Mem.busyB at hb
  rw [List.any_eq_true] at hb
  obtain ⟨r, hr, hb⟩ := hb
  have hb := of_decide_eq_true hb
  rcases e5 r hr with hx | ⟨q, hq, id, hx⟩
  ·rw [Mem.busy_of hx hb.1 hb.2] at hf
   cases hf
  ·exact absurd hb (NewReg.off hx (ho q hq).1 (ho q hq).2)
theorem pl_apart {i j s t : Nat} (hs : s < 64) (ht : t < 64) {v u : Int} (v1 : 1 ≤ v) (v2 : v ≤ 64) (u1 : 1 ≤ u) (u2 : u ≤ 64) (h : i ≠ j ∨ s ≠ t) : plI i s + v ≤ plI j t ∨ plI j t + u ≤ plI i s := by
 unfold plI
 omega
structure SetAt (w w' : World) (x : PT) (s s' : Mem.MS) (ps : List (Int × Int)) : Prop where
 both : PBoth w' x s'
 m : s'.m = s.m
 own : ∀ b ∈ s'.blocks, b ∈ s.blocks ∨ w.heap.size ≤ b
 touch : Touch s.blocks w w'
 adds : PAdds ps (s.rs, s.next) (s'.rs, s'.next)
theorem SetAt.start {w : World} {x : PT} {s : Mem.MS} (h : PBoth w x s) : SetAt w w x s s [] := ⟨h, rfl, fun _ hb => Or.inl hb, Touch.refl _ _, rfl⟩
theorem SetAt.still {w w' w2 : World} {x : PT} {s s' : Mem.MS} {ps : List (Int × Int)} (h : SetAt w w' x s s' ps) (ht : Touch [] w' w2) : SetAt w w2 x s s' ps := ⟨h.both.still ht, h.m, h.own, h.touch.trans ht (by simp), h.adds⟩
theorem SetAt.add {w w' w2 : World} {x : PT} {s s' : Mem.MS} {ps : List (Int × Int)} {p v : Int} {e : Ending} (h : SetAt w w' x s s' ps) (hp : Mem.AddPost w' s' p v 3 e w2) (h0 : Mem.addE s'.rs p v 3 = 0) : ∃ s2, SetAt w w2 x s s2 (ps ++ [(p, v)]) ∧ Touch s'.blocks w' w2 ∧ ∀ b ∈ s2.blocks, b ∈ s'.blocks ∨ w'.heap.size ≤ b := by
 obtain ⟨_, ht, s2, hA, hO, _, hY⟩ := hp
 obtain ⟨hn, i, r, hi, hrs, hr⟩ := hY h0
 have hro : Mem.RegOk r := hA.ok r (by rw [hrs]; simp)
 have hsz := h.touch.size
 refine ⟨s2, ⟨h.both.over hA hO.1 hO.2 ht, by rw [hO.1, h.m], fun b hb => ?_, h.touch.trans ht (fun b hb => h.own b hb), ?_⟩, ht, hO.2⟩
 ·rcases hO.2 b hb with h1 | h1
  ·exact h.own b h1
  ·exact Or.inr (by omega)
 ·rw [hrs, hn]
  exact h.adds.snoc (p := (p, v)) hi hro hr
end Go.Proofs.YtmhhahmjkopjhaaGreat
end
section
namespace Go.Proofs.YtmhhahmjkopjhaaGreat.Mem
open Go.RowKit
def num (bs : Nat → Int) : Nat → Int
 | 0 => 0
 | n + 1 => num bs n + bs n * 256 ^ n
theorem num_bd (bs : Nat → Int) : ∀ n, (∀ j, j < n → 0 ≤ bs j ∧ bs j ≤ 255) → 0 ≤ num bs n ∧ num bs n < 256 ^ n
 | 0, _ => by simp [num]
 | n + 1, h => by
  have h1 := num_bd bs n (fun j hj => h j (by omega))
  have h2 := h n (by omega)
  have h3 : (0 : Int) < 256 ^ n := Int.pow_pos (by omega)
  have h4 : bs n * 256 ^ n ≤ 255 * 256 ^ n := Int.mul_le_mul_of_nonneg_right h2.2 (by omega)
  have h5 : 0 ≤ bs n * 256 ^ n := Int.mul_nonneg h2.1 (by omega)
  unfold num
  rw [Int.pow_succ]
  omega
theorem or_place (a x : Int) (k : Nat) (hk : k ≤ 7) (ha0 : 0 ≤ a) (ha1 : a < 256 ^ k) (hx0 : 0 ≤ x) (hx1 : x ≤ 255) :
  bits .or .u64 a (IntKind.u64.wrap (x * 2 ^ (8 * k))) = a + x * 256 ^ k := by
 obtain ⟨A, rfl⟩ := Int.eq_ofNat_of_zero_le ha0
 obtain ⟨X, rfl⟩ := Int.eq_ofNat_of_zero_le hx0
 have hp : (2 : Int) ^ (8 * k) = 256 ^ k := by rw [Int.pow_mul]; rfl
 have hA : A < 2 ^ (8 * k) := by
  have : ((A : Nat) : Int) < ((2 ^ (8 * k) : Nat) : Int) := by rw [Int.natCast_pow]; show (A : Int) < (2 : Int) ^ (8 * k); rw [hp]; exact ha1
  omega
 have hle : (2 : Nat) ^ (8 * k) ≤ 2 ^ 56 := Nat.pow_le_pow_right (by omega) (by omega)
 have hX : 2 ^ (8 * k) * X < 18446744073709551616 := by
  have : 2 ^ (8 * k) * X ≤ 2 ^ 56 * 255 := Nat.mul_le_mul hle (by omega)
  omega
 have hc : (X : Int) * 2 ^ (8 * k) = ((2 ^ (8 * k) * X : Nat) : Int) := by rw [Int.natCast_mul, Int.natCast_pow, Int.mul_comm]; rfl
 rw [← hp, hc, IntKind.wrap_u64, Int.emod_eq_of_lt (by omega) (by omega), u64_or_nat A _ (by omega) hX, Nat.or_comm, ← Nat.two_pow_add_eq_or_of_lt hA]
 omega
set_option maxHeartbeats 1000000 in
set_option maxRecDepth 100000 in
theorem number_any (b off n c : Nat) (bs : Nat → Int) (w : World) (hn : n ≤ 8)
  (hc : ∀ j, j < n → w.cell? ⟨b, off + j, none⟩ = some (.int .u8 (bs j))) (hb : ∀ j, j < n → 0 ≤ bs j ∧ bs j ≤ 255) :
  Calls Tryz.prog 53 #[.slice (some ⟨b, off, none⟩) n c] w fun e w' => e = .returned (.int .u64 (num bs n)) ∧ w' = w := by
 have HC := toHid hc
 have HB := toHid hb
 clear hc hb
 go_enter Tryz.func53, Tryz.ntmps53
 go_wp2
 go_loop [3, 8] (fun v t => ∃ k : Nat, k ≤ n ∧ t = .int .i64 k ∧ v = .int .u64 (num bs k)) (fun _ t => n - (intOf t).toNat)
 case atStart => exact ⟨0, by omega, rfl, rfl⟩
 case round =>
  obtain ⟨k, hk, rfl, rfl⟩ := hrel
  by_cases hlt : k < n
  ·have c1 := HC.out k hlt
   have c2 := HB.out k hlt
   go_wp2
   refine ⟨⟨k + 1, by omega, by go_num, ?_⟩, by simp [intOf]; omega⟩
   have h1 := num_bd bs k (fun j hj => HB.out j (by omega))
   rw [or_place _ _ k (by omega) h1.1 h1.2 c2.1 c2.2]
   rfl
  ·have hkn : k = n := by omega
   subst hkn
   go_wp2
   go_ret
   exact ⟨rfl, rfl⟩
def byteOf (v : Int) (j : Nat) : Int := v / 256 ^ j % 256
theorem byteOf_bd (v : Int) (j : Nat) : 0 ≤ byteOf v j ∧ byteOf v j ≤ 255 := by unfold byteOf; omega
def spreadTo (v : Int) (k : Nat) : List Value := (List.range 8).map (fun j => if j < k then .int .u8 (byteOf v j) else .int .u8 0)
end Go.Proofs.YtmhhahmjkopjhaaGreat.Mem
end
section
namespace Go.Proofs.YtmhhahmjkopjhaaGreat.Mem
open Go.RowKit
set_option maxHeartbeats 1000000 in
theorem indexB_any (b off n c : Nat) (st : Nat → Bool) (w : World) (hn : n ≤ 65536)
  (hc : ∀ j, j < n → w.cell? ⟨b, off + j, none⟩ = some (.bool (st j))) :
  Calls Tryz.prog 99 #[.slice (some ⟨b, off, none⟩) n c, .bool false] w fun e w' => ((∃ i : Nat, i < n ∧ e = .returned (.int .i64 i) ∧ st i = false) ∨ (e = .returned (.int .i64 (-1)) ∧ ∀ j, j < n → st j = true)) ∧ w' = w := by
 have HC := toHid hc
 clear hc
 go_enter Tryz.func99, Tryz.ntmps99
 go_wp2
 go_loop [8] (fun t => ∃ k : Nat, k ≤ n ∧ t = .int .i64 k ∧ Hid (∀ j, j < k → st j = true)) (fun t => n - (intOf t).toNat)
 case atStart => exact ⟨0, by omega, rfl, fun j hj => by omega⟩
 case round =>
  obtain ⟨k, hk, rfl, HI⟩ := hrel
  by_cases hlt : k < n
  ·have c1 := HC.out k hlt
   cases hs : st k with
   | true =>
    rw [hs] at c1
    have HS := toHid hs
    clear hs
    go_wp2
    refine ⟨⟨k + 1, by omega, by go_num, fun j hj => ?_⟩, by simp [intOf]; omega⟩
    by_cases e : j = k
    ·subst e; exact HS.out
    ·exact HI.out j (by omega)
   | false =>
    rw [hs] at c1
    have HS := toHid hs
    clear hs
    go_wp2
    go_ret
    exact ⟨Or.inl ⟨k, hlt, rfl, HS.out⟩, rfl⟩
  ·have hkn : k = n := by omega
   subst hkn
   go_wp2
   go_ret
   exact ⟨Or.inr ⟨rfl, HI.out⟩, rfl⟩
def allSetB (r : Reg) (a n : Nat) : Bool := match r.sb with
 | none => true
 | some _ => ((r.set.drop a).take n).all (fun x => x)
theorem allSetB_yes {r : Reg} {a n : Nat} (h : ∀ j, j < n → r.set.getD (a + j) true = true) : allSetB r a n = true := by
 unfold allSetB
 cases r.sb with
 | none => rfl
 | some s =>
  simp only [List.all_eq_true]
  intro x hx
  obtain ⟨j, hj, rfl⟩ := List.getElem_of_mem hx
  rw [List.getElem_take, List.getElem_drop]
  have hjn : j < n := by rw [List.length_take] at hj; omega
  have := h j hjn
  rw [List.getD_eq_getElem?_getD, List.getElem?_eq_getElem (by rw [List.length_take, List.length_drop] at hj; omega)] at this
  simpa using this
theorem allSetB_no {r : Reg} {a n s i : Nat} (hs : r.sb = some s) (hi : i < n) (hl : a + n ≤ r.set.length) (h : r.set.getD (a + i) true = false) : allSetB r a n = false := by
 unfold allSetB
 rw [hs]
 simp only [List.all_eq_false]
 refine ⟨r.set.getD (a + i) true, ?_, by rw [h]; decide⟩
 rw [List.getD_eq_getElem?_getD, List.getElem?_eq_getElem (by omega)]
 simp only [Option.getD_some]
 rw [List.mem_iff_getElem]
 exact ⟨i, by rw [List.length_take, List.length_drop]; omega, by rw [List.getElem_take, List.getElem_drop]⟩
theorem run_eql_nil {P : Program} (w : World) (t e : TypeId) (a : Option Addr) (l c : Nat) (h : P.underlying t = some (.slice e)) : (binOp .eql t (.slice a l c) (.slice none 0 0)).run P w = .ok (.bool a.isNone) w := by
 simp only [binOp]
 simp [run_equal_slice_nil w t e a l c h]
theorem nil42 (w : World) : (binOp .eql 80 (.slice none 0 0) (.slice none 0 0)).run Tryz.prog w = .ok (.bool true) w := run_eql_nil w 80 4 none 0 0 Tryz.underlying80
theorem some42 (w : World) (a : Addr) (l c : Nat) : (binOp .eql 80 (.slice (some a) l c) (.slice none 0 0)).run Tryz.prog w = .ok (.bool false) w := run_eql_nil w 80 4 (some a) l c Tryz.underlying80
set_option maxHeartbeats 1000000 in
set_option maxRecDepth 100000 in
theorem allSet_any {w : World} {r : Reg} (h : RegAt w r) (ho : RegOk r) (a n : Nat) (hn : 1 ≤ n) (han : a + n ≤ r.bytes.length) :
  Calls Tryz.prog 79 #[.pointer (some ⟨r.p, 0, none⟩), .int .i64 a, .int .i64 n] w fun e w' => e = .returned (.bool (allSetB r a n)) ∧ w' = w := by
 have hsz := ho.size2
 have hc4 := h.c4
 unfold Reg.setV at hc4
 cases hs : r.sb with
 | none =>
  rw [hs] at hc4
  simp only at hc4
  have HR : Hid (allSetB r a n = true) := by show allSetB r a n = true; unfold allSetB; rw [hs]
  have hnil := nil42
  clear h ho
  go_enter Tryz.func79, Tryz.ntmps79
  go_wp2
  go_ret
  exact ⟨by rw [HR.out]; rfl, rfl⟩
 | some sb =>
  rw [hs] at hc4
  simp only at hc4
  have hset := h.set sb hs
  have hlen := ho.setLen sb hs
  have HI := toHid (indexB_any sb a n (r.bytes.length - a) (fun j => r.set.getD (a + j) true) w (by omega) (fun j hj => hset.cell (by rw [List.getElem?_map, List.getElem?_eq_getElem (by omega), List.getD_eq_getElem?_getD, List.getElem?_eq_getElem (by omega)]; rfl)))
  have HS := toHid hs
  have HL := toHid hlen
  have q1 : ¬ (r.bytes.length = a) := by omega
  have hnil := some42
  clear h ho hs hlen hset
  go_enter Tryz.func79, Tryz.ntmps79
  go_wp2_with (first | (go_at_call 95; go_in) | (go_at_call 99; refine HI.out.mono ?_; rintro e w ⟨(⟨i, hi, rfl, h1⟩ | ⟨rfl, h1⟩), rfl⟩))
  ·go_ret
   exact ⟨by rw [allSetB_no HS.out hi (by rw [HL.out]; omega) h1]; rfl, rfl⟩
  ·go_ret
   exact ⟨by rw [allSetB_yes h1]; rfl, rfl⟩
theorem oneCell_u8 {bs : List Int} : ∀ v ∈ bs.map (Value.int .u8), v.oneCell' = true := by
 intro v hv
 obtain ⟨x, _, rfl⟩ := List.mem_map.1 hv
 rfl
def BytesAt (w : World) (k off : Nat) (bs : List Int) : Prop := ∀ j v, (bs.map (Value.int .u8))[j]? = some v → w.cell? ⟨k, off + j, none⟩ = some v
theorem BytesAt.touch {S : List Nat} {w w' : World} {k off : Nat} {bs : List Int} (h : BytesAt w k off bs) (ht : Touch S w w') (hk : k ∉ S) : BytesAt w' k off bs := fun j v hj => ht.cell (h j v hj) hk
theorem BytesAt.of_blk {w : World} {k off : Nat} {xs : List Int} {t : TypeId} (h : Blk w k (xs.map (Value.int .u8)) t) (n : Nat) : BytesAt w k off ((xs.drop off).take n) := fun j v hj => by
 refine h.cell ?_
 rw [List.getElem?_map] at hj ⊢
 rw [List.getElem?_take] at hj
 split at hj
 ·rwa [List.getElem?_drop] at hj
 ·simp at hj
def layR (r : Reg) (a : Nat) (bs : List Int) : Reg :=
 {r with bytes := r.bytes.take a ++ bs ++ r.bytes.drop (a + bs.length), set := match r.sb with
  | none => r.set
  | some _ => r.set.take a ++ List.replicate bs.length true ++ r.set.drop (a + bs.length) }
theorem layR_len {r : Reg} {a : Nat} {bs : List Int} (h : a + bs.length ≤ r.bytes.length) : (layR r a bs).bytes.length = r.bytes.length := by
 simp only [layR, List.length_append, List.length_take, List.length_drop]
 omega
def setTo (st : List Bool) (a k : Nat) : List Value := (st.take a ++ List.replicate k true ++ st.drop (a + k)).map Value.bool
theorem setTo_succ (st : List Bool) (a k : Nat) (h : a + k < st.length) : (setTo st a k).set (a + k) (.bool true) = setTo st a (k + 1) := by
 unfold setTo
 rw [← List.map_set]
 congr 1
 have e : st.drop (a + k) = st[a + k] :: st.drop (a + k + 1) := List.drop_eq_getElem_cons h
 have e2 : (st.take a ++ List.replicate k true).length = a + k := by simp; omega
 rw [e]
 conv => lhs; arg 2; rw [← e2]
 rw [List.set_append_right _ _ (Nat.le_refl _), Nat.sub_self, List.set_cons_zero, List.replicate_succ', ← Nat.add_assoc]
 simp
theorem RegAt.laid {w w' : World} {r : Reg} {a : Nat} {bs : List Int} (_h : RegAt w r) (hl : a + bs.length ≤ r.bytes.length) (hp : Blk w' r.p r.cells 138)
  (hb : Blk w' r.bb ((layR r a bs).bytes.map (Value.int .u8)) 5) (hs : ∀ s, r.sb = some s → Blk w' s (setTo r.set a bs.length) 4) : RegAt w' (layR r a bs) where
 self := by
  have e : (layR r a bs).cells = r.cells := by
   unfold Reg.cells Reg.setV
   rw [layR_len hl]
   rfl
  rw [e]
  exact hp
 bytes := hb
 set := fun s hs' => by
  have hs'' : r.sb = some s := hs'
  have := hs s hs''
  unfold setTo at this
  simp only [layR, hs'']
  exact this
set_option maxHeartbeats 1000000 in
set_option maxRecDepth 100000 in
theorem rlay_any {w : World} {r : Reg} (h : RegAt w r) (ho : RegOk r) (a k off n c : Nat) (bs : List Int) (hn1 : 1 ≤ n) (hl : bs.length = n) (han : a + n ≤ r.bytes.length) (hb : BytesAt w k off bs) :
  Calls Tryz.prog 88 #[.pointer (some ⟨r.p, 0, none⟩), .int .i64 a, .slice (some ⟨k, off, none⟩) n c] w fun e w' => e = .returned (.tuple #[]) ∧ RegAt w' (layR r a bs) ∧ Touch (r.bb :: r.sb.toList) w w' := by
 have hsz := ho.size2
 have hown := ho.own
 simp only [Reg.blocks, List.nodup_cons, List.mem_cons, not_or] at hown
 have hcp : ∀ ty dc, (Builtin.copy_ #[39, 39] ty #[.slice (some ⟨r.bb, a, none⟩) (r.bytes.length - a) dc, .slice (some ⟨k, off, none⟩) n c]).run Tryz.prog w = _ := fun ty dc =>
  run_copy_blk w 39 39 ty 5 Tryz.underlying39 (size_of_info info5) r.bb a (r.bytes.length - a) dc ⟨k, off, none⟩ n c _ 5 (bs.map (Value.int .u8)) h.bytes (by simp only [Nat.min_def, List.length_map, hl]; split <;> omega) (fun j v hj => by
   rw [Addr.add_lit]
   exact hb j v hj) (by simp; omega) oneCell_u8
 have hX : (r.bytes.map (Value.int .u8)).take a ++ bs.map (Value.int .u8) ++ (r.bytes.map (Value.int .u8)).drop (a + (bs.map (Value.int .u8)).length) = (layR r a bs).bytes.map (Value.int .u8) := by
  simp [layR, List.map_take, List.map_drop]
 rw [hX] at hcp
 have hB := h.bytes.setRow ((layR r a bs).bytes.map (Value.int .u8))
 have hP := h.self.setRow_other r.bb ((layR r a bs).bytes.map (Value.int .u8)).toArray hown.1.1
 have hS : ∀ s, r.sb = some s → Blk (w.setRow r.bb ((layR r a bs).bytes.map (Value.int .u8)).toArray) s (setTo r.set a 0) 4 := fun s hs => by
  have : setTo r.set a 0 = r.set.map Value.bool := by simp [setTo]
  rw [this]
  refine (h.set s hs).setRow_other _ _ (fun e => hown.2.1 ?_)
  rw [hs, e]
  simp
 have ht : Touch (r.bb :: r.sb.toList) w (w.setRow r.bb ((layR r a bs).bytes.map (Value.int .u8)).toArray) := (Touch.refl _ w).setRow _ _ (Or.inl (by simp))
 generalize w.setRow r.bb ((layR r a bs).bytes.map (Value.int .u8)).toArray = W1 at hcp hB hP hS ht
 have hc3 := h.c3
 have q1 : ¬ (r.bytes.length = a) := by omega
 have q2 : (a : Int) ≤ r.bytes.length := by omega
 cases hsb : r.sb with
 | none =>
  have hc4 : W1.cell? ⟨r.p, 4, none⟩ = some r.setV := hP.cell rfl
  unfold Reg.setV at hc4
  rw [hsb] at hc4
  simp only at hc4
  have HF : Hid (RegAt W1 (layR r a bs) ∧ Touch (r.bb :: r.sb.toList) w W1) := ⟨h.laid (by omega) hP hB (fun s hs => by rw [hsb] at hs; cases hs), ht⟩
  rw [hsb] at HF
  have HC := toHid hcp
  have hnil := nil42
  clear hcp hX hB hP hS ht h ho hb
  go_enter Tryz.func88, Tryz.ntmps88
  go_wp2_with fail
  rw [HC.out]
  go_wp2
  exact bodyPost_ret (v := .tuple #[]) (by simp [results, Tryz.results88]) rfl ⟨rfl, HF.out⟩
 | some sb =>
  have hset := hS sb hsb
  have hlen := ho.setLen sb hsb
  have hc4 : W1.cell? ⟨r.p, 4, none⟩ = some r.setV := hP.cell rfl
  unfold Reg.setV at hc4
  rw [hsb] at hc4
  simp only at hc4
  rw [hsb] at ht
  have HT := toHid ht
  have HS := toHid hset
  have HP := toHid hP
  have HBB := toHid hB
  have HC := toHid hcp
  have hnil := some42
  have hne1 : ¬ sb = r.p := fun e => hown.1.2 (by rw [hsb, e]; simp)
  have hne2 : ¬ sb = r.bb := fun e => hown.2.1 (by rw [hsb, e]; simp)
  have HR := toHid h
  have HSB := toHid hsb
  clear hcp hX hB hP hS ht h ho hb hset hsb
  go_enter Tryz.func88, Tryz.ntmps88
  go_wp2_with fail
  rw [HC.out]
  go_wp2
  go_loopw [22] (fun t w' => ∃ i : Nat, i ≤ n ∧ t = .int .i64 i ∧ Hid (Blk w' sb (setTo r.set a i) 4 ∧ Blk w' r.p r.cells 138 ∧ Blk w' r.bb ((layR r a bs).bytes.map (Value.int .u8)) 5 ∧ Touch [r.bb, sb] w w')) (fun t _ => n - (intOf t).toNat)
  case atStart => exact ⟨0, by omega, rfl, HS.out, HP.out, HBB.out, HT.out⟩
  case round =>
   rename_i wr
   obtain ⟨i, hi, rfl, HI⟩ := hrel
   clear hc4
   have hc4 : wr.cell? ⟨r.p, 4, none⟩ = some r.setV := HI.out.2.1.cell rfl
   unfold Reg.setV at hc4
   rw [HSB.out] at hc4
   simp only at hc4
   by_cases hlt : i < n
   ·have c1 := HI.out.1.cellN (i := a + i) (by simp [setTo]; omega)
    have f1 := HI.out.1.frozen (a + i)
    go_wp2
    refine ⟨⟨i + 1, by omega, by go_num, ?_, ?_, ?_, ?_⟩, by simp [intOf]; omega⟩
    ·rw [← setTo_succ r.set a i (by omega)]
     exact HI.out.1.setCell _ _
    ·exact HI.out.2.1.setCell_other _ _ (fun e => hne1 e.symm)
    ·exact HI.out.2.2.1.setCell_other _ _ (fun e => hne2 e.symm)
    ·exact HI.out.2.2.2.setCell _ _ (Or.inl (by simp))
   ·obtain rfl : i = n := by omega
    go_wp2
    go_end0
    refine ⟨rfl, HR.out.laid (by omega) HI.out.2.1 HI.out.2.2.1 (fun s hs => ?_), by simpa using HI.out.2.2.2⟩
    rw [HSB.out] at hs
    injection hs with hs
    subst hs
    rw [hl]
    exact HI.out.1
end Go.Proofs.YtmhhahmjkopjhaaGreat.Mem
end
section
namespace Go.Proofs.YtmhhahmjkopjhaaGreat.Mem
open Go.RowKit
def updR (rs : List Reg) (id : Int) (f : Reg → Reg) : List Reg := rs.map (fun x => if x.id = id then f x else x)
theorem layR_ok {r : Reg} {a : Nat} {bs : List Int} (h : RegOk r) (hl : a + bs.length ≤ r.bytes.length) (hb : ∀ x ∈ bs, 0 ≤ x ∧ x ≤ 255) : RegOk (layR r a bs) where
 base0 := h.base0
 size1 := by rw [layR_len hl]; exact h.size1
 size2 := by rw [layR_len hl]; exact h.size2
 fits := by rw [layR_len hl]; exact h.fits
 perm0 := h.perm0
 perm1 := h.perm1
 plain := h.plain
 setLen := fun s hs => by
  have hs' : r.sb = some s := hs
  have := h.setLen s hs'
  rw [layR_len hl, ← this]
  simp only [layR, hs', List.length_append, List.length_take, List.length_drop, List.length_replicate]
  omega
 setNil := fun hs => by
  have hs' : r.sb = none := hs
  simp only [layR, hs']
  exact h.setNil hs'
 byte := fun x hx => by
  simp only [layR, List.mem_append] at hx
  rcases hx with (hx | hx) | hx
  ·exact h.byte x (List.mem_of_mem_take hx)
  ·exact hb x hx
  ·exact h.byte x (List.mem_of_mem_drop hx)
 own := h.own
theorem nodup_flat {l : List Reg} (h : (l.flatMap Reg.blocks).Nodup) {x y : Reg} (hx : x ∈ l) (hy : y ∈ l) (hne : x.id ≠ y.id) : ∀ b ∈ x.blocks, b ∉ y.blocks := by
 intro b hb hb'
 obtain ⟨i, hi, rfl⟩ := List.getElem_of_mem hx
 obtain ⟨j, hj, rfl⟩ := List.getElem_of_mem hy
 have hij : i ≠ j := fun e => hne (by subst e; rfl)
 have hp := (List.pairwise_flatMap.1 h).2
 rcases Nat.lt_or_gt_of_ne hij with hlt | hlt
 ·exact (List.pairwise_iff_getElem.1 hp) i j hi hj hlt b hb b hb' rfl
 ·exact (List.pairwise_iff_getElem.1 hp) j i hj hi hlt b hb' b hb rfl
theorem id_inj {l : List Reg} (h : l.Pairwise (fun a b => a.id ≠ b.id)) {x y : Reg} (hx : x ∈ l) (hy : y ∈ l) (he : x.id = y.id) : x = y := by
 obtain ⟨i, hi, rfl⟩ := List.getElem_of_mem hx
 obtain ⟨j, hj, rfl⟩ := List.getElem_of_mem hy
 rcases Nat.lt_trichotomy i j with hlt | rfl | hlt
 ·exact absurd he ((List.pairwise_iff_getElem.1 h) i j hi hj hlt)
 ·rfl
 ·exact absurd he.symm ((List.pairwise_iff_getElem.1 h) j i hj hi hlt)
theorem MemAt.upd {w w' : World} {s : MS} (h : MemAt w s) {r : Reg} (hr : r ∈ s.rs) {a : Nat} {bs : List Int} (hl : a + bs.length ≤ r.bytes.length) (hb : ∀ x ∈ bs, 0 ≤ x ∧ x ≤ 255)
  (hr' : RegAt w' (layR r a bs)) (ht : Touch (r.bb :: r.sb.toList) w w') : MemAt w' { s with rs := updR s.rs r.id (layR · a bs) } ∧ ({ s with rs := updR s.rs r.id (layR · a bs) } : MS).blocks = s.blocks := by
 have hsub : ∀ b, b ∈ r.bb :: r.sb.toList → b ∈ r.blocks := fun b hb => by
  unfold Reg.blocks
  exact List.mem_cons_of_mem _ hb
 have hap := h.apart
 simp only [MS.blocks, List.cons_append, List.nodup_cons, List.mem_append, List.nodup_append] at hap
 have hin : ∀ b ∈ r.blocks, b ∈ s.rs.flatMap Reg.blocks := fun b hb => List.mem_flatMap.2 ⟨r, hr, hb⟩
 have hptr : (updR s.rs r.id (layR · a bs)).map Reg.ptr = s.rs.map Reg.ptr := by
  unfold updR
  rw [List.map_map]
  refine List.map_congr_left (fun x _ => ?_)
  simp only [Function.comp]
  split <;> rfl
 have hbl : (updR s.rs r.id (layR · a bs)).flatMap Reg.blocks = s.rs.flatMap Reg.blocks := by
  unfold updR
  rw [List.flatMap_map]
  congr 1
  funext x
  split <;> rfl
 have hlen : (updR s.rs r.id (layR · a bs)).length = s.rs.length := by simp [updR]
 have hmem : ∀ x ∈ updR s.rs r.id (layR · a bs), x = layR r a bs ∨ (x ∈ s.rs ∧ x.id ≠ r.id) := by
  intro x hx
  unfold updR at hx
  obtain ⟨y, hy, rfl⟩ := List.mem_map.1 hx
  split
  ·rename_i he
   left
   rw [id_inj h.ids hy hr he]
  ·rename_i he
   exact Or.inr ⟨hy, he⟩
 have hpw : ∀ (R : Reg → Reg → Prop), (∀ x y, R x y → R (if x.id = r.id then layR x a bs else x) (if y.id = r.id then layR y a bs else y)) → s.rs.Pairwise R → (updR s.rs r.id (layR · a bs)).Pairwise R := by
  intro R hR hp
  unfold updR
  rw [List.pairwise_map]
  exact hp.imp (fun {x y} hxy => hR x y hxy)
 refine ⟨⟨?_, ?_, ?_, ?_, ?_, ?_, ?_, ?_, ?_⟩, ?_⟩
 ·show Blk w' s.m [slV s.g (updR s.rs r.id (layR · a bs)).length s.cap, .int .i64 s.next] 79
  rw [hlen]
  exact ht.blk h.self (fun hx => hap.1 (Or.inr (hin _ (hsub _ hx))))
 ·show RowAt w' 118 1 s.g (updR s.rs r.id (layR · a bs)).length s.cap ((updR s.rs r.id (layR · a bs)).map Reg.ptr)
  rw [hlen, hptr]
  exact h.row.touch ht (fun b hb hx => hap.2.2.2 b (by simp [hb]) b (hin _ (hsub _ hx)) rfl)
 ·intro x hx
  rcases hmem x hx with rfl | ⟨hx, hne⟩
  ·exact hr'
  ·exact (h.regs x hx).touch ht (fun b hb hh => nodup_flat hap.2.2.1 hx hr hne b hb (hsub _ hh))
 ·intro x hx
  rcases hmem x hx with rfl | ⟨hx, _⟩
  ·exact layR_ok (h.ok r hr) hl hb
  ·exact h.ok x hx
 ·show (s.m :: s.g.toList ++ (updR s.rs r.id (layR · a bs)).flatMap Reg.blocks).Nodup
  rw [hbl]
  exact h.apart
 ·have hsl : ∀ x ∈ s.rs, (if x.id = r.id then layR x a bs else x).bytes.length = x.bytes.length ∧ (if x.id = r.id then layR x a bs else x).base = x.base := by
   intro x hx
   split
   ·rename_i he
    rw [id_inj h.ids hx hr he]
    exact ⟨layR_len hl, rfl⟩
   ·exact ⟨rfl, rfl⟩
  unfold updR
  rw [List.pairwise_map]
  refine List.Pairwise.imp_of_mem ?_ h.sorted
  intro x y hx hy hxy
  rw [(hsl x hx).1, (hsl x hx).2, (hsl y hy).2]
  exact hxy
 ·refine hpw _ (fun x y hxy => ?_) h.ids
  split <;> split <;> exact hxy
 ·intro x hx
  rcases hmem x hx with rfl | ⟨hx, _⟩
  ·exact h.idlt r hr
  ·exact h.idlt x hx
 ·show (updR s.rs r.id (layR · a bs)).length ≤ 4096
  rw [hlen]
  exact h.many
 ·show s.m :: s.g.toList ++ (updR s.rs r.id (layR · a bs)).flatMap Reg.blocks = _
  rw [hbl]
  rfl
def mayB (r : Reg) (addr n perm : Int) : Bool := decide (addr - r.base ≤ (r.bytes.length : Int) - n ∧ bits .and .i64 r.perm perm ≠ 0)
def layE (rs : List Reg) (addr n : Int) : Int := match findR rs addr with
 | none => 10
 | some r => if mayB r addr n 2 = true then 0 else 10
def layRs (rs : List Reg) (addr : Int) (bs : List Int) : List Reg := match findR rs addr with
 | none => rs
 | some r => if mayB r addr bs.length 2 = true then updR rs r.id (layR · (addr - r.base).toNat bs) else rs
def LayPost (w : World) (s : MS) (addr : Int) (bs : List Int) (e : Ending) (w' : World) : Prop :=
 e = .returned (.int .i64 (layE s.rs addr bs.length)) ∧ Touch s.blocks w w' ∧ MemAt w' { s with rs := layRs s.rs addr bs } ∧ ({ s with rs := layRs s.rs addr bs } : MS).blocks = s.blocks
theorem accessV_mayB {r : Reg} {addr n perm : Int} : accessV (some r) addr n perm = if mayB r addr n perm = true then .tuple #[.pointer (some ⟨r.p, 0, none⟩), .int .i64 (addr - r.base), .int .i64 0] else .tuple #[.pointer none, .int .i64 0, .int .i64 10] := by
 unfold accessV mayB
 by_cases h : addr - r.base ≤ (r.bytes.length : Int) - n ∧ bits .and .i64 r.perm perm ≠ 0
 ·simp [h]
 ·simp [h]
set_option maxHeartbeats 1000000 in
set_option maxRecDepth 100000 in
theorem lay_any {w : World} {s : MS} (h : MemAt w s) (addr : Int) (k off n c : Nat) (bs : List Int) (ha0 : 0 ≤ addr) (ha1 : addr ≤ 18446744073709551615) (hn1 : 1 ≤ n) (hn2 : n ≤ 9223372036854775807) (hl : bs.length = n)
  (hb : BytesAt w k off bs) (hbb : ∀ x ∈ bs, 0 ≤ x ∧ x ≤ 255) :
  Calls Tryz.prog 65 #[.pointer (some ⟨s.m, 0, none⟩), .int .u64 addr, .slice (some ⟨k, off, none⟩) n c] w (LayPost w s addr bs) := by
 have hA := access_any h addr n 2 ha0 ha1 (by omega) (by omega)
 cases hf : findR s.rs addr with
 | none =>
  rw [hf] at hA
  have HF : ∀ k, Hid (LayPost w s addr bs (.returned (.int .i64 10)) (w.drewN k)) := fun k => by
   refine ⟨by simp only [layE, hf], (Touch.refl _ w).drewN k, ?_, ?_⟩
   ·simp only [layRs, hf]
    exact h.touch ((Touch.refl [] w).drewN k) (by simp)
   ·simp only [layRs, hf]
  have HA := toHid hA
  clear hA h hf hb
  go_enter Tryz.func65, Tryz.ntmps65
  go_wp2_with (go_at_call 78; refine HA.out.mono ?_; rintro e w' ⟨rfl, k2, rfl⟩; simp only [accessV])
  go_ret
  exact (HF _).out
 | some r =>
  rw [hf, accessV_mayB] at hA
  have hr := findR_mem hf
  cases hm : mayB r addr n 2 with
  | false =>
   rw [hm] at hA
   have HF : ∀ k, Hid (LayPost w s addr bs (.returned (.int .i64 10)) (w.drewN k)) := fun k => by
    refine ⟨by simp [layE, hf, hl, hm], (Touch.refl _ w).drewN k, ?_, ?_⟩
    ·simp only [layRs, hf, hl, hm]
     exact h.touch ((Touch.refl [] w).drewN k) (by simp)
    ·simp [layRs, hf, hl, hm]
   have HA := toHid hA
   clear hA h hf hb
   go_enter Tryz.func65, Tryz.ntmps65
   go_wp2_with (go_at_call 78; refine HA.out.mono ?_; rintro e w' ⟨rfl, k2, rfl⟩; simp only [Bool.false_eq_true, ↓reduceIte])
   go_ret
   exact (HF _).out
  | true =>
   rw [hm] at hA
   have hin := of_decide_eq_true hr.2
   have hreach := (of_decide_eq_true hm).1
   obtain ⟨a, ha⟩ : ∃ a : Nat, addr - r.base = a := ⟨(addr - r.base).toNat, by omega⟩
   rw [ha] at hA hreach
   have HF : ∀ w', RegAt w' (layR r a bs) → Touch (r.bb :: r.sb.toList) w w' → Hid (LayPost w s addr bs (.returned (.int .i64 0)) w') := fun w' h1 h2 => by
    have hu := h.upd hr.1 (a := a) (bs := bs) (by omega) hbb h1 h2
    refine ⟨by simp [layE, hf, hl, hm], h2.mono (fun x hx => Or.inl (s.mem_r hr.1 (by unfold Reg.blocks; exact List.mem_cons_of_mem _ hx))), ?_⟩
    have e : layRs s.rs addr bs = updR s.rs r.id (layR · a bs) := by
     have : a = (addr - r.base).toNat := by omega
     subst this
     simp [layRs, hf, hl, hm]
    rw [e]
    exact hu
   have HFH := toHid HF
   have HL : ∀ k2, Hid _ := fun k2 => toHid (rlay_any ((h.regs r hr.1).touch ((Touch.refl [] w).drewN k2) (by simp)) (h.ok r hr.1) a k off n c bs hn1 hl (by omega) (hb.touch ((Touch.refl [] w).drewN k2) (by simp)))
   have HA := toHid hA
   clear hA h hf hb HF hm
   go_enter Tryz.func65, Tryz.ntmps65
   go_wp2_with (go_at_call 78; refine HA.out.mono ?_; rintro e w' ⟨rfl, k2, rfl⟩; simp only [↓reduceIte])
   refine (HL _).out.mono ?_
   rintro e w' ⟨rfl, h1, h2⟩
   have H3 := HFH.out w' h1 ((((Touch.refl [] w).drewN k2).nil).trans h2 (fun x hx => Or.inl hx))
   clear h1 h2 HFH HL
   go_wp2
   go_ret
   exact H3.out
end Go.Proofs.YtmhhahmjkopjhaaGreat.Mem
end
section
namespace Go.Proofs.YtmhhahmjkopjhaaGreat.Mem
open Go.RowKit
def lookE (rs : List Reg) (addr n : Int) : Int := match findR rs addr with
 | none => 10
 | some r => if mayB r addr n 1 = true then (if allSetB r (addr - r.base).toNat n.toNat = true then 0 else 11) else 10
def tellR (rs : List Reg) (addr n : Int) : List Int := match findR rs addr with
 | none => []
 | some r => if mayB r addr n 1 = true ∧ allSetB r (addr - r.base).toNat n.toNat = true then (r.bytes.drop (addr - r.base).toNat).take n.toNat else []
def LookPost (w : World) (s : MS) (addr : Int) (n : Nat) (e : Ending) (w' : World) : Prop := (∃ k, w' = w.drewN k) ∧
   ((lookE s.rs addr n ≠ 0 ∧ tellR s.rs addr n = [] ∧ e = .returned (.tuple #[.slice none 0 0, .int .i64 (lookE s.rs addr n)])) ∨
    (lookE s.rs addr n = 0 ∧ ∃ r ∈ s.rs, ∃ a : Nat, a + n ≤ r.bytes.length ∧ tellR s.rs addr n = (r.bytes.drop a).take n ∧ e = .returned (.tuple #[.slice (some ⟨r.bb, a, none⟩) n n, .int .i64 0])))
set_option maxHeartbeats 1000000 in
set_option maxRecDepth 100000 in
theorem look_any {w : World} {s : MS} (h : MemAt w s) (addr : Int) (n : Nat) (ha0 : 0 ≤ addr) (ha1 : addr ≤ 18446744073709551615) (hn1 : 1 ≤ n) (hn2 : n ≤ 9223372036854775807) :
  Calls Tryz.prog 52 #[.pointer (some ⟨s.m, 0, none⟩), .int .u64 addr, .int .i64 n] w (LookPost w s addr n) := by
 have hA := access_any h addr n 1 ha0 ha1 (by omega) (by omega)
 cases hf : findR s.rs addr with
 | none =>
  rw [hf] at hA
  have HF : ∀ k, Hid (LookPost w s addr n (.returned (.tuple #[.slice none 0 0, .int .i64 10])) (w.drewN k)) := fun k => by
   have he : lookE s.rs addr n = 10 := by simp only [lookE, hf]
   exact ⟨⟨k, rfl⟩, Or.inl ⟨by rw [he]; decide, by simp only [tellR, hf], by rw [he]⟩⟩
  have HA := toHid hA
  clear hA h hf
  go_enter Tryz.func52, Tryz.ntmps52
  go_wp2_with (go_at_call 78; refine HA.out.mono ?_; rintro e w' ⟨rfl, k2, rfl⟩; simp only [accessV])
  go_ret2
  exact (HF _).out
 | some r =>
  rw [hf, accessV_mayB] at hA
  have hr := findR_mem hf
  cases hm : mayB r addr n 1 with
  | false =>
   rw [hm] at hA
   have HF : ∀ k, Hid (LookPost w s addr n (.returned (.tuple #[.slice none 0 0, .int .i64 10])) (w.drewN k)) := fun k => by
    have he : lookE s.rs addr n = 10 := by simp [lookE, hf, hm]
    exact ⟨⟨k, rfl⟩, Or.inl ⟨by rw [he]; decide, by simp [tellR, hf, hm], by rw [he]⟩⟩
   have HA := toHid hA
   clear hA h hf
   go_enter Tryz.func52, Tryz.ntmps52
   go_wp2_with (go_at_call 78; refine HA.out.mono ?_; rintro e w' ⟨rfl, k2, rfl⟩; simp only [Bool.false_eq_true, ↓reduceIte])
   go_ret2
   exact (HF _).out
  | true =>
   rw [hm] at hA
   have hin := of_decide_eq_true hr.2
   have hreach := (of_decide_eq_true hm).1
   obtain ⟨a, ha⟩ : ∃ a : Nat, addr - r.base = a := ⟨(addr - r.base).toNat, by omega⟩
   rw [ha] at hA hreach
   have hc3 := (h.regs r hr.1).c3
   have hsz := (h.ok r hr.1).size2
   have hal : a + n ≤ r.bytes.length := by omega
   have HS := fun k2 => toHid (allSet_any ((h.regs r hr.1).touch ((Touch.refl [] w).drewN k2) (by simp)) (h.ok r hr.1) a n hn1 hal)
   have HA := toHid hA
   cases hset : allSetB r a n with
   | false =>
    have HF : ∀ k, Hid (LookPost w s addr n (.returned (.tuple #[.slice none 0 0, .int .i64 11])) (w.drewN k)) := fun k => by
     have he : lookE s.rs addr n = 11 := by simp [lookE, hf, hm, ha, hset]
     exact ⟨⟨k, rfl⟩, Or.inl ⟨by rw [he]; decide, by simp [tellR, hf, hm, ha, hset], by rw [he]⟩⟩
    rw [hset] at HS
    clear hA h hf hset hm
    go_enter Tryz.func52, Tryz.ntmps52
    go_wp2_with (first | (go_at_call 78; refine HA.out.mono ?_; rintro e w' ⟨rfl, k2, rfl⟩; simp only [↓reduceIte]) | (go_at_call 79; refine (HS _).out.mono ?_; rintro e w' ⟨rfl, rfl⟩))
    go_ret2
    exact (HF _).out
   | true =>
    have HF : ∀ k, Hid (LookPost w s addr n (.returned (.tuple #[.slice (some ⟨r.bb, a, none⟩) (a + n - a) (a + n - a), .int .i64 0])) (w.drewN k)) := fun k => by
     have he : lookE s.rs addr n = 0 := by simp [lookE, hf, hm, ha, hset]
     exact ⟨⟨k, rfl⟩, Or.inr ⟨he, r, hr.1, a, hal, by simp [tellR, hf, hm, ha, hset], by rw [Nat.add_sub_cancel_left]⟩⟩
    rw [hset] at HS
    have q1 : ¬ (a + n = a) := by omega
    have q2 : (a : Int) + n ≤ r.bytes.length := by omega
    clear hA h hf hset hm hr
    go_enter Tryz.func52, Tryz.ntmps52
    go_wp2_with (first | (go_at_call 78; refine HA.out.mono ?_; rintro e w' ⟨rfl, k2, rfl⟩; simp only [↓reduceIte]) | (go_at_call 79; refine (HS _).out.mono ?_; rintro e w' ⟨rfl, rfl⟩))
    go_ret2
    exact (HF _).out
def wordB (n : Int) : Bool := n == 1 || n == 2 || n == 4 || n == 8
theorem word_of {n : Int} (h : wordB n = true) : n = 1 ∨ n = 2 ∨ n = 4 ∨ n = 8 := by
 unfold wordB at h
 simp at h
 omega
def loadE (rs : List Reg) (addr n : Int) : Int := if wordB n = true then lookE rs addr n else 2
def loadV (rs : List Reg) (addr n : Int) : Int := if wordB n = true ∧ lookE rs addr n = 0 then num (fun j => (tellR rs addr n).getD j 0) n.toNat else 0
def storeE (rs : List Reg) (addr n : Int) : Int := if wordB n = true then layE rs addr n else 2
def storeRs (rs : List Reg) (addr n v : Int) : List Reg := if wordB n = true then layRs rs addr ((List.range n.toNat).map (byteOf v)) else rs
set_option maxHeartbeats 1000000 in
set_option maxRecDepth 100000 in
theorem load_any {w : World} {s : MS} (h : MemAt w s) (addr n : Int) (ha0 : 0 ≤ addr) (ha1 : addr ≤ 18446744073709551615) :
  Calls Tryz.prog 28 #[.pointer (some ⟨s.m, 0, none⟩), .int .u64 addr, .int .i64 n] w fun e w' => e = .returned (.tuple #[.int .u64 (loadV s.rs addr n), .int .i64 (loadE s.rs addr n)]) ∧ ∃ k, w' = w.drewN k := by
 cases hw : wordB n with
 | false =>
  have he : loadE s.rs addr n = 2 := by unfold loadE; rw [hw]; rfl
  have hv : loadV s.rs addr n = 0 := by unfold loadV; rw [hw]; rfl
  rw [he, hv]
  have HW : Hid ((n == 1 || n == 2 || n == 4 || n == 8) = false) := hw
  clear h he hv hw
  go_enter Tryz.func28, Tryz.ntmps28
  go_wp2_with (go_at_call 51; refine (isWord_any n _).mono ?_; rintro e w' ⟨rfl, rfl⟩; rw [HW.out])
  go_ret2
  exact ⟨rfl, 0, rfl⟩
 | true =>
  have hnn := word_of hw
  obtain ⟨z, rfl⟩ : ∃ z : Nat, n = z := ⟨n.toNat, by omega⟩
  have hz1 : 1 ≤ z := by omega
  have hz2 : z ≤ 8 := by omega
  clear hnn
  have HL := toHid (look_any h addr z ha0 ha1 hz1 (by omega))
  have HW : Hid (((z : Int) == 1 || (z : Int) == 2 || (z : Int) == 4 || (z : Int) == 8) = true) := hw
  have he : loadE s.rs addr z = lookE s.rs addr z := by unfold loadE; rw [hw]; rfl
  by_cases h0 : lookE s.rs addr z = 0
  ·have hv : loadV s.rs addr z = num (fun j => (tellR s.rs addr z).getD j 0) z := by unfold loadV; rw [if_pos ⟨hw, h0⟩]; rfl
   have HE := toHid he
   have H0 := toHid h0
   have HV := toHid hv
   have HM := toHid h
   clear h he hv hw h0
   go_enter Tryz.func28, Tryz.ntmps28
   go_wp2_with (go_at_call 51; refine (isWord_any z _).mono ?_; rintro e w ⟨rfl, rfl⟩; rw [HW.out])
   refine HL.out.mono ?_
   rintro e w' ⟨⟨k, rfl⟩, (⟨h1, _, _⟩ | ⟨_, r, hr, a, hal, htell, rfl⟩)⟩
   ·exact absurd H0.out h1
   ·have hbb := BytesAt.of_blk (off := a) ((HM.out.regs r hr).bytes.drewN k) z
    have hok := HM.out.ok r hr
    have hlen : ((r.bytes.drop a).take z).length = z := by simp; omega
    have HN := toHid (number_any r.bb a z z (fun j => ((r.bytes.drop a).take z).getD j 0) (w.drewN k) hz2
     (fun j hj => hbb j _ (by rw [List.getElem?_map, List.getElem?_eq_getElem (by omega), List.getD_eq_getElem?_getD, List.getElem?_eq_getElem (by omega)]; rfl))
     (fun j hj => by
      rw [List.getD_eq_getElem?_getD, List.getElem?_eq_getElem (by omega)]
      exact hok.byte _ (List.mem_of_mem_drop (List.mem_of_mem_take (List.getElem_mem (by omega))))))
    have HT := toHid htell
    clear hbb htell
    go_wp2_with (go_at_call 53; refine HN.out.mono ?_; rintro e w' ⟨rfl, rfl⟩)
    go_ret2
    refine ⟨?_, k, rfl⟩
    rw [HE.out, H0.out, HV.out, HT.out]
    rfl
  ·have hv : loadV s.rs addr z = 0 := by unfold loadV; rw [if_neg (fun hh => h0 hh.2)]
   have HE := toHid he
   have H0 := toHid h0
   have HV := toHid hv
   generalize hx : lookE s.rs addr z = x at *
   have HX := toHid hx
   have hb : (x == 0) = false := by simpa using h0
   have hb2 : (x != 0) = true := by simpa using h0
   clear h he hv hw h0 hx
   go_enter Tryz.func28, Tryz.ntmps28
   go_wp2_with (go_at_call 51; refine (isWord_any z _).mono ?_; rintro e w ⟨rfl, rfl⟩; rw [HW.out])
   refine HL.out.mono ?_
   rintro e w' ⟨⟨k, rfl⟩, (⟨h1, _, rfl⟩ | ⟨h1, _⟩)⟩
   ·rw [HX.out]
    clear h1 HL
    go_wp2
    go_ret2
    exact ⟨by rw [HE.out, HV.out]; rfl, k, rfl⟩
   ·rw [HX.out] at h1
    exact absurd h1 H0.out
end Go.Proofs.YtmhhahmjkopjhaaGreat.Mem
end
section
namespace Go.Proofs.YtmhhahmjkopjhaaGreat.Mem
open Go.RowKit
def StorePost (w : World) (s : MS) (addr n v : Int) (e : Ending) (w' : World) : Prop :=
 e = .returned (.int .i64 (storeE s.rs addr n)) ∧ Touch s.blocks w w' ∧ MemAt w' { s with rs := storeRs s.rs addr n v } ∧ ({ s with rs := storeRs s.rs addr n v } : MS).blocks = s.blocks
def writeE (rs : List Reg) (addr : Int) (bs : List Int) : Int := if bs.length = 0 then 0 else layE rs addr bs.length
def writeRs (rs : List Reg) (addr : Int) (bs : List Int) : List Reg := if bs.length = 0 then rs else layRs rs addr bs
def WritePost (w : World) (s : MS) (addr : Int) (bs : List Int) (e : Ending) (w' : World) : Prop :=
 e = .returned (.int .i64 (writeE s.rs addr bs)) ∧ Touch s.blocks w w' ∧ MemAt w' { s with rs := writeRs s.rs addr bs } ∧ ({ s with rs := writeRs s.rs addr bs } : MS).blocks = s.blocks
def ArgAt (w : World) (v : Value) (bs : List Int) : Prop := ∃ a c, v = .slice a bs.length c ∧ (∀ x ∈ bs, 0 ≤ x ∧ x ≤ 255) ∧ bs.length ≤ 9223372036854775807 ∧ (1 ≤ bs.length → ∃ k off, a = some ⟨k, off, none⟩ ∧ BytesAt w k off bs)
set_option maxHeartbeats 1000000 in
set_option maxRecDepth 100000 in
theorem write_any {w : World} {s : MS} (h : MemAt w s) (addr : Int) (v : Value) (bs : List Int) (ha0 : 0 ≤ addr) (ha1 : addr ≤ 18446744073709551615) (hv : ArgAt w v bs) :
  Calls Tryz.prog 49 #[.pointer (some ⟨s.m, 0, none⟩), .int .u64 addr, v] w (WritePost w s addr bs) := by
 obtain ⟨a, c, rfl, hbb, hn2, hb⟩ := hv
 by_cases h0 : bs.length = 0
 ·have HF : Hid (WritePost w s addr bs (.returned (.int .i64 0)) w) := by
   have e : writeRs s.rs addr bs = s.rs := by unfold writeRs; rw [if_pos h0]
   refine ⟨by unfold writeE; rw [if_pos h0], Touch.refl _ w, ?_, ?_⟩
   ·rw [e]; exact h
   ·rw [e]
  have h0' : ((bs.length : Int) == 0) = true := by simpa using h0
  clear h hb
  go_enter Tryz.func49, Tryz.ntmps49
  go_wp2
  go_ret
  exact HF.out
 ·obtain ⟨k, off, rfl, hbytes⟩ := hb (by omega)
  have HL := toHid (lay_any h addr k off bs.length c bs ha0 ha1 (by omega) hn2 rfl hbytes hbb)
  have HE : Hid (writeE s.rs addr bs = layE s.rs addr bs.length) := by
   show writeE s.rs addr bs = layE s.rs addr bs.length
   unfold writeE
   rw [if_neg h0]
  have HF : ∀ w', LayPost w s addr bs (.returned (.int .i64 (layE s.rs addr bs.length))) w' → Hid (WritePost w s addr bs (.returned (.int .i64 (layE s.rs addr bs.length))) w') := fun w' hh => by
   have e : writeRs s.rs addr bs = layRs s.rs addr bs := by unfold writeRs; rw [if_neg h0]
   refine ⟨by rw [HE.out], hh.2.1, ?_, ?_⟩
   ·rw [e]; exact hh.2.2.1
   ·rw [e]; exact hh.2.2.2
  have h0' : ((bs.length : Int) == 0) = false := by simpa using h0
  have HFF := toHid HF
  clear h hb HF hbytes hbb
  go_enter Tryz.func49, Tryz.ntmps49
  go_wp2_with fail
  refine HL.out.mono ?_
  rintro e w' hp
  obtain rfl := hp.1
  have H3 := HFF.out w' hp
  clear hp HFF HL
  generalize layE s.rs addr bs.length = x at H3
  go_wp2
  go_ret
  exact H3.out
end Go.Proofs.YtmhhahmjkopjhaaGreat.Mem
end
section
namespace Go.Proofs.YtmhhahmjkopjhaaGreat.Mem
open Go.RowKit
def SliceIs (w : World) (v : Value) (bs : List Int) : Prop := (bs = [] ∧ v = .slice none 0 0) ∨ (1 ≤ bs.length ∧ ∃ N, v = .slice (some ⟨N, 0, none⟩) bs.length bs.length ∧ Blk w N (bs.map (Value.int .u8)) 5)
def readE (rs : List Reg) (addr n : Int) : Int := if n < 0 then 2 else if n = 0 then 0 else lookE rs addr n
def readV (rs : List Reg) (addr n : Int) : List Int := if n ≤ 0 then [] else tellR rs addr n
def ReadPost (w : World) (s : MS) (addr n : Int) (e : Ending) (w' : World) : Prop := ∃ v, e = .returned (.tuple #[v, .int .i64 (readE s.rs addr n)]) ∧ SliceIs w' v (readV s.rs addr n) ∧ Touch [] w w'
def regOf (rs : List Reg) (id : Int) : Option Reg := rs.find? (fun r => r.id == id)
def BytesPost (w : World) (s : MS) (id : Int) (e : Ending) (w' : World) : Prop := Touch [] w w' ∧ match regOf s.rs id with
 | none => e = .returned (.tuple #[.slice none 0 0, .int .i64 14])
 | some r => ∃ v, e = .returned (.tuple #[v, .int .i64 0]) ∧ SliceIs w' v r.bytes
end Go.Proofs.YtmhhahmjkopjhaaGreat.Mem
end
section
namespace Go.Proofs.YtmhhahmjkopjhaaGreat
open Go.RowKit
theorem MemAt.find_at {w : World} {s : Mem.MS} (h : Mem.MemAt w s) {r : Mem.Reg} (hr : r ∈ s.rs) : Mem.findR s.rs r.base = some r := by
 refine Mem.findR_of h.sorted (fun x hx => (h.ok x hx).size1) hr ?_
 unfold Mem.hasB
 have := (h.ok r hr).size1
 rw [decide_eq_true_eq]
 omega
theorem bits31 : bits .and .i64 3 1 ≠ 0 := by decide
theorem bits32 : bits .and .i64 3 2 ≠ 0 := by decide
theorem MemAt.read_at {w : World} {s : Mem.MS} (h : Mem.MemAt w s) {r : Mem.Reg} (hr : r ∈ s.rs) (hp : r.perm = 3) : Mem.readE s.rs r.base r.bytes.length = 0 ∧ Mem.readV s.rs r.base r.bytes.length = r.bytes := by
 have hf := MemAt.find_at h hr
 have hok := h.ok r hr
 have h1 := hok.size1
 have hsb : r.sb = none := hok.plain.2 (by omega)
 have hm : Mem.mayB r r.base r.bytes.length 1 = true := by
  unfold Mem.mayB
  rw [decide_eq_true_eq, hp]
  exact ⟨by omega, bits31⟩
 have ha : Mem.allSetB r (r.base - r.base).toNat ((r.bytes.length : Nat) : Int).toNat = true := by
  unfold Mem.allSetB
  rw [hsb]
 constructor
 ·unfold Mem.readE
  rw [if_neg (by omega), if_neg (by omega)]
  unfold Mem.lookE
  rw [hf]
  dsimp only
  rw [if_pos hm, if_pos ha]
 ·unfold Mem.readV
  rw [if_neg (by omega)]
  unfold Mem.tellR
  rw [hf]
  dsimp only
  rw [if_pos ⟨hm, ha⟩, Int.sub_self]
  simp
theorem layR_all {r : Mem.Reg} {vs : List Int} (h : vs.length = r.bytes.length) : (Mem.layR r 0 vs).bytes = vs := by
 unfold Mem.layR
 simp [← h]
theorem MemAt.write_at {w : World} {s : Mem.MS} (h : Mem.MemAt w s) {r : Mem.Reg} (hr : r ∈ s.rs) (hp : r.perm = 3) {vs : List Int} (hl : vs.length = r.bytes.length) : Mem.writeE s.rs r.base vs = 0 ∧ Mem.writeRs s.rs r.base vs = Mem.updR s.rs r.id (Mem.layR · 0 vs) := by
 have hf := MemAt.find_at h hr
 have hok := h.ok r hr
 have h1 := hok.size1
 have hm : Mem.mayB r r.base vs.length 2 = true := by
  unfold Mem.mayB
  rw [decide_eq_true_eq, hp, hl]
  exact ⟨by omega, bits32⟩
 constructor
 ·unfold Mem.writeE Mem.layE
  rw [if_neg (by omega), hf]
  dsimp only
  rw [if_pos hm]
 ·unfold Mem.writeRs Mem.layRs
  rw [if_neg (by omega), hf]
  dsimp only
  rw [if_pos hm, Int.sub_self]
  rfl
end Go.Proofs.YtmhhahmjkopjhaaGreat
end
section
namespace Go.Proofs.YtmhhahmjkopjhaaGreat
open Go.RowKit
def lookP (x : PT) (i : Int) (bs : List Int) : (Int × Int) × List PX :=
 if chkP x.ds i bs.length = 0 then match x.qs[i.toNat]? with
  | some q => ((match (q.findA bs).1 with
   | some s => plI i (s : Int)
   | none => 0, 0), x.qs.set i.toNat (q.findA bs).2)
  | none => ((0, 14), x.qs)
 else ((0, chkP x.ds i bs.length), x.qs)
def PLookPost (w : World) (x : PT) (a : (Int × Int) × List PX) (e : Ending) (w' : World) : Prop := e = .returned (.tuple #[.int .u64 a.1.1, .int .i64 a.1.2]) ∧ ∃ x', PStep w w' x x' a.2
theorem pfind_lt {q : PX} {bs : List Int} {s : Nat} (h : (q.findA bs).1 = some s) : s < q.slots.length := by
 unfold PX.findA at h
 split at h
 ·unfold PX.find3 at h
  split at h
  ·exact (longTo_some h).1
  ·cases h
 ·unfold PX.find at h
  split at h
  ·exact sameP_lt h
  ·cases h
theorem method_find (k : Int) (k0 : 0 ≤ k) (k3 : k ≤ 3) (X : Nat) (n : Nat) : ∀ w : World, (method (n + 1) (typF k) (.pointer (some ⟨X, 0, none⟩)) "Find").run Tryz.prog w = .ok (findF k, .pointer (some ⟨X, 0, none⟩)) w := by
 obtain rfl | rfl | rfl | rfl : k = 0 ∨ k = 1 ∨ k = 2 ∨ k = 3 := by omega
 all_goals (intro w; kernel_rfl)
theorem call_find (k : Int) (k0 : 0 ≤ k) (k3 : k ≤ 3) : ∀ (args : Array Value) (w : World), (callFunc (findF k) args).run Tryz.prog w = .ok (.enter (findF k) args) w := by
 obtain rfl | rfl | rfl | rfl : k = 0 ∨ k = 1 ∨ k = 2 ∨ k = 3 := by omega
 all_goals (intro args w; kernel_rfl)
set_option maxHeartbeats 2000000 in
set_option maxRecDepth 100000 in
theorem plookup_any {w : World} {x : PT} (h : PTAt w x) (i : Int) {sa : Option Addr} {sl : Nat} {bs : List Int} (hk : KeyAt w sa sl bs) (sc : Nat) (hsc : sl ≤ sc) :
  Calls Tryz.prog 22 #[.pointer (some ⟨x.t, 0, none⟩), .int .i64 i, .slice sa sl sc] w (PLookPost w x (lookP x i bs)) := by
 have hz := (zero_of_info (P := Tryz.prog) zero89).1
 have hsz := (zero_of_info (P := Tryz.prog) zero89).2
 have H1 := toHid (asked_any h i sa sl sc (by have := hk.1; have := hk.2.2.1; omega))
 have hl := hk.1
 subst hl
 by_cases h0 : chkP x.ds i bs.length = 0
 ·obtain ⟨k, m, rfl, hm, hkey⟩ := chk_ok h0
  have hmem := List.mem_of_getElem? hm
  have hqs : x.qs[k]? = some m.q := by unfold PT.qs; rw [List.getElem?_map, hm]; rfl
  have hv : lookP x k bs = ((match (m.q.findA bs).1 with
   | some s => plI k (s : Int)
   | none => 0, 0), x.qs.set k (m.q.findA bs).2) := by
   unfold lookP
   rw [if_pos h0, Int.toNat_natCast, hqs]
  have ha : askV x k bs.length = m.v := by unfold askV; rw [if_pos h0, nth_of hm]; rfl
  rw [h0, ha] at H1
  rw [hv]
  have hok := h.ok m hmem
  have hgood := (h.maps m hmem).good
  have hkd := hok.kind
  have HMT := method_find m.d.kind (by rw [← hkd]; exact hgood.k0) (by rw [← hkd]; exact hgood.k3) m.X
  have HCF := call_find m.d.kind (by rw [← hkd]; exact hgood.k0) (by rw [← hkd]; exact hgood.k3)
  have HF := toHid (fun w0 (ht : Touch [] w w0) => kfind_any ((h.maps m hmem).still ht) (hk.touch ht) sc hsc)
  rw [hkd] at HF
  have HG := toHid (And.intro h (And.intro hm (hgood.findA bs)))
  have HS64 : Hid (∀ s, (m.q.findA bs).1 = some s → s < 64) := fun s hs => by
   have h1 := pfind_lt hs
   have h2 := hgood.m2
   omega
  have hk8 : k < 8 := by have := (List.getElem?_eq_some_iff.1 hm).1; have := h.many; omega
  unfold PMap.v ixV at H1
  generalize m.q.findA bs = fq at *
  obtain ⟨fo, q⟩ := fq
  generalize typF m.d.kind = ty at *
  generalize findF m.d.kind = ff at *
  clear h hk h0 hmem hqs hv ha hok hgood hkd hkey hm
  go_enter Tryz.func22, Tryz.ntmps22
  go_wp2_with fail
  refine Calls.mono H1.out ?_
  rintro e w2 ⟨rfl, ht2⟩
  have hta : ∀ o, Touch [] w (w2.alloc o) := fun o => ht2.alloc o
  have HT := toHid hta
  clear ht2 hta H1
  go_wp2_with fail
  refine Calls.mono (HF.out _ (HT.out _)) ?_
  rintro e w3 ⟨rfl, st⟩
  have HX := toHid (HG.out.1.step HG.out.2.1 (st.of_still (HT.out _)) HG.out.2.2.2)
  clear st HF HMT HCF
  cases fo with
  | none =>
   unfold foundV idx0
   go_wp2
   go_ret2
   exact ⟨rfl, HX.out⟩
  | some s =>
   have H3 := toHid (place_any w3 k s hk8 (HS64.out s rfl))
   unfold foundV idx0
   go_wp2_with fail
   refine Calls.mono H3.out ?_
   rintro e w3 ⟨rfl, rfl⟩
   go_wp2
   go_ret2
   exact ⟨rfl, HX.out⟩
 ·have hv : lookP x i bs = ((0, chkP x.ds i bs.length), x.qs) := if_neg h0
  have ha : askV x i bs.length = zeroV := if_neg h0
  rw [ha] at H1
  rw [hv]
  have HX := toHid h
  have hne : (chkP x.ds i bs.length != 0) = true := by simpa using h0
  generalize chkP x.ds i bs.length = ce at *
  unfold zeroV at H1
  clear h hk h0 hv ha
  go_enter Tryz.func22, Tryz.ntmps22
  go_wp2_with fail
  refine Calls.mono H1.out ?_
  rintro e w2 ⟨rfl, ht2⟩
  have HF : Hid (∀ o, ∃ x', PStep w (w2.alloc o) x x' x.qs) := fun o => ⟨x, PStep.refl HX.out (ht2.alloc o)⟩
  clear ht2
  go_wp2
  go_ret2
  exact ⟨rfl, HF.out _⟩
def delP (x : PT) (i : Int) (bs : List Int) : Int × List PX :=
 if chkP x.ds i bs.length = 0 then match x.qs[i.toNat]? with
  | some q => ((q.delA bs).1.2, x.qs.set i.toNat (q.delA bs).2)
  | none => (14, x.qs)
 else (chkP x.ds i bs.length, x.qs)
def PDelPost (w : World) (x : PT) (a : Int × List PX) (e : Ending) (w' : World) : Prop := e = .returned (.int .i64 a.1) ∧ ∃ x', PStep w w' x x' a.2
theorem count_any {w : World} {x : PT} (h : PTAt w x) : Calls Tryz.prog 11 #[.pointer (some ⟨x.t, 0, none⟩)] w fun e w' => e = .returned (.int .i64 x.maps.length) ∧ w' = w := by
 have c1 := h.c1
 unfold slV at c1
 clear h
 go_enter Tryz.func11, Tryz.ntmps11
 go_wp2
 go_ret
 exact ⟨rfl, rfl⟩
theorem count_nil (w : World) : Calls Tryz.prog 11 #[.pointer none] w fun e w' => e = .returned (.int .i64 0) ∧ w' = w := by
 go_enter Tryz.func11, Tryz.ntmps11
 go_wp2
 go_ret
 exact ⟨rfl, rfl⟩
end Go.Proofs.YtmhhahmjkopjhaaGreat
end
section
namespace Go.Proofs.YtmhhahmjkopjhaaGreat
open Go.RowKit
theorem method_put (k : Int) (k0 : 0 ≤ k) (k3 : k ≤ 3) (X : Nat) (n : Nat) : ∀ w : World, (method (n + 1) (typF k) (.pointer (some ⟨X, 0, none⟩)) "Put").run Tryz.prog w = .ok (putF k, .pointer (some ⟨X, 0, none⟩)) w := by
 obtain rfl | rfl | rfl | rfl : k = 0 ∨ k = 1 ∨ k = 2 ∨ k = 3 := by omega
 all_goals (intro w; kernel_rfl)
theorem call_put (k : Int) (k0 : 0 ≤ k) (k3 : k ≤ 3) : ∀ (args : Array Value) (w : World), (callFunc (putF k) args).run Tryz.prog w = .ok (.enter (putF k) args) w := by
 obtain rfl | rfl | rfl | rfl : k = 0 ∨ k = 1 ∨ k = 2 ∨ k = 3 := by omega
 all_goals (intro args w; kernel_rfl)
theorem poldFrom_lt (ws : List Int) : ∀ n a, a < ws.length → n ≤ ws.length → oldFrom ws n a < ws.length
 | 0, a, h, _ => h
 | n + 1, a, h, hn => by
  rw [oldFrom_succ]
  refine poldFrom_lt ws n _ ?_ (by omega)
  split <;> omega
theorem pput_slot {q : PX} (g : PGood q) {bs : List Int} {fl : Int} (h : (q.putA bs fl).1.2.2 = 0) : ∃ s : Nat, (q.putA bs fl).1.1 = s ∧ s < q.slots.length := by
 unfold PX.putA at h ⊢
 split at h
 ·rename_i hk
  rw [if_pos hk]
  unfold PX.put3 at h ⊢
  split at h
  ·rename_i hf
   rw [if_pos hf]
   split at h
   ·cases h
   ·rename_i hfl
    rw [if_neg hfl]
    cases hs : sameP q.slots (cutP bs) with
    | some i =>
     rw [hs] at h
     dsimp only at h ⊢
     split at h
     ·cases h
     ·rename_i h1
      rw [if_neg h1]
      exact ⟨i, rfl, sameP_lt hs⟩
    | none =>
     rw [hs] at h
     dsimp only at h ⊢
     split at h
     ·cases h
     ·rename_i h1
      rw [if_neg h1]
      cases hf2 : freeP q.slots with
      | some f => exact ⟨f, rfl, freeP_lt hf2⟩
      | none => rw [hf2] at h; cases h
  ·cases h
 ·rename_i hk
  rw [if_neg hk]
  unfold PX.put at h ⊢
  split at h
  ·rename_i hf
   rw [if_pos hf]
   split at h
   ·cases h
   ·rename_i hfl
    rw [if_neg hfl]
    cases hs : sameP q.slots bs with
    | some i =>
     rw [hs] at h
     dsimp only at h ⊢
     split at h
     ·cases h
     ·rename_i h1
      rw [if_neg h1]
      exact ⟨i, rfl, sameP_lt hs⟩
    | none =>
     rw [hs] at h
     dsimp only at h ⊢
     split at h
     ·cases h
     ·rename_i h0
      rw [if_neg h0]
      split at h
      ·cases h
      ·rename_i h1
       rw [if_neg h1]
       cases hr : q.room with
       | none => rw [hr] at h; cases h
       | some f =>
        refine ⟨f, rfl, ?_⟩
        unfold PX.room at hr
        cases hf2 : freeP q.slots with
        | some f2 =>
         rw [hf2] at hr
         injection hr with hr
         rw [← hr]
         exact freeP_lt hf2
        | none =>
         rw [hf2] at hr
         dsimp only at hr
         split at hr
         ·injection hr with hr
          rw [← hr, ← g.whens]
          have := g.m1
          have := g.whens
          exact poldFrom_lt _ _ _ (by omega) (Nat.le_refl _)
         ·cases hr
  ·cases h
def updP (x : PT) (i : Int) (bs vs : List Int) (fl : Int) : Int × List PX × Option Int :=
 if chkP x.ds i bs.length = 0 then match x.maps[i.toNat]? with
  | some m => if (vs.length : Int) = m.d.val then
    (if (m.q.putA bs fl).1.2.2 = 0 then (0, x.qs.set i.toNat (m.q.putA bs fl).2, some (plI i (m.q.putA bs fl).1.1))
    else ((m.q.putA bs fl).1.2.2, x.qs.set i.toNat (m.q.putA bs fl).2, none))
   else (2, x.qs, none)
  | none => (14, x.qs, none)
 else (chkP x.ds i bs.length, x.qs, none)
structure PUSt (w w' : World) (x x' : PT) (s : Mem.MS) (qs : List PX) (rs : List Mem.Reg) : Prop where
 both : PBoth w' x' { s with rs := rs }
 qs : x'.qs = qs
 t : x'.t = x.t
 ds : x'.ds = x.ds
 sblk : ({ s with rs := rs } : Mem.MS).blocks = s.blocks
 touch : Touch (x.blocks ++ s.blocks) w w'
 blocks : ∀ b ∈ x'.blocks, b ∈ x.blocks ∨ w.heap.size ≤ b
theorem PUSt.same {w w' : World} {x x' : PT} {s : Mem.MS} {qs : List PX} (h : PBoth w x s) (st : PStep w w' x x' qs) : PUSt w w' x x' s qs s.rs :=
 ⟨h.step st, st.qs, st.t, st.ds, rfl, st.touch.mono (fun _b hb => Or.inl (List.mem_append_left _ hb)), st.blocks⟩
def updE (rs : List Mem.Reg) (vs : List Int) (a : Int × List PX × Option Int) : Int := match a.2.2 with
 | some p => Mem.writeE rs p vs
 | none => a.1
def updRs (rs : List Mem.Reg) (vs : List Int) (a : Int × List PX × Option Int) : List Mem.Reg := match a.2.2 with
 | some p => Mem.writeRs rs p vs
 | none => rs
def PUpdPost (w : World) (x : PT) (s : Mem.MS) (vs : List Int) (a : Int × List PX × Option Int) (e : Ending) (w' : World) : Prop := e = .returned (.int .i64 (updE s.rs vs a)) ∧ ∃ x', PUSt w w' x x' s a.2.1 (updRs s.rs vs a)
set_option maxHeartbeats 4000000 in
set_option maxRecDepth 100000 in
theorem pupdate_any {w : World} {x : PT} {s : Mem.MS} (h : PBoth w x s) (i : Int) {sa : Option Addr} {sl : Nat} {bs : List Int} (hk : KeyAt w sa sl bs) (sc : Nat) (hsc : sl ≤ sc)
  (hout : ∀ b off, sa = some ⟨b, off, none⟩ → 1 ≤ bs.length → b ∉ x.blocks) {va : Option Addr} {vl : Nat} {vs : List Int} (hv : KeyAt w va vl vs) (vc : Nat) (hvout : ∀ b off, va = some ⟨b, off, none⟩ → 1 ≤ vs.length → b ∉ x.blocks) (fl : Int) (f0 : 0 ≤ fl) :
  Calls Tryz.prog 24 #[.pointer (some ⟨x.t, 0, none⟩), .int .i64 i, .slice sa sl sc, .slice va vl vc, .int .u64 fl] w (PUpdPost w x s vs (updP x i bs vs fl)) := by
 have hz := (zero_of_info (P := Tryz.prog) zero89).1
 have hsz := (zero_of_info (P := Tryz.prog) zero89).2
 have H1 := toHid (asked_any h.tab i sa sl sc (by have := hk.1; have := hk.2.2.1; omega))
 have hl := hk.1
 have hvl := hv.1
 subst hl hvl
 have hvl9 := hv.2.2.1
 by_cases h0 : chkP x.ds i bs.length = 0
 ·obtain ⟨k, m, rfl, hm, hkey⟩ := chk_ok h0
  have hmem := List.mem_of_getElem? hm
  have hv1 : updP x k bs vs fl = if (vs.length : Int) = m.d.val then
    (if (m.q.putA bs fl).1.2.2 = 0 then (0, x.qs.set k (m.q.putA bs fl).2, some (plI k (m.q.putA bs fl).1.1))
    else ((m.q.putA bs fl).1.2.2, x.qs.set k (m.q.putA bs fl).2, none))
   else (2, x.qs, none) := by
   unfold updP
   rw [if_pos h0, Int.toNat_natCast, hm]
  have ha : askV x k bs.length = m.v := by unfold askV; rw [if_pos h0, nth_of hm]; rfl
  rw [h0, ha] at H1
  rw [hv1]
  have hok := h.tab.ok m hmem
  have hgood := (h.tab.maps m hmem).good
  have hkd := hok.kind
  by_cases hvv : (vs.length : Int) = m.d.val
  ·rw [if_pos hvv]
   have hs : ((vs.length : Int) != m.d.val) = false := by simpa using hvv
   have HMT := method_put m.d.kind (by rw [← hkd]; exact hgood.k0) (by rw [← hkd]; exact hgood.k3) m.X
   have HCF := call_put m.d.kind (by rw [← hkd]; exact hgood.k0) (by rw [← hkd]; exact hgood.k3)
   have HF := toHid (fun w0 (ht : Touch [] w w0) => kput_any ((h.tab.maps m hmem).still ht) (hk.touch ht) (fun b off e hp hx => hout b off e hp (PT.mem_map hmem hx)) sc hsc fl f0)
   rw [hkd] at HF
   have HG := toHid (And.intro h (And.intro hm (hgood.putA bs fl)))
   have HSL := toHid (fun h9 => pput_slot hgood (bs := bs) (fl := fl) h9)
   have HV := toHid (And.intro hv (And.intro hvout hgood.m2))
   have hk8 : k < 8 := by have := (List.getElem?_eq_some_iff.1 hm).1; have := h.tab.many; omega
   unfold PMap.v ixV at H1
   generalize m.q.putA bs fl = pq at *
   obtain ⟨⟨sI, fr, er⟩, q⟩ := pq
   generalize hVL : vs.length = VL at *
   have HVL := toHid hVL
   generalize typF m.d.kind = ty at *
   generalize putF m.d.kind = ff at *
   generalize hmv : m.d.val = mv at *
   clear h hk hv hvout hout h0 hmem hv1 hkey hm hok hgood hkd hVL hmv ha hvv
   by_cases he : er = 0
   ·subst he
    rw [if_pos rfl]
    go_enter Tryz.func24, Tryz.ntmps24
    go_wp2_with fail
    refine Calls.mono H1.out ?_
    rintro e w2 ⟨rfl, ht2⟩
    have hta : ∀ o, Touch [] w (w2.alloc o) := fun o => ht2.alloc o
    have HT := toHid hta
    clear ht2 hta H1
    go_wp2_with fail
    refine Calls.mono (HF.out _ (HT.out _)) ?_
    rintro e w3 ⟨rfl, st⟩
    obtain ⟨x1, st1⟩ := HG.out.1.tab.step HG.out.2.1 (st.of_still (HT.out _)) HG.out.2.2.2
    obtain ⟨sN, hsI, hsN⟩ := HSL.out trivial
    have hsI : sI = sN := hsI
    subst hsI
    have hB := HG.out.1.step st1
    have hBd := hB.still ((Touch.refl [] w3).drew)
    have hs64 : sN < 64 := by have := HV.out.2.2; omega
    have HP := toHid (fun w0 => place_any w0 k sN hk8 hs64)
    have hkv := (HV.out.1.over st1.touch (fun b off e hp => HV.out.2.1 b off e (by rw [← HVL.out]; exact hp))).touch ((Touch.refl [] w3).drew)
    have hav : Mem.ArgAt w3.drew (.slice va VL vc) vs := ⟨va, vc, by rw [HVL.out], hkv.2.1, hkv.2.2.1, fun hp => by
     obtain ⟨b, off, e1, hc⟩ := hkv.2.2.2 hp
     refine ⟨b, off, e1, fun j v hj => ?_⟩
     have hjl : j < vs.length := by have := (List.getElem?_eq_some_iff.1 hj).1; simpa using this
     have := hc j hjl
     rw [List.getElem?_map, List.getElem?_eq_getElem hjl] at hj
     rw [List.getD_eq_getElem?_getD, List.getElem?_eq_getElem hjl] at this
     rw [this]
     exact hj⟩
    have HA := toHid (Mem.write_any hBd.mem (plI k sN) (.slice va VL vc) vs (by unfold plI; omega) (by unfold plI; omega) hav)
    have ht0 : x.t ∉ s.blocks := by rw [← st1.t]; exact hB.apart _ (PT.mem_top (by simp [PT.top]))
    have e0 := hBd.tab.c0
    rw [hBd.at_, st1.t] at e0
    have HSS : Hid (∀ w', Touch s.blocks w3.drew w' → w'.cell? ⟨x.t, 0, none⟩ = some (.pointer (some ⟨s.m, 0, none⟩))) := fun w' ht => ht.cell e0 ht0
    have HU : Hid (∀ w', Touch s.blocks w3.drew w' → Mem.MemAt w' { s with rs := Mem.writeRs s.rs (plI k sN) vs } → ({ s with rs := Mem.writeRs s.rs (plI k sN) vs } : Mem.MS).blocks = s.blocks → PUpdPost w x s vs (0, x.qs.set k q, some (plI k sN)) (.returned (.int .i64 (Mem.writeE s.rs (plI k sN) vs))) w') := fun w' ht hm hb =>
     ⟨rfl, x1, ⟨hBd.over hm rfl (fun b hb' => Or.inl (hb ▸ hb')) ht, st1.qs, st1.t, st1.ds, hb, ((st1.touch.drew).mono (S' := x.blocks ++ s.blocks) (fun b hb => Or.inl (List.mem_append_left _ hb))).trans ht (fun b hb => Or.inl (List.mem_append_right _ hb)), st1.blocks⟩⟩
    generalize plI k sN = pl at *
    clear st st1 hB hBd hs64 hkv hav ht0 e0 hsN HF HMT HCF HT
    go_wp2_with fail
    refine wp_region_held_drew (S := fun w' => w'.cell? ⟨x.t, 0, none⟩ = some (.pointer (some ⟨s.m, 0, none⟩))) (by kernel_rfl) ?_ (fun hHeld => ?_)
    ·exact HSS.out _ (Touch.refl _ _)
    refine wpAnyH_take (i := 0) (v := ?_) rfl (by kernel_rfl) (by kernel_rfl) (by kernel_rfl) (fun _ _ _ h => h) (Or.inl ⟨by rfl, ?_⟩) (by assumption) ?_
    rotate_left
    ·(intro w hSw; (try dsimp only at hSw); go_simp; try with_reducible rfl)
    simp only [Act.put, List.getElem_toArray, List.getElem_cons_zero, List.setIfInBounds_toArray, List.set_cons_zero, List.set_cons_succ]
    refine wpAnyH_take (i := 1) (v := ?_) rfl (by kernel_rfl) (by kernel_rfl) (by kernel_rfl) (fun _ _ _ h => h) (Or.inl ⟨by rfl, ?_⟩) (by assumption) ?_
    rotate_left
    ·(intro w hSw; (try dsimp only at hSw); go_simp; try with_reducible rfl)
    simp only [Act.put, List.getElem_toArray, List.getElem_cons_zero, List.getElem_cons_succ, List.setIfInBounds_toArray, List.set_cons_zero, List.set_cons_succ]
    refine wpAnyH_take (i := 2) (v := ?_) rfl (by kernel_rfl) (by kernel_rfl) (by kernel_rfl) (fun _ _ _ h => h) (Or.inl ⟨by rfl, ?_⟩) (by assumption) ?_
    rotate_left
    ·(intro w hSw; (try dsimp only at hSw); go_simp; try with_reducible rfl)
    simp only [Act.put, List.getElem_toArray, List.getElem_cons_zero, List.getElem_cons_succ, List.setIfInBounds_toArray, List.set_cons_zero, List.set_cons_succ]
    refine wpAnyH_take (i := 3) (v := ?_) rfl (by kernel_rfl) (by kernel_rfl) (by kernel_rfl) (fun _ _ _ h => h) (Or.inl ⟨by rfl, ?_⟩) (by assumption) ?_
    rotate_left
    ·(intro w hSw; (try dsimp only at hSw); go_simp; try with_reducible rfl)
    simp only [Act.put, List.getElem_toArray, List.getElem_cons_zero, List.getElem_cons_succ, List.setIfInBounds_toArray, List.set_cons_zero, List.set_cons_succ]
    refine wpAnyH_take (i := 4) (v := ?_) rfl (by kernel_rfl) (by kernel_rfl) (by kernel_rfl) (fun _ _ _ h => h) (Or.inl ⟨by rfl, ?_⟩) (by assumption) ?_
    rotate_left
    ·(intro w hSw; (try dsimp only at hSw); go_simp; try with_reducible rfl)
    simp only [Act.put, List.getElem_toArray, List.getElem_cons_zero, List.getElem_cons_succ, List.setIfInBounds_toArray, List.set_cons_zero, List.set_cons_succ]
    refine wpAnyH_take (i := 5) (v := ?_) rfl (by kernel_rfl) (by kernel_rfl) (by kernel_rfl) (fun _ _ _ h => h) (Or.inl ⟨by rfl, ?_⟩) (by assumption) ?_
    rotate_left
    ·(intro w hSw; (try dsimp only at hSw); go_simp; try with_reducible rfl)
    simp only [Act.put, List.getElem_toArray, List.getElem_cons_zero, List.getElem_cons_succ, List.setIfInBounds_toArray, List.set_cons_zero, List.set_cons_succ]
    refine wpAnyH_take (i := 7) (v := ?_) rfl (by kernel_rfl) (by kernel_rfl) (by kernel_rfl) (fun _ _ _ h => h) (Or.inl ⟨by rfl, ?_⟩) (by assumption) ?_
    rotate_left
    ·(intro w hSw; (try dsimp only at hSw); go_simp; try with_reducible rfl)
    simp only [Act.put, List.getElem_toArray, List.getElem_cons_zero, List.getElem_cons_succ, List.setIfInBounds_toArray, List.set_cons_zero, List.set_cons_succ]
    refine wpAnyH_ready (rs := [6]) (by kernel_rfl) (by simp) ?_
    refine AllReadyH.cons rfl (fun K hK => ?_) AllReadyH.nil
    simp only [List.getElem_toArray, List.getElem_cons_zero, List.getElem_cons_succ]
    go_simp
    refine Calls.mono (HP.out _) ?_; rintro e w4 ⟨rfl, rfl⟩
    go_wp2_with fail
    refine hK.out _ _ ?_ (fun hHeld => ?_)
    ·exact HSS.out _ (Touch.refl _ _)
    clear hK K
    try simp only [Act.put, List.getElem_toArray, List.getElem_cons_zero, List.getElem_cons_succ, List.setIfInBounds_toArray, List.set_cons_zero, List.set_cons_succ]
    refine wpAnyH_ready (rs := [8]) (by kernel_rfl) (by simp) ?_
    refine AllReadyH.cons rfl (fun K hK => ?_) AllReadyH.nil
    simp only [List.getElem_toArray, List.getElem_cons_zero, List.getElem_cons_succ]
    go_simp
    refine Calls.mono HA.out ?_; rintro e w4 ⟨rfl, ht4, hm4, hb4⟩; have HN := toHid (HU.out _ ht4 hm4 hb4); have HTX := toHid ht4; clear ht4 hm4 hb4
    go_wp2_with fail
    refine hK.out _ _ ?_ (fun hHeld => ?_)
    ·exact HSS.out _ HTX.out
    clear hK K
    try simp only [Act.put, List.getElem_toArray, List.getElem_cons_zero, List.getElem_cons_succ, List.setIfInBounds_toArray, List.set_cons_zero, List.set_cons_succ]
    refine wpAnyH_ready (rs := [9]) (by kernel_rfl) (by simp) ?_
    refine AllReadyH.cons rfl (fun K hK => ?_) AllReadyH.nil
    simp only [List.getElem_toArray, List.getElem_cons_zero, List.getElem_cons_succ]
    go_simp
    refine hK.out _ _ ?_ (fun hHeld => ?_)
    ·exact hHeld
    clear hK K
    try simp only [Act.put, List.getElem_toArray, List.getElem_cons_zero, List.getElem_cons_succ, List.setIfInBounds_toArray, List.set_cons_zero, List.set_cons_succ]
    refine wpAnyH_done (by kernel_rfl) ?_ _
    clear hHeld HSS HA HU HTX
    go_wp2
    go_ret
    exact HN.out
   ·rw [if_neg he]
    have hne : (er != 0) = true := by simpa using he
    clear he
    go_enter Tryz.func24, Tryz.ntmps24
    go_wp2_with fail
    refine Calls.mono H1.out ?_
    rintro e w2 ⟨rfl, ht2⟩
    have hta : ∀ o, Touch [] w (w2.alloc o) := fun o => ht2.alloc o
    have HT := toHid hta
    clear ht2 hta H1
    go_wp2_with fail
    refine Calls.mono (HF.out _ (HT.out _)) ?_
    rintro e w3 ⟨rfl, st⟩
    obtain ⟨x1, st1⟩ := HG.out.1.tab.step HG.out.2.1 (st.of_still (HT.out _)) HG.out.2.2.2
    have HX := toHid (PUSt.same HG.out.1 st1)
    clear st st1 HF HMT HCF
    go_wp2
    go_ret
    exact ⟨rfl, x1, HX.out⟩
  ·rw [if_neg hvv]
   have hs : ((vs.length : Int) != m.d.val) = true := by simpa using hvv
   have HX := toHid h
   unfold PMap.v ixV at H1
   generalize vs.length = VL at *
   generalize typF m.d.kind = ty at *
   generalize m.d.val = mv at *
   clear h hk hv hvout hout h0 hmem hv1 hkey hm hok hgood hkd ha hvv
   go_enter Tryz.func24, Tryz.ntmps24
   go_wp2_with fail
   refine Calls.mono H1.out ?_
   rintro e w2 ⟨rfl, ht2⟩
   have HF : Hid (∀ o, ∃ x', PUSt w (w2.alloc o) x x' s x.qs s.rs) := fun o => ⟨x, PUSt.same HX.out (PStep.refl HX.out.tab (ht2.alloc o))⟩
   clear ht2
   go_wp2
   go_ret
   exact ⟨rfl, HF.out _⟩
 ·have hv1 : updP x i bs vs fl = (chkP x.ds i bs.length, x.qs, none) := if_neg h0
  have ha : askV x i bs.length = zeroV := if_neg h0
  rw [ha] at H1
  rw [hv1]
  have HX := toHid h
  have hne : (chkP x.ds i bs.length != 0) = true := by simpa using h0
  unfold zeroV at H1
  clear hk h0 hv hv1 ha hout hvout h
  generalize chkP x.ds i bs.length = ce at *
  go_enter Tryz.func24, Tryz.ntmps24
  go_wp2_with fail
  refine Calls.mono H1.out ?_
  rintro e w2 ⟨rfl, ht2⟩
  have HF : Hid (∀ o, ∃ x', PUSt w (w2.alloc o) x x' s x.qs s.rs) := fun o => ⟨x, PUSt.same HX.out (PStep.refl HX.out.tab (ht2.alloc o))⟩
  clear ht2
  go_wp2
  go_ret
  exact ⟨rfl, HF.out _⟩
end Go.Proofs.YtmhhahmjkopjhaaGreat
end
section
namespace Go.Proofs.YtmhhahmjkopjhaaGreat.Mem
open Go.RowKit
def ReadPost2 (w : World) (s : MS) (addr n : Int) (e : Ending) (w' : World) : Prop := ∃ v, e = .returned (.tuple #[v, .int .i64 (readE s.rs addr n)]) ∧ SliceIs w' v (readV s.rs addr n) ∧ (∀ b off l c, v = .slice (some ⟨b, off, none⟩) l c → w.heap.size ≤ b) ∧ Touch [] w w'
end Go.Proofs.YtmhhahmjkopjhaaGreat.Mem
end
section
namespace Go.Proofs.YtmhhahmjkopjhaaGreat
open Go.RowKit
def getP (x : PT) (rs : List Mem.Reg) (i : Int) (bs : List Int) : (List Int × Int) × List PX :=
 if chkP x.ds i bs.length = 0 then match x.maps[i.toNat]? with
  | some m => ((match (m.q.findA bs).1 with
   | some s => (Mem.readV rs (plI i (s : Int)) m.d.val, Mem.readE rs (plI i (s : Int)) m.d.val)
   | none => ([], 14)), x.qs.set i.toNat (m.q.findA bs).2)
  | none => (([], 14), x.qs)
 else (([], chkP x.ds i bs.length), x.qs)
def PGetPost (w : World) (x : PT) (a : (List Int × Int) × List PX) (e : Ending) (w' : World) : Prop := ∃ v, e = .returned (.tuple #[v, .int .i64 a.1.2]) ∧ Mem.SliceIs w' v a.1.1 ∧ (∀ b off l c, v = .slice (some ⟨b, off, none⟩) l c → w.heap.size ≤ b) ∧ ∃ x', PStep w w' x x' a.2
end Go.Proofs.YtmhhahmjkopjhaaGreat
end
section
namespace Go.Proofs.YtmhhahmjkopjhaaGreat
open Go.RowKit
theorem maxSum_le (ds : List MDef) (h : ∀ d ∈ ds, 0 ≤ d.max) (k : Nat) : maxSum (ds.take k) ≤ maxSum ds := by
 unfold maxSum
 induction ds generalizing k with
 | nil => simp
 | cons d ds ih =>
  cases k with
  | zero =>
   have h0 : 0 ≤ (List.map MDef.max (d :: ds)).sum := by
    have : ∀ l : List MDef, (∀ d ∈ l, 0 ≤ d.max) → 0 ≤ (l.map MDef.max).sum := fun l => by
     induction l with
     | nil => simp
     | cons a l ih2 =>
      intro hl
      have h1 := hl a (by simp)
      have h2 := ih2 (fun d hd => hl d (by simp [hd]))
      simp only [List.map_cons, List.sum_cons]
      omega
    exact this _ h
   simpa using h0
  | succ k =>
   have := ih (fun d hd => h d (by simp [hd])) k
   simp only [List.take_succ_cons, List.map_cons, List.sum_cons]
   omega
structure Settles (x : PT) (s : Mem.MS) : Prop where
 mx : ∀ m ∈ x.maps, 1 ≤ m.d.max ∧ m.d.max ≤ 64
 room : roomOk x.ds s.rs
 next : s.next ≤ 1000000
theorem Settles.add {w w' : World} {x : PT} {s s' : Mem.MS} (h : Settles x s) (ho : ∀ m ∈ x.maps, PMapOk m) (hmany : x.maps.length ≤ 8) {k q : Nat} {m : PMap} (hm : x.maps[k]? = some m) (hq : (q : Int) < m.d.max) (hS : SetAt w w' x s s' (plcs x.ds k ++ rowP k m.d.val q)) :
  Mem.addE s'.rs (plI k q) m.d.val 3 = 0 ∧ s'.next < 4611686018427387904 := by
 have hmem := List.mem_of_getElem? hm
 have hok := ho m hmem
 have hdk : x.ds[k]? = some m.d := by unfold PT.ds; rw [List.getElem?_map, hm]; rfl
 have hkl := (List.getElem?_eq_some_iff.1 hm).1
 have hdl : x.ds.length = x.maps.length := by simp [PT.ds]
 have hmx : ∀ d ∈ x.ds, 1 ≤ d.max ∧ d.max ≤ 64 ∧ 1 ≤ d.val ∧ d.val ≤ 64 := fun d hd => by
  obtain ⟨m', hm', rfl⟩ := List.mem_map.1 hd
  exact ⟨(h.mx m' hm').1, (h.mx m' hm').2, (ho m' hm').v1, (ho m' hm').v2⟩
 have hf := hS.adds.facts
 have hle := plcs_len (ds := x.ds) (k := k) (by omega) (fun d hd => by have := hmx d hd; omega)
 have hsum := maxSum_snoc x.ds k m.d hdk
 have hs1 := maxSum_le x.ds (fun d hd => by have := hmx d hd; omega) (k + 1)
 have hr := h.room.2
 have hbd := maxSum_bd x.ds (fun d hd => by have := hmx d hd; omega)
 have hlen : (plcs x.ds k ++ rowP k m.d.val q).length = (plcs x.ds k).length + q := by rw [List.length_append, rowP_len]
 have hm64 := h.mx m hmem
 have hfree := hS.adds.free (h.room.1 k m.d (by omega) hdk q hq) (fun p hp => by
  rcases List.mem_append.1 hp with hp | hp
  ·obtain ⟨i, d, u, hi, hd, hu, rfl⟩ := plcs_mem hp
   have h9 := hmx d (List.mem_of_getElem? hd)
   refine ⟨by dsimp only; omega, ?_⟩
   exact pl_apart (by omega) (by omega) hok.v1 hok.v2 h9.2.2.1 h9.2.2.2 (Or.inl (by omega))
  ·obtain ⟨u, hu, rfl⟩ := List.mem_map.1 hp
   have h9 := List.mem_range.1 hu
   refine ⟨by have := hok.v1; dsimp only; omega, ?_⟩
   exact pl_apart (by omega) (by omega) hok.v1 hok.v2 hok.v1 hok.v2 (Or.inr (by omega)))
 obtain ⟨f1, f2, _⟩ := hf
 have hnx := h.next
 have f1 : s'.rs.length = s.rs.length + ((plcs x.ds k).length + q) := by rw [← hlen]; exact f1
 have f2 : s'.next = s.next + ((plcs x.ds k).length + q) := by rw [← hlen]; exact f2
 refine ⟨?_, by omega⟩
 unfold Mem.addE Mem.mayBeB
 have hv1 := hok.v1
 have hv2 := hok.v2
 rw [decide_eq_true (by unfold plI; omega), if_neg (by decide), hfree, if_neg (by decide), if_neg (by omega)]
set_option maxHeartbeats 4000000 in
set_option maxRecDepth 100000 in
theorem settle_any {w : World} {x : PT} {s : Mem.MS} (h : PBoth w x s) (hs : Settles x s) :
  Calls Tryz.prog 47 #[.pointer (some ⟨x.t, 0, none⟩)] w fun e w' => e = .returned (.tuple #[]) ∧ ∃ s', SetAt w w' x s s' (plcs x.ds x.maps.length) := by
 have hz := (zero_of_info (P := Tryz.prog) zero89).1
 have hsz := (zero_of_info (P := Tryz.prog) zero89).2
 have HS := toHid hs
 have HH := toHid h
 have hmany := h.tab.many
 have c1 := h.tab.c1
 unfold slV at c1
 generalize hsg : (x.g.map fun b => (⟨b, 0, none⟩ : Addr)) = sg at *
 have HG := toHid hsg
 generalize hL : x.maps.length = L at *
 have HL := toHid hL
 clear hs h hsg hL
 go_enter Tryz.func47, Tryz.ntmps47
 go_wp2_with fail
 go_loopw [10] (fun t w' => ∃ k : Nat, k ≤ L ∧ t = .int .i64 k ∧ Hid (∃ s', SetAt w w' x s s' (plcs x.ds k))) (fun t _ => L - (intOf t).toNat)
 case atStart => exact ⟨0, by omega, rfl, s, SetAt.start HH.out⟩
 case round =>
  obtain ⟨k, hk, rfl, HI⟩ := hrel
  by_cases hlt : k < L
  ·obtain ⟨s1, hS1⟩ := HI.out
   obtain ⟨m, hm⟩ : ∃ m, x.maps[k]? = some m := ⟨_, List.getElem?_eq_getElem (by rw [HL.out]; exact hlt)⟩
   have hmem := List.mem_of_getElem? hm
   have hB := hS1.both
   obtain ⟨gb, hg⟩ := hB.tab.some_g hm
   have hsg := HG.out
   rw [hg, Option.map_some] at hsg
   subst hsg
   obtain ⟨b0, b1, b2, b3, b4⟩ := hB.tab.boxed hm hg
   have hmk := HS.out.mx m hmem
   have hok := hB.tab.ok m hmem
   have hm1 := hok.v1
   have hm2 := hok.v2
   obtain ⟨V, hV⟩ : ∃ V : Nat, m.d.val = V := Int.eq_ofNat_of_zero_le (by omega)
   obtain ⟨M, hM⟩ : ∃ M : Nat, m.d.max = M := Int.eq_ofNat_of_zero_le (by omega)
   have hnb : wr.heap.size ∉ s1.blocks := fun hx => by have := hB.mem.lt _ hx; omega
   have hNB := Blk.newA wr (BoxCells m) _ 89 rfl
   have HM := toHid (And.intro hm (And.intro hV (And.intro hM (And.intro hB.tab.ok hB.tab.many))))
   have hk8 : k < 8 := by omega
   have HJ0 : Hid (∃ s2, SetAt w (wr.alloc (.cells (BoxCells m) 89)) x s s2 (plcs x.ds k ++ rowP k m.d.val 0) ∧ wr.heap.size ∉ s2.blocks ∧ Blk (wr.alloc (.cells (BoxCells m) 89)) wr.heap.size (BoxCells m).toList 89) :=
    ⟨s1, by rw [show rowP k m.d.val 0 = [] from rfl, List.append_nil]; exact hS1.still ((Touch.refl [] wr).alloc _), hnb, hNB⟩
   have c3 : (wr.alloc (.cells (BoxCells m) 89)).cell? ⟨wr.heap.size, 3, none⟩ = some (.int .i64 (M : Int)) := by
    rw [← hM]
    exact hNB.cell rfl
   rw [hV] at b2 hm1 hm2
   rw [hM] at b3 hmk
   unfold BoxCells ixV at HJ0 c3
   unfold ixV at b4
   rw [hV, hM] at HJ0 c3
   generalize typF m.d.kind = ty at *
   generalize m.X = X at *
   generalize m.d.kind = kd at *
   generalize m.d.key = ky at *
   clear hB hmem hok hNB hm hV hM HI hg c1 hS1 hnb
   generalize hwb : wr.alloc (.cells #[.int .i64 kd, .int .i64 ky, .int .i64 (V : Int), .int .i64 (M : Int), .iface ty (.pointer (some ⟨X, 0, none⟩))] 89) = wb at *
   go_wp2_with fail
   clear hwb b0 b1 b2 b3 b4 c3
   generalize wr.heap.size = B at *
   have hM64 : M ≤ 64 := by omega
   go_loopw [18] (fun t w' => ∃ q : Nat, q ≤ M ∧ t = .int .i64 q ∧ Hid (∃ s2, SetAt w w' x s s2 (plcs x.ds k ++ rowP k V q) ∧ B ∉ s2.blocks ∧ Blk w' B [.int .i64 kd, .int .i64 ky, .int .i64 (V : Int), .int .i64 (M : Int), .iface ty (.pointer (some ⟨X, 0, none⟩))] 89)) (fun t _ => M - (intOf t).toNat)
   case atStart => exact ⟨0, by omega, rfl, HJ0.out⟩
   case round =>
    obtain ⟨q, hq, rfl, HJ⟩ := hrel
    obtain ⟨s2, hS2, hnb, hNB⟩ := HJ.out
    by_cases hqt : q < M
    ·have hB2 := hS2.both
     obtain ⟨hm, hV, hM, hok, hmany⟩ := HM.out
     have hadd := HS.out.add hok hmany hm (q := q) (by rw [hM]; omega) (by rw [hV]; exact hS2)
     rw [hV] at hadd
     have HP := toHid (fun w0 => place_any w0 k q hk8 (by omega))
     have hBd := hB2.still ((Touch.refl [] wr).drew)
     have HA := toHid (Mem.add_any hBd.mem (plI k q) V 3 (by unfold plI; omega) (by unfold plI; omega) hadd.2)
     have ht0 : x.t ∉ s2.blocks := hB2.apart _ (PT.mem_top (by simp [PT.top]))
     have e0 := hBd.tab.c0
     rw [hBd.at_] at e0
     have e2 := (hNB.drew).cell (i := 2) rfl
     have HSS : Hid (∀ w', Touch s2.blocks wr.drew w' → w'.cell? ⟨x.t, 0, none⟩ = some (.pointer (some ⟨s2.m, 0, none⟩)) ∧ w'.cell? ⟨B, 2, none⟩ = some (.int .i64 (V : Int))) := fun w' ht => ⟨ht.cell e0 ht0, ht.cell e2 hnb⟩
     have HNx : Hid (∀ e w3, Mem.AddPost wr.drew s2 (plI k q) V 3 e w3 → ∃ s3, SetAt w w3 x s s3 (plcs x.ds k ++ rowP k V (q + 1)) ∧ B ∉ s3.blocks ∧ Blk w3 B [.int .i64 kd, .int .i64 ky, .int .i64 (V : Int), .int .i64 (M : Int), .iface ty (.pointer (some ⟨X, 0, none⟩))] 89) := fun e w3 hp => by
      obtain ⟨s3, q1, q2, q3⟩ := (hS2.still ((Touch.refl [] wr).drew)).add hp hadd.1
      refine ⟨s3, by rw [rowP_succ, ← List.append_assoc]; exact q1, fun hx => ?_, q2.blk hNB.drew hnb⟩
      rcases q3 B hx with h9 | h9
      ·exact hnb h9
      ·have := hNB.drew.lt
       omega
     have HAE : Hid (∀ e w3, Mem.AddPost wr.drew s2 (plI k q) V 3 e w3 → Touch s2.blocks wr.drew w3 ∧ ∃ a b, e = .returned (.tuple #[.int .i64 a, .int .i64 b])) := fun e w3 hp => ⟨hp.2.1, _, _, hp.1⟩
     generalize plI k q = pl at *
     clear hB2 hm hV hM hok hadd hBd ht0 e0 e2 hS2 hnb hNB HJ HJ0
     go_wp2_with fail
     refine wp_region_held_drew (S := fun w' => w'.cell? ⟨x.t, 0, none⟩ = some (.pointer (some ⟨s2.m, 0, none⟩)) ∧ w'.cell? ⟨B, 2, none⟩ = some (.int .i64 (V : Int))) (by kernel_rfl) ?_ (fun hHeld => ?_)
     ·exact HSS.out _ (Touch.refl _ _)
     refine wpAnyH_take (i := 0) (v := ?_) rfl (by kernel_rfl) (by kernel_rfl) (by kernel_rfl) (fun _ _ _ h => h) (Or.inl ⟨by rfl, ?_⟩) (by assumption) ?_
     rotate_left
     ·(intro w hSw; (try dsimp only at hSw); go_simp; try with_reducible rfl)
     simp only [Act.put, List.getElem_toArray, List.getElem_cons_zero, List.setIfInBounds_toArray, List.set_cons_zero, List.set_cons_succ]
     refine wpAnyH_take (i := 1) (v := ?_) rfl (by kernel_rfl) (by kernel_rfl) (by kernel_rfl) (fun _ _ _ h => h) (Or.inl ⟨by rfl, ?_⟩) (by assumption) ?_
     rotate_left
     ·(intro w hSw; (try dsimp only at hSw); go_simp; try with_reducible rfl)
     simp only [Act.put, List.getElem_toArray, List.getElem_cons_zero, List.getElem_cons_succ, List.setIfInBounds_toArray, List.set_cons_zero, List.set_cons_succ]
     refine wpAnyH_take (i := 2) (v := ?_) rfl (by kernel_rfl) (by kernel_rfl) (by kernel_rfl) (fun _ _ _ h => h) (Or.inl ⟨by rfl, ?_⟩) (by assumption) ?_
     rotate_left
     ·(intro w hSw; (try dsimp only at hSw); go_simp; try with_reducible rfl)
     simp only [Act.put, List.getElem_toArray, List.getElem_cons_zero, List.getElem_cons_succ, List.setIfInBounds_toArray, List.set_cons_zero, List.set_cons_succ]
     refine wpAnyH_take (i := 3) (v := ?_) rfl (by kernel_rfl) (by kernel_rfl) (by kernel_rfl) (fun _ _ _ h => h) (Or.inl ⟨by rfl, ?_⟩) (by assumption) ?_
     rotate_left
     ·(intro w hSw; (try dsimp only at hSw); go_simp; try with_reducible rfl)
     simp only [Act.put, List.getElem_toArray, List.getElem_cons_zero, List.getElem_cons_succ, List.setIfInBounds_toArray, List.set_cons_zero, List.set_cons_succ]
     refine wpAnyH_take (i := 4) (v := ?_) rfl (by kernel_rfl) (by kernel_rfl) (by kernel_rfl) (fun _ _ _ h => h) (Or.inl ⟨by rfl, ?_⟩) (by assumption) ?_
     rotate_left
     ·(intro w hSw; (try dsimp only at hSw); go_simp; try with_reducible rfl)
     simp only [Act.put, List.getElem_toArray, List.getElem_cons_zero, List.getElem_cons_succ, List.setIfInBounds_toArray, List.set_cons_zero, List.set_cons_succ]
     refine wpAnyH_take (i := 5) (v := ?_) rfl (by kernel_rfl) (by kernel_rfl) (by kernel_rfl) (fun _ _ _ h => h) (Or.inl ⟨by rfl, ?_⟩) (by assumption) ?_
     rotate_left
     ·(intro w hSw; (try dsimp only at hSw); go_simp; try with_reducible rfl)
     simp only [Act.put, List.getElem_toArray, List.getElem_cons_zero, List.getElem_cons_succ, List.setIfInBounds_toArray, List.set_cons_zero, List.set_cons_succ]
     refine wpAnyH_take (i := 7) (v := ?_) rfl (by kernel_rfl) (by kernel_rfl) (by kernel_rfl) (fun _ _ _ h => h) (Or.inl ⟨by rfl, ?_⟩) (by assumption) ?_
     rotate_left
     ·(intro w hSw; (try dsimp only at hSw); go_simp; try with_reducible rfl)
     simp only [Act.put, List.getElem_toArray, List.getElem_cons_zero, List.getElem_cons_succ, List.setIfInBounds_toArray, List.set_cons_zero, List.set_cons_succ]
     refine wpAnyH_take (i := 8) (v := ?_) rfl (by kernel_rfl) (by kernel_rfl) (by kernel_rfl) (fun _ _ _ h => h) (Or.inl ⟨by rfl, ?_⟩) (by assumption) ?_
     rotate_left
     ·(intro w hSw; (try dsimp only at hSw); go_simp; try with_reducible rfl)
     simp only [Act.put, List.getElem_toArray, List.getElem_cons_zero, List.getElem_cons_succ, List.setIfInBounds_toArray, List.set_cons_zero, List.set_cons_succ]
     refine wpAnyH_take (i := 9) (v := ?_) rfl (by kernel_rfl) (by kernel_rfl) (by kernel_rfl) (fun _ _ _ h => h) (Or.inl ⟨by rfl, ?_⟩) (by assumption) ?_
     rotate_left
     ·(intro w hSw; (try dsimp only at hSw); go_simp; try with_reducible rfl)
     simp only [Act.put, List.getElem_toArray, List.getElem_cons_zero, List.getElem_cons_succ, List.setIfInBounds_toArray, List.set_cons_zero, List.set_cons_succ]
     refine wpAnyH_ready (rs := [6]) (by kernel_rfl) (by simp) ?_
     refine AllReadyH.cons rfl (fun K hK => ?_) AllReadyH.nil
     simp only [List.getElem_toArray, List.getElem_cons_zero, List.getElem_cons_succ]
     go_simp
     refine Calls.mono (HP.out _) ?_; rintro e w3 ⟨rfl, rfl⟩
     go_wp2_with fail
     refine hK.out _ _ ?_ (fun hHeld => ?_)
     ·exact HSS.out _ (Touch.refl _ _)
     clear hK K
     try simp only [Act.put, List.getElem_toArray, List.getElem_cons_zero, List.getElem_cons_succ, List.setIfInBounds_toArray, List.set_cons_zero, List.set_cons_succ]
     refine wpAnyH_ready (rs := [10]) (by kernel_rfl) (by simp) ?_
     refine AllReadyH.cons rfl (fun K hK => ?_) AllReadyH.nil
     simp only [List.getElem_toArray, List.getElem_cons_zero, List.getElem_cons_succ]
     go_simp
     refine Calls.mono HA.out ?_; intro e w3 hp; obtain ⟨htx, za, zb, rfl⟩ := HAE.out _ _ hp; have HN := toHid (HNx.out _ _ hp); have HTX := toHid htx; clear hp htx
     go_wp2_with fail
     refine hK.out _ _ ?_ (fun hHeld => ?_)
     ·exact HSS.out _ HTX.out
     clear hK K
     try simp only [Act.put, List.getElem_toArray, List.getElem_cons_zero, List.getElem_cons_succ, List.setIfInBounds_toArray, List.set_cons_zero, List.set_cons_succ]
     refine wpAnyH_done (by kernel_rfl) ?_ _
     clear hHeld HSS HA HAE HNx HTX
     go_wp2
     exact ⟨⟨q + 1, by omega, by go_num, HN⟩, by simp [intOf]; omega⟩
    ·obtain rfl : q = M := by omega
     have HNx : Hid (∃ s', SetAt w wr x s s' (plcs x.ds (k + 1))) := by
      obtain ⟨hm, hV, hM, hok, hmany⟩ := HM.out
      have hdk : x.ds[k]? = some m.d := by unfold PT.ds; rw [List.getElem?_map, hm]; rfl
      refine ⟨s2, ?_⟩
      rw [plcs_succ hdk, hV, hM, Int.toNat_natCast]
      exact hS2
     have c3 : wr.cell? ⟨B, 3, none⟩ = some (.int .i64 (q : Int)) := hNB.cell rfl
     clear hS2 hnb hNB HJ HJ0
     go_wp2
     exact ⟨⟨k + 1, by omega, by go_num, HNx⟩, by simp [intOf]; omega⟩
  ·obtain rfl : L = k := by omega
   clear c1
   go_wp2
   go_end0
   exact ⟨rfl, HI.out⟩
end Go.Proofs.YtmhhahmjkopjhaaGreat
end
section
namespace Go.Proofs.YtmhhahmjkopjhaaGreat
open Go.RowKit
theorem info89 : (Tryz.prog.info? 89).map (fun i => (i.zero, i.size, i.bytes)) = some (some (.agg #[.int .i64 0, .int .i64 0, .int .i64 0, .int .i64 0, .nilIface]), 5, 48) := by kernel_rfl
def PT.add (x : PT) (g : Option Nat) (cap : Nat) (m : PMap) : PT := { x with g := g, cap := cap, maps := x.maps ++ [m] }
theorem PTAt.push {w : World} {x : PT} (h : PTAt w x) {m : PMap} (hm : KAt w m.X m.bl m.q) (ho : PMapOk m) (hsep : ∀ b ∈ m.bl, b ∉ x.blocks) (hn : x.maps.length < 8) :
  ∃ g' cap' w', (Builtin.append_ #[83, 83] 83 #[slV x.g x.maps.length x.cap, .slice (some ⟨w.heap.size, 0, none⟩) 1 1]).run Tryz.prog (w.alloc (.cells #[.int .i64 m.d.kind, .int .i64 m.d.key, .int .i64 m.d.val, .int .i64 m.d.max, ixV m.d.kind m.X] 89)) = .ok (slV g' (x.maps.length + 1) cap') w' ∧
   w'.cell? ⟨x.t, 1, none⟩ = some (slV x.g x.maps.length x.cap) ∧ w'.frozen? ⟨x.t, 1, none⟩ = false ∧
   PTAt (w'.setCell ⟨x.t, 1, none⟩ (slV g' (x.maps.length + 1) cap')) (x.add g' cap' m) ∧
   Touch x.top w w' ∧ Touch x.top w (w'.setCell ⟨x.t, 1, none⟩ (slV g' (x.maps.length + 1) cap')) ∧ (∀ b, g' = some b → x.g = some b ∨ w.heap.size ≤ b) := by
 obtain ⟨i, hi0, hz, hs0, hb⟩ := info_of info89
 have hN := Blk.newA w #[.int .i64 m.d.kind, .int .i64 m.d.key, .int .i64 m.d.val, .int .i64 m.d.max, ixV m.d.kind m.X] _ 89 rfl
 have hta : Touch [] w (w.alloc (.cells #[.int .i64 m.d.kind, .int .i64 m.d.key, .int .i64 m.d.val, .int .i64 m.d.max, ixV m.d.kind m.X] 89)) := (Touch.refl _ w).alloc _
 have hL := h.touch hta (by simp)
 have hlt := h.lt
 have hmlt := hm.lt
 obtain ⟨g', cap', w', hr, h2, h3, h4, _⟩ := run_append_row (P := Tryz.prog) _ 83 83 89 i _ 5 Tryz.underlying83 hi0 hz hs0 rfl (by omega) x.g x.maps.length x.cap _ hL.row ⟨w.heap.size, 0, none⟩ 1 1 m.cells rfl
  (fun j u hj => by
   rw [Addr.add_lit, Nat.zero_add]
   exact hN.cell hj) (fun u hu => by
   simp only [PMap.cells, List.mem_cons, List.not_mem_nil, or_false] at hu
   rcases hu with rfl | rfl | rfl | rfl | rfl <;> rfl) (by rw [hb]; omega) (by omega)
 have hap := h.apTop
 simp only [PT.top, List.nodup_cons, Option.mem_toList] at hap
 have htg : x.t ∉ x.g.toList := fun hx => hap.1 (by simpa using hx)
 have hself := h3.blk hL.self htg
 have hts : Touch [x.t] w' (w'.setCell ⟨x.t, 1, none⟩ (slV g' (x.maps.length + 1) cap')) := (Touch.refl _ w').setCell _ _ (Or.inl (by simp))
 have hg' : ∀ b, g' = some b → x.g = some b ∨ b = w.heap.size + 1 := fun b hb => by
  rcases h4 with h4 | h4
  ·rw [← h4]; exact Or.inl hb
  ·rw [hb] at h4; injection h4 with h4; exact Or.inr (by rw [h4]; simp)
 have htlt := hlt x.t (PT.mem_top (by simp [PT.top]))
 have hgt : g' ≠ some x.t := fun e => by
  rcases hg' _ e with hx | hx
  ·exact htg (by simpa using hx)
  ·omega
 have hgtop : ∀ b ∈ x.g.toList, b ∈ x.top := fun b hb => by unfold PT.top; exact List.mem_cons_of_mem _ hb
 have hT1 : Touch x.top w w' := (hta.mono (S' := x.top) (fun b hb => by cases hb)).trans h3 (fun b hb => Or.inl (hgtop b hb))
 have hT2 : Touch x.top w (w'.setCell ⟨x.t, 1, none⟩ (slV g' (x.maps.length + 1) cap')) := hT1.trans hts (fun b hb => Or.inl (by simp at hb; subst hb; simp [PT.top]))
 have hmT : ∀ m' ∈ x.maps ++ [m], KAt w m'.X m'.bl m'.q ∧ PMapOk m' ∧ ∀ b ∈ m'.bl, b ∉ x.top := fun m' hm' => by
  rcases List.mem_append.1 hm' with h9 | h9
  ·exact ⟨h.maps m' h9, h.ok m' h9, h.apT m' h9⟩
  ·rw [List.mem_singleton.1 h9]
   exact ⟨hm, ho, fun b hb hx => hsep b hb (PT.mem_top hx)⟩
 refine ⟨g', cap', w', hr, hself.cell rfl, hself.frozen 1, ⟨?_, ?_, fun m' hm' => ?_, fun m' hm' => (hmT m' hm').2.1, ?_, fun m' hm' b hb hx => ?_, fun i j mi mj hi hj hij y hy => ?_, ?_⟩, hT1, hT2, fun b hb => ?_⟩
 ·have := hself.setCell 1 (slV g' (x.maps.length + 1) cap')
  show Blk _ x.t [_, slV g' (x.maps ++ [m]).length cap'] _
  rw [List.length_append]
  exact this
 ·have := h2.touch hts (fun b hgb hx => by simp at hx; subst hx; exact hgt hgb)
  show RowAt _ 89 5 g' (x.maps ++ [m]).length cap' ((x.maps ++ [m]).flatMap PMap.cells)
  rw [List.length_append, List.flatMap_append, List.flatMap_singleton]
  exact this
 ·exact (hmT m' hm').1.touch hT2 (hmT m' hm').2.2
 ·show (x.t :: g'.toList).Nodup
  cases hgg : g' with
  | none => simp
  | some b =>
   simp only [Option.toList_some, List.nodup_cons, List.mem_singleton, List.not_mem_nil, not_false_eq_true, List.nodup_nil, and_true]
   intro e
   exact hgt (by rw [hgg, e])
 ·rcases List.mem_cons.1 (show b ∈ x.t :: g'.toList from hx) with hx | hx
  ·exact (hmT m' hm').2.2 b hb (by rw [hx]; simp [PT.top])
  ·rcases hg' b (by simpa using hx) with hx | hx
   ·exact (hmT m' hm').2.2 b hb (PT.mem_g hx)
   ·have := (hmT m' hm').1.lt b hb
    omega
 ·have hi : (x.maps ++ [m])[i]? = some mi := hi
  have hj : (x.maps ++ [m])[j]? = some mj := hj
  have hcase : ∀ k mk, (x.maps ++ [m])[k]? = some mk → x.maps[k]? = some mk ∨ (k = x.maps.length ∧ mk = m) := fun k mk hk => by
   rw [List.getElem?_append] at hk
   split at hk
   ·exact Or.inl hk
   ·rename_i hge
    have hk0 : k - x.maps.length = 0 := by
     have := (List.getElem?_eq_some_iff.1 hk).1
     simp at this
     omega
    rw [hk0] at hk
    simp at hk
    exact Or.inr ⟨by omega, hk.symm⟩
  rcases hcase i mi hi with a | ⟨a1, a2⟩
  ·rcases hcase j mj hj with b | ⟨b1, b2⟩
   ·exact h.apM i j mi mj a b hij y hy
   ·rw [b2]
    intro hx
    exact hsep y hx (PT.mem_map (List.mem_of_getElem? a) hy)
  ·rcases hcase j mj hj with b | ⟨b1, b2⟩
   ·intro hx
    rw [a2] at hy
    exact hsep y hy (PT.mem_map (List.mem_of_getElem? b) hx)
   ·omega
 ·show (x.maps ++ [m]).length ≤ 8
  rw [List.length_append]
  simp
  omega
 ·rcases hg' b hb with h9 | h9
  ·exact Or.inl h9
  ·exact Or.inr (by omega)
def NewIxPost (w : World) (k n : Int) (m : Nat) (e : Ending) (w' : World) : Prop := ∃ X bl, e = .returned (.tuple #[ixV k X, .int .i64 0]) ∧ KAt w' X bl (PX.new k n m) ∧ (∀ b ∈ bl, w.heap.size ≤ b) ∧ Touch [] w w'
def dV (d : MDef) : Value := .agg #[.int .i64 d.kind, .int .i64 d.key, .int .i64 d.val, .int .i64 d.max]
theorem KNewPost.ix {w w1 : World} {k n : Int} {m : Nat} {e : Ending} {w' : World} (h : KNewPost w1 (PX.new k n m) e w') (ht : Touch [] w w1) : ∃ X, e = .returned (.tuple #[.pointer (some ⟨X, 0, none⟩), .int .i64 0]) ∧ NewIxPost w k n m (.returned (.tuple #[ixV k X, .int .i64 0])) w' := by
 obtain ⟨X, bl, he, hA, hb, ht2⟩ := h
 have := ht.size
 exact ⟨X, he, X, bl, rfl, hA, fun b hx => by have := hb b hx; omega, ht.trans ht2 (by simp)⟩
set_option maxHeartbeats 2000000 in
set_option maxRecDepth 100000 in
theorem newIndex_any (w : World) (k n v : Int) (m : Nat) (k0 : 0 ≤ k) (k3 : k ≤ 3) (h : newOk k n m) : Calls Tryz.prog 45 #[dV ⟨k, n, v, m⟩] w (NewIxPost w k n m) := by
 have hta : ∀ o, Touch [] w (w.alloc o) := fun o => (Touch.refl [] w).alloc o
 have HT := toHid hta
 unfold dV
 have hk : k = 0 ∨ k = 1 ∨ k = 2 ∨ k = 3 := by omega
 rcases hk with rfl | rfl | rfl | rfl
 ·have hn : n = 4 := by
   have h1 := h.2.2.1
   have h2 := h.2.2.2
   simp at h1 h2
   omega
  subst hn
  have H1 := toHid (fun w1 => knew0_any w1 m h)
  clear h hta k0 k3
  go_enter Tryz.func45, Tryz.ntmps45
  go_wp2_with fail
  refine Calls.mono (H1.out _) ?_
  intro e w2 hp
  obtain ⟨X, rfl, hq⟩ := hp.ix (HT.out _)
  have HF := toHid hq
  clear hp hq
  go_wp2
  go_ret2
  exact HF.out
 ·obtain ⟨n, rfl⟩ : ∃ n' : Nat, n = n' := Int.eq_ofNat_of_zero_le (by have h1 := h.2.2.1; simp at h1; omega)
  have H1 := toHid (fun w1 => knew1_any w1 n m h)
  clear h hta k0 k3
  go_enter Tryz.func45, Tryz.ntmps45
  go_wp2_with fail
  refine Calls.mono (H1.out _) ?_
  intro e w2 hp
  obtain ⟨X, rfl, hq⟩ := hp.ix (HT.out _)
  have HF := toHid hq
  clear hp hq
  go_wp2
  go_ret2
  exact HF.out
 ·obtain ⟨n, rfl⟩ : ∃ n' : Nat, n = n' := Int.eq_ofNat_of_zero_le (by have h1 := h.2.2.1; simp at h1; omega)
  have H1 := toHid (fun w1 => knew2_any w1 n m h)
  clear h hta k0 k3
  go_enter Tryz.func45, Tryz.ntmps45
  go_wp2_with fail
  refine Calls.mono (H1.out _) ?_
  intro e w2 hp
  obtain ⟨X, rfl, hq⟩ := hp.ix (HT.out _)
  have HF := toHid hq
  clear hp hq
  go_wp2
  go_ret2
  exact HF.out
 ·obtain ⟨n, rfl⟩ : ∃ n' : Nat, n = (n' : Int) + 4 := ⟨(n - 4).toNat, by have h1 := h.2.2.1; simp at h1; omega⟩
  have H1 := toHid (fun w1 => knew3_any w1 n m h)
  clear h hta k0 k3
  go_enter Tryz.func45, Tryz.ntmps45
  go_wp2_with fail
  refine Calls.mono (H1.out _) ?_
  intro e w2 hp
  obtain ⟨X, rfl, hq⟩ := hp.ix (HT.out _)
  have HF := toHid hq
  clear hp hq
  go_wp2
  go_ret2
  exact HF.out
def NewIxBad (w : World) (e : Ending) (w' : World) : Prop := ∃ v, e = .returned (.tuple #[v, .int .i64 2]) ∧ Touch [] w w'
set_option maxHeartbeats 2000000 in
set_option maxRecDepth 100000 in
theorem newIndex_bad (w : World) (d : MDef) (h : ¬ (0 ≤ d.kind ∧ d.kind ≤ 3 ∧ newOk d.kind d.key d.max)) : Calls Tryz.prog 45 #[dV d] w (NewIxBad w) := by
 have hta : ∀ o, Touch [] w (w.alloc o) := fun o => (Touch.refl [] w).alloc o
 have HT := toHid hta
 obtain ⟨k, n, v, m⟩ := d
 unfold dV
 dsimp only at h ⊢
 have H0 : Hid (∀ w1 : World, ¬ (1 ≤ m ∧ m ≤ 64) → Calls Tryz.prog 73 #[.int .i64 m] w1 fun e w' => e = .returned (.tuple #[.pointer none, .int .i64 2]) ∧ w' = w1) := fun w1 h1 => Arr.new_bad w1 m h1
 by_cases hk : k = 0 ∨ k = 1 ∨ k = 2 ∨ k = 3
 ·rcases hk with rfl | rfl | rfl | rfl
  ·by_cases hn : n = 4
   ·subst hn
    have H1 := toHid (fun w1 => H0.out w1 (fun hm => h ⟨by omega, by omega, hm.1, hm.2, by decide, by decide⟩))
    clear h hta
    go_enter Tryz.func45, Tryz.ntmps45
    go_wp2_with fail
    refine Calls.mono (H1.out _) ?_
    rintro e w2 ⟨rfl, rfl⟩
    go_wp2
    go_ret2
    exact ⟨_, rfl, HT.out _⟩
   ·clear h hta
    go_enter Tryz.func45, Tryz.ntmps45
    go_wp2
    go_ret2
    exact ⟨_, rfl, HT.out _⟩
  ·have H1 := toHid (fun w1 => new_bad w1 n m (fun hm => h ⟨by omega, by omega, hm.1, hm.2.1, by simp; omega, by simp; omega⟩))
   clear h hta
   go_enter Tryz.func45, Tryz.ntmps45
   go_wp2_with fail
   refine Calls.mono (H1.out _) ?_
   rintro e w2 ⟨rfl, rfl⟩
   go_wp2
   go_ret2
   exact ⟨_, rfl, HT.out _⟩
  ·have H1 := toHid (fun w1 => lnew_bad w1 n m (fun hm => h ⟨by omega, by omega, hm.1, hm.2.1, by simp; omega, by simp; omega⟩))
   clear h hta
   go_enter Tryz.func45, Tryz.ntmps45
   go_wp2_with fail
   refine Calls.mono (H1.out _) ?_
   rintro e w2 ⟨rfl, rfl⟩
   go_wp2
   go_ret2
   exact ⟨_, rfl, HT.out _⟩
  ·have H1 := toHid (fun w1 => Lpm.inew_bad w1 n m (fun hm => h ⟨by omega, by omega, hm.1, hm.2.1, by simp; omega, by simp; omega⟩))
   clear h hta
   go_enter Tryz.func45, Tryz.ntmps45
   go_wp2_with fail
   refine Calls.mono (H1.out _) ?_
   rintro e w2 ⟨rfl, rfl⟩
   go_wp2
   go_ret2
   exact ⟨_, rfl, HT.out _⟩
 ·have e0 : ¬ k = 0 := fun e => hk (Or.inl e)
  have e1 : ¬ k = 1 := fun e => hk (Or.inr (Or.inl e))
  have e2 : ¬ k = 2 := fun e => hk (Or.inr (Or.inr (Or.inl e)))
  have e3 : ¬ k = 3 := fun e => hk (Or.inr (Or.inr (Or.inr e)))
  have b0 : (k == 0) = false := by simpa using e0
  have b1 : (k == 1) = false := by simpa using e1
  have b2 : (k == 2) = false := by simpa using e2
  have b3 : (k == 3) = false := by simpa using e3
  clear h hk H0 hta
  go_enter Tryz.func45, Tryz.ntmps45
  go_wp2
  go_ret2
  exact ⟨_, rfl, HT.out _⟩
end Go.Proofs.YtmhhahmjkopjhaaGreat
end
section
namespace Go.Proofs.YtmhhahmjkopjhaaGreat
open Go.RowKit
def newQ (d : MDef) : PX := PX.new d.kind d.key d.max.toNat
structure MadeAt (w w' : World) (x : PT) (m T : Nat) (l : List MDef) : Prop where
 tab : PTAt w' x
 t : x.t = T
 mem : x.mem = m
 ds : x.ds = l
 qs : x.qs = l.map newQ
 own : ∀ b ∈ x.blocks, w.heap.size ≤ b
 touch : Touch [] w w'
 ok : ∀ d ∈ l, d.Ok
theorem newQ_len {d : MDef} (h : d.Ok) : ((newQ d).slots.length : Int) = d.max := by
 have h1 := h.2.2.2.2.1
 have : (newQ d).slots.length = d.max.toNat := by
  unfold newQ PX.new
  dsimp only
  split
  ·simp [allKeys]
  ·simp
 omega
theorem MadeAt.push {w w1 w2 : World} {x : PT} {m T k : Nat} {ds : List MDef} {d : MDef} {X : Nat} {bl : List Nat} (h : MadeAt w w1 x m T (ds.take k)) (hd : ds[k]? = some d) (hk : k < 8) (hok : d.Ok) (ht : Touch [] w1 w2) (hA : KAt w2 X bl (newQ d)) (hb : ∀ b ∈ bl, w1.heap.size ≤ b) :
  ∃ sg' cap' w3, (Builtin.append_ #[83, 83] 83 #[slV x.g x.maps.length x.cap, .slice (some ⟨w2.heap.size, 0, none⟩) 1 1]).run Tryz.prog ((w2.alloc (.cells #[.int .i64 d.kind, .int .i64 d.key, .int .i64 d.val, .int .i64 d.max, ixV d.kind X] 89)).drew) = .ok (.slice sg' (x.maps.length + 1) cap') w3 ∧
   w3.cell? ⟨T, 1, none⟩ = some (slV x.g x.maps.length x.cap) ∧ w3.frozen? ⟨T, 1, none⟩ = false ∧ ∃ x', MadeAt w (w3.setCell ⟨T, 1, none⟩ (.slice sg' (x.maps.length + 1) cap')) x' m T (ds.take (k + 1)) := by
 have hx2 : PTAt w2.drew x := h.tab.still ht.drew
 have hlt := h.tab.lt
 have hsz := ht.size
 have hl : x.maps.length = k := by
  have h1 := congrArg List.length h.ds
  have h2 := (List.getElem?_eq_some_iff.1 hd).1
  simp [PT.ds] at h1
  omega
 have hsz0 := h.touch.size
 have hkd : (newQ d).kind = d.kind := rfl
 obtain ⟨g', cap', w3, hr, hc, hf, hA3, ht1, ht2, hg⟩ := hx2.push (m := ⟨d, X, bl, newQ d⟩) (hA.still ((Touch.refl [] w2).drew)) ⟨hkd, rfl, newQ_len hok, hok.2.2.1, hok.2.2.2.1⟩ (fun b hbx hx => by
  have := hb b hbx
  have := hlt b hx
  omega) (by omega)
 have htk : ds.take (k + 1) = ds.take k ++ [d] := by rw [List.take_add_one, hd]; rfl
 rw [h.t] at hc hf hA3 ht2
 refine ⟨g'.map fun b => (⟨b, 0, none⟩ : Addr), cap', w3, hr, hc, hf, x.add g' cap' ⟨d, X, bl, newQ d⟩, hA3, h.t, h.mem, ?_, ?_, fun b hbx => ?_, ?_, fun d' hd' => ?_⟩
 ·rw [htk]
  show (x.maps ++ [_]).map PMap.d = _
  have h1 : x.maps.map PMap.d = ds.take k := h.ds
  rw [List.map_append, h1]
  rfl
 ·rw [htk]
  show (x.maps ++ [_]).map PMap.q = _
  have h1 : x.maps.map PMap.q = (ds.take k).map newQ := h.qs
  rw [List.map_append, h1, List.map_append]
  rfl
 ·rcases List.mem_append.1 hbx with hbx | hbx
  ·rcases List.mem_cons.1 (show b ∈ x.t :: g'.toList from hbx) with hbx | hbx
   ·exact h.own b (by rw [hbx]; exact PT.mem_top (by simp [PT.top]))
   ·rcases hg b (by simpa using hbx) with hbx | hbx
    ·exact h.own b (PT.mem_top (PT.mem_g hbx))
    ·have : w2.drew.heap.size = w2.heap.size := rfl
     omega
  ·rw [show (x.add g' cap' ⟨d, X, bl, newQ d⟩).maps = x.maps ++ [⟨d, X, bl, newQ d⟩] from rfl, List.flatMap_append, List.flatMap_singleton] at hbx
   rcases List.mem_append.1 hbx with hbx | hbx
   ·obtain ⟨m9, h9, hbx⟩ := List.mem_flatMap.1 hbx
    exact h.own b (PT.mem_map h9 hbx)
   ·have := hb b hbx
    omega
 ·exact (h.touch.trans ht.drew (by simp)).trans ht2 (fun b hbx => Or.inr (h.own b (PT.mem_top hbx)))
 ·rw [htk] at hd'
  rcases List.mem_append.1 hd' with h9 | h9
  ·exact h.ok d' h9
  ·rw [List.mem_singleton.1 h9]
   exact hok
structure PNewAt (w w' : World) (x : PT) (s s' : Mem.MS) (l : List MDef) : Prop where
 both : PBoth w' x s'
 ds : x.ds = l
 qs : x.qs = l.map newQ
 own : ∀ b ∈ x.blocks, w.heap.size ≤ b
 m : s'.m = s.m
 mown : ∀ b ∈ s'.blocks, b ∈ s.blocks ∨ w.heap.size ≤ b
 touch : Touch s.blocks w w'
 adds : PAdds (plcs l l.length) (s.rs, s.next) (s'.rs, s'.next)
def PNewPost (w : World) (s : Mem.MS) (ds : List MDef) (e : Ending) (w' : World) : Prop :=
 (mayI ds = false ∧ e = .returned (.tuple #[.pointer none, .int .i64 2]) ∧ Touch [] w w') ∨
 (mayI ds = true ∧ ¬ roomOk ds s.rs ∧ e = .returned (.tuple #[.pointer none, .int .i64 12]) ∧ Touch [] w w') ∨
 (mayI ds = true ∧ roomOk ds s.rs ∧ ∃ x s', e = .returned (.tuple #[.pointer (some ⟨x.t, 0, none⟩), .int .i64 0]) ∧ PNewAt w w' x s s' ds)
theorem new_nil (w : World) (sa : Option Addr) (n sc : Nat) : Calls Tryz.prog 21 #[.pointer none, .slice sa n sc] w fun e w' => e = .returned (.tuple #[.pointer none, .int .i64 1]) ∧ w' = w := by
 go_enter Tryz.func21, Tryz.ntmps21
 go_wp2
 go_ret2
 exact ⟨rfl, rfl⟩
set_option maxHeartbeats 4000000 in
set_option maxRecDepth 100000 in
theorem pnew_any {w : World} {s : Mem.MS} (h : Mem.MemAt w s) (hnx : s.next ≤ 1000000) {sa : Option Addr} {n sc : Nat} {ds : List MDef} (hd : DefsAt w sa n ds) :
  Calls Tryz.prog 21 #[.pointer (some ⟨s.m, 0, none⟩), .slice sa n sc] w (PNewPost w s ds) := by
 obtain rfl := hd.len
 have hsm := hd.small
 by_cases h8 : 8 < ds.length
 ·have hv : mayI ds = false := by unfold mayI; rw [decide_eq_false_iff_not]; omega
  have HF : Hid (PNewPost w s ds (.returned (.tuple #[.pointer none, .int .i64 2])) w) := Or.inl ⟨hv, rfl, Touch.refl _ _⟩
  clear h hd hv
  go_enter Tryz.func21, Tryz.ntmps21
  go_wp2
  go_ret2
  exact HF.out
 ·have hL : ds.length ≤ 8 := by omega
  have HD := toHid hd
  have HH := toHid (And.intro h hnx)
  have hB := Blk.newA w #[.pointer (some ⟨s.m, 0, none⟩), .slice none 0 0] _ 85 rfl
  have HI0 : Hid (∃ x, MadeAt w (w.alloc (.cells #[.pointer (some ⟨s.m, 0, none⟩), .slice none 0 0] 85)) x s.m w.heap.size (ds.take 0)) := by
   refine ⟨⟨w.heap.size, s.m, none, 0, []⟩, ⟨hB, ?_, ?_, ?_, ?_, ?_, ?_, by simp⟩, rfl, rfl, rfl, rfl, ?_, (Touch.refl _ w).alloc _, by simp⟩
   ·exact ⟨rfl, Nat.le_refl _, Nat.zero_le _, rfl⟩
   ·intro m hm; cases hm
   ·intro m hm; cases hm
   ·simp [PT.top]
   ·intro m hm; cases hm
   ·intro i j mi mj hi; simp at hi
   ·intro b hb; simp [PT.blocks, PT.top] at hb; omega
  clear h hd hB hnx
  go_enter Tryz.func21, Tryz.ntmps21
  go_wp2_with fail
  generalize hT0 : w.heap.size = T at *
  have HT0 := toHid hT0
  clear hT0
  generalize hLL : ds.length = L at *
  have HL := toHid hLL
  clear hLL
  go_loopw [21] (fun t w' => ∃ k : Nat, k ≤ L ∧ t = .int .i64 k ∧ Hid (∃ x, MadeAt w w' x s.m T (ds.take k))) (fun t _ => L - (intOf t).toNat)
  case atStart => exact ⟨0, by omega, rfl, HI0⟩
  case round =>
   obtain ⟨k, hk, rfl, HI⟩ := hrel
   clear HI0
   by_cases hlt : k < L
   ·obtain ⟨x, hM⟩ := HI.out
    have hda := HD.out.touch hM.touch
    obtain ⟨b, off, rfl, hc⟩ := hda.at_ (by omega)
    obtain ⟨d, hdk⟩ : ∃ d, ds[k]? = some d := ⟨_, List.getElem?_eq_getElem (by rw [HL.out]; exact hlt)⟩
    have c0 := hc k d hdk 0 _ rfl
    have c1 := hc k d hdk 1 _ rfl
    have c2 := hc k d hdk 2 _ rfl
    have c3 := hc k d hdk 3 _ rfl
    rw [Nat.add_zero] at c0
    have hNB := Blk.newA wr #[.int .i64 d.kind, .int .i64 d.key, .int .i64 d.val, .int .i64 d.max] _ 36 rfl
    have HNB := toHid hNB
    have HM := toHid (And.intro hM hdk)
    have hta := (Touch.refl [] wr).alloc (.cells #[.int .i64 d.kind, .int .i64 d.key, .int .i64 d.val, .int .i64 d.max] 36)
    have HTA := toHid hta
    have HNO : Hid (¬ d.Ok → ∀ w3, Touch [] wr w3 → PNewPost w s ds (.returned (.tuple #[.pointer none, .int .i64 2])) w3) := fun hn w3 ht3 => Or.inl ⟨mayI_no hdk hn, rfl, hM.touch.trans ht3 (by simp)⟩
    by_cases hnk : 0 ≤ d.kind ∧ d.kind ≤ 3 ∧ newOk d.kind d.key d.max
    ·have hmx1 := hnk.2.2.1
     have hmx2 := hnk.2.2.2.1
     have hmt : ((d.max.toNat : Nat) : Int) = d.max := Int.toNat_of_nonneg (by omega)
     have HN : Hid (∀ w0, Calls Tryz.prog 45 #[dV d] w0 (NewIxPost w0 d.kind d.key d.max.toNat)) := fun w0 => by
      have h9 := newIndex_any w0 d.kind d.key d.val d.max.toNat hnk.1 hnk.2.1 (by rw [hmt]; exact hnk.2.2)
      rw [hmt] at h9
      exact h9
     unfold dV at HN
     by_cases hv1 : d.val < 1
     ·have HNO := toHid (HNO.out (fun hok => by have := hok.2.2.1; omega))
      clear hnk hM hda hc hdk hNB hta HM HI hmt hmx1 hmx2
      go_wp2_with fail
      refine Calls.mono (HN.out _) ?_
      rintro e w3 ⟨X, bl, rfl, hA, hbl, ht3⟩
      have HF := toHid (HNO.out _ (HTA.out.trans ht3 (by simp)))
      have d2 := (ht3.blk HNB.out (by simp)).cell (i := 2) rfl
      clear ht3 HNO hA hbl
      unfold ixV
      go_wp2
      go_ret2
      exact HF.out
     ·by_cases hv2 : 64 < d.val
      ·have HNO := toHid (HNO.out (fun hok => by have := hok.2.2.2.1; omega))
       clear hnk hM hda hc hdk hNB hta HM HI hmt hmx1 hmx2
       go_wp2_with fail
       refine Calls.mono (HN.out _) ?_
       rintro e w3 ⟨X, bl, rfl, hA, hbl, ht3⟩
       have HF := toHid (HNO.out _ (HTA.out.trans ht3 (by simp)))
       have d2 := (ht3.blk HNB.out (by simp)).cell (i := 2) rfl
       clear ht3 HNO hA hbl
       unfold ixV
       go_wp2
       go_ret2
       exact HF.out
      ·have hok : d.Ok := ⟨hnk.1, hnk.2.1, by omega, by omega, hnk.2.2⟩
       have HOK := toHid hok
       clear hnk hM hda hc hdk hNB hta HI hmt hmx1 hmx2 hok HNO
       go_wp2_with fail
       refine Calls.mono (HN.out _) ?_
       rintro e w2 ⟨X, bl, rfl, hA, hbl, ht3⟩
       have hT2 := HTA.out.trans ht3 (by simp)
       obtain ⟨sg, cap, w3, hr, hs1, hs2, x', hM'⟩ := HM.out.1.push (X := X) (bl := bl) HM.out.2 (by omega) HOK.out hT2 hA (fun b hb => by have := hbl b hb; have := HTA.out.size; omega)
       have HR := toHid hr
       have HN' := toHid hM'
       have e0 := (ht3.blk HNB.out (by simp)).cell (i := 0) rfl
       have e1 := (ht3.blk HNB.out (by simp)).cell (i := 1) rfl
       have e2 := (ht3.blk HNB.out (by simp)).cell (i := 2) rfl
       have e3 := (ht3.blk HNB.out (by simp)).cell (i := 3) rfl
       have t1 := (HM.out.1.tab.still hT2).c1
       have hE : ∀ o p v, w2.cell? p = some v → (w2.alloc o).cell? p = some v := fun o p v hp => ((Touch.refl [] w2).alloc o).cell hp (by simp)
       have a0 := fun o => hE o _ _ e0
       have a1 := fun o => hE o _ _ e1
       have a2 := fun o => hE o _ _ e2
       have a3 := fun o => hE o _ _ e3
       rw [HM.out.1.t] at t1
       have at1 := fun o => hE o _ _ t1
       clear hA hbl hT2 hr hM' ht3 hE
       unfold ixV at *
       unfold slV at *
       generalize typF d.kind = ty at *
       generalize (x.g.map fun b => (⟨b, 0, none⟩ : Addr)) = og at *
       generalize x.maps.length = ml at *
       generalize x.cap = xc at *
       go_wp2_with fail
       go_region_law (refine step_append_known rfl (.tmp 46) (.tmp 50) 83 83 rfl (.slice og ml xc) (.slice (some ⟨w2.heap.size, 0, none⟩) 1 1) (by simp [Act.eval]) (by simp [Act.eval]) HR.out ?_)
       all_goals go_wp2
       all_goals exact ⟨⟨k + 1, by omega, by go_num, x', HN'.out⟩, by simp [intOf]; omega⟩
    ·have HN := toHid (fun w0 => newIndex_bad w0 d hnk)
     unfold dV at HN
     have HNO := toHid (HNO.out (fun hok => hnk ⟨hok.1, hok.2.1, hok.2.2.2.2⟩))
     clear hnk hM hda hc hdk hNB hta HM HI
     go_wp2_with fail
     refine Calls.mono (HN.out _) ?_
     rintro e w3 ⟨v, rfl, ht3⟩
     have HF := toHid (HNO.out _ (HTA.out.trans ht3 (by simp)))
     have d2 := (ht3.blk HNB.out (by simp)).cell (i := 2) rfl
     clear ht3 HNO
     go_wp2
     go_ret2
     exact HF.out
   ·obtain rfl : k = L := by omega
    obtain ⟨x, hM⟩ := HI.out
    have htk : ds.take k = ds := by rw [← HL.out]; exact List.take_length
    rw [htk] at hM
    have hdl := HL.out
    have hsz := hM.touch.size
    have hB : PBoth wr x s := ⟨hM.tab, HH.out.1.touch hM.touch (by simp), hM.mem, fun b hb hx => by
     have h1 := hM.own b hb
     have h2 := HH.out.1.lt b hx
     omega⟩
    have hml : x.maps.length = k := by
     have h1 := congrArg List.length hM.ds
     simp [PT.ds] at h1
     omega
    have hmx : ∀ m ∈ x.maps, 1 ≤ m.d.max ∧ m.d.max ≤ 64 := fun m hm => by
     have h1 := hM.ok m.d (by rw [← hM.ds]; exact List.mem_map.2 ⟨m, hm, rfl⟩)
     exact ⟨h1.2.2.2.2.1, h1.2.2.2.2.2.1⟩
    have hmay : mayI ds = true := by
     unfold mayI
     rw [decide_eq_true_iff]
     exact ⟨by omega, hM.ok⟩
    have H1 := toHid (hasRoom_any hB hmx)
    rw [hM.ds, hM.t] at H1
    have HX := toHid (And.intro hM (And.intro hmx (And.intro hmay (And.intro hml hB))))
    clear hM htk hdl hB hml hmx hmay HI
    go_wp2_with fail
    refine Calls.mono H1.out ?_
    rintro e w2 ⟨⟨rb, rfl, hrb⟩, ht2⟩
    cases rb with
    | false =>
     have HF : Hid (PNewPost w s ds (.returned (.tuple #[.pointer none, .int .i64 12])) w2) := Or.inr (Or.inl ⟨HX.out.2.2.1, (fun hr => Bool.noConfusion (hrb.2 hr)), rfl, HX.out.1.touch.trans ht2 (by simp)⟩)
     clear hrb ht2
     go_wp2
     go_ret2
     exact HF.out
    | true =>
     have hr := hrb.1 rfl
     have H2 := toHid (settle_any (HX.out.2.2.2.2.still ht2) ⟨HX.out.2.1, by rw [HX.out.1.ds]; exact hr, HH.out.2⟩)
     rw [HX.out.1.ds, HX.out.1.t, HX.out.2.2.2.1] at H2
     have HR := toHid (And.intro hr ht2)
     clear hrb ht2 hr
     go_wp2_with fail
     refine Calls.mono H2.out ?_
     rintro e w3 ⟨rfl, s', hS⟩
     have HF : Hid (PNewPost w s ds (.returned (.tuple #[.pointer (some ⟨T, 0, none⟩), .int .i64 0])) w3) := by
      have hT := HX.out.1.touch.trans HR.out.2 (by simp)
      have hsz2 := hT.size
      refine Or.inr (Or.inr ⟨HX.out.2.2.1, HR.out.1, x, s', by rw [HX.out.1.t], ⟨hS.both, HX.out.1.ds, HX.out.1.qs, HX.out.1.own, hS.m, fun b hb => ?_, (hT.mono (S' := s.blocks) (fun b hb => by cases hb)).trans hS.touch (fun b hb => Or.inl hb), by rw [HL.out]; exact hS.adds⟩⟩)
      rcases hS.own b hb with h1 | h1
      ·exact Or.inl h1
      ·exact Or.inr (by omega)
     clear hS
     go_wp2
     go_ret2
     exact HF.out
end Go.Proofs.YtmhhahmjkopjhaaGreat
end
section
namespace Go.Proofs.YtmhhahmjkopjhaaGreat.Mem
open Go.RowKit
end Go.Proofs.YtmhhahmjkopjhaaGreat.Mem
end
section
namespace Go.Proofs.YtmhhahmjkopjhaaGreat.Mem
open Go.RowKit
def MS.new (m : Nat) : MS := ⟨m, none, 0, [], 0⟩
theorem memAt_new (w : World) : MemAt (w.alloc (.cells #[.slice none 0 0, .int .i64 0] 79)) (MS.new w.heap.size) where
 self := Blk.newA w #[.slice none 0 0, .int .i64 0] _ 79 rfl
 row := ⟨rfl, by simp [MS.new], by simp [MS.new], rfl⟩
 regs := fun r hr => by cases hr
 ok := fun r hr => by cases hr
 apart := by simp [MS.blocks, MS.new]
 sorted := List.Pairwise.nil
 ids := List.Pairwise.nil
 idlt := fun r hr => by cases hr
 many := by simp [MS.new]
theorem newM_any (w : World) : Calls Tryz.prog 26 #[] w fun e w' => e = .returned (.pointer (some ⟨w.heap.size, 0, none⟩)) ∧ MemAt w' (MS.new w.heap.size) ∧ Touch [] w w' :=
 (new_any w).mono (fun e w' ⟨h1, h2⟩ => ⟨h1, by rw [h2]; exact memAt_new w, by rw [h2]; exact (Touch.refl _ w).alloc _⟩)
end Go.Proofs.YtmhhahmjkopjhaaGreat.Mem
end
section
namespace Go.Proofs.YtmhhahmjkopjhaaGreat
open Go.RowKit
def Regs (ds : List MDef) (rs : List Mem.Reg) : Prop := ∀ (k : Nat) (d : MDef), ds[k]? = some d → ∀ sl : Nat, (sl : Int) < d.max → ∃ r ∈ rs, r.perm = 3 ∧ r.base = plI k sl ∧ (r.bytes.length : Int) = d.val
theorem plcs_of {ds : List MDef} : ∀ {k i sl : Nat} {d : MDef}, i < k → ds[i]? = some d → (sl : Int) < d.max → (plI i sl, d.val) ∈ plcs ds k := by
 intro k i sl d hi hd hs
 unfold plcs
 refine List.mem_flatMap.2 ⟨i, List.mem_range.2 hi, ?_⟩
 rw [hd]
 exact List.mem_map.2 ⟨sl, List.mem_range.2 (by omega), rfl⟩
theorem Regs.of_adds {ds : List MDef} {a b : List Mem.Reg × Nat} (h : PAdds (plcs ds ds.length) a b) (hv : ∀ d ∈ ds, 1 ≤ d.val) : Regs ds b.1 := fun k d hd sl hs => by
 have hk := (List.getElem?_eq_some_iff.1 hd).1
 obtain ⟨r, hr, id, ho, hn⟩ := h.facts.2.2.2.1 _ (plcs_of hk hd hs)
 have h1 := hv d (List.mem_of_getElem? hd)
 refine ⟨r, hr, hn.hperm, hn.hbase, ?_⟩
 rw [hn.hbytes]
 simp
 omega
theorem id_eq {w : World} {s : Mem.MS} (h : Mem.MemAt w s) {r r2 : Mem.Reg} (hr : r ∈ s.rs) (hr2 : r2 ∈ s.rs) (hid : r2.id = r.id) : r2 = r := by
 obtain ⟨i, hi, rfl⟩ := List.getElem_of_mem hr
 obtain ⟨j, hj, rfl⟩ := List.getElem_of_mem hr2
 have hp := List.pairwise_iff_getElem.1 h.ids
 rcases Nat.lt_trichotomy i j with hij | rfl | hij
 ·exact absurd hid.symm (hp i j hi hj hij)
 ·rfl
 ·exact absurd hid (hp j i hj hi hij)
theorem write_all {w w2 : World} {s s2 : Mem.MS} (h : Mem.MemAt w s) (h2 : Mem.MemAt w2 s2) {r : Mem.Reg} (hr : r ∈ s.rs) (hp : r.perm = 3) {vs : List Int} (hl : vs.length = r.bytes.length) (e : s2.rs = Mem.writeRs s.rs r.base vs) :
  (Mem.readE s2.rs r.base vs.length = 0 ∧ Mem.readV s2.rs r.base vs.length = vs) ∧
  (∀ r2 ∈ s.rs, r2.perm = 3 → r2.base ≠ r.base → Mem.readE s2.rs r2.base r2.bytes.length = 0 ∧ Mem.readV s2.rs r2.base r2.bytes.length = Mem.readV s.rs r2.base r2.bytes.length) := by
 have hw := (MemAt.write_at h hr hp hl).2
 rw [hw] at e
 have hm : Mem.layR r 0 vs ∈ s2.rs := by
  rw [e]
  unfold Mem.updR
  exact List.mem_map.2 ⟨r, hr, by rw [if_pos rfl]⟩
 have hb := layR_all hl
 constructor
 ·have := MemAt.read_at h2 hm hp
  rw [hb] at this
  exact this
 ·intro r2 hr2 hp2 hne
  have hid : r2.id ≠ r.id := fun hx => hne (by rw [id_eq h hr hr2 hx])
  have hm2 : r2 ∈ s2.rs := by
   rw [e]
   unfold Mem.updR
   exact List.mem_map.2 ⟨r2, hr2, by rw [if_neg hid]⟩
  have h3 := MemAt.read_at h2 hm2 hp2
  have h4 := MemAt.read_at h hr2 hp2
  exact ⟨h3.1, by rw [h3.2, h4.2]⟩
theorem Regs.write {w : World} {s : Mem.MS} {ds : List MDef} (h : Mem.MemAt w s) (hg : Regs ds s.rs) {r : Mem.Reg} (hr : r ∈ s.rs) (hp : r.perm = 3) {vs : List Int} (hl : vs.length = r.bytes.length) : Regs ds (Mem.writeRs s.rs r.base vs) := fun k d hd sl hs => by
 obtain ⟨r2, h1, h2, h3, h4⟩ := hg k d hd sl hs
 rw [(MemAt.write_at h hr hp hl).2]
 unfold Mem.updR
 by_cases he : r2.id = r.id
 ·obtain rfl := id_eq h hr h1 he
  refine ⟨Mem.layR r2 0 vs, List.mem_map.2 ⟨r2, h1, by rw [if_pos rfl]⟩, h2, h3, ?_⟩
  rw [layR_all hl, hl, h4]
 ·exact ⟨r2, List.mem_map.2 ⟨r2, h1, by rw [if_neg he]⟩, h2, h3, h4⟩
theorem PT.at_ds {x : PT} {k : Nat} {d : MDef} {q : PX} (hd : x.ds[k]? = some d) (hq : x.qs[k]? = some q) : ∃ m, x.maps[k]? = some m ∧ m.d = d ∧ m.q = q := by
 unfold PT.ds at hd
 unfold PT.qs at hq
 rw [List.getElem?_map] at hd hq
 cases hm : x.maps[k]? with
 | none => rw [hm] at hd; cases hd
 | some m =>
  rw [hm] at hd hq
  exact ⟨m, rfl, by injection hd, by injection hq⟩
structure Solo (w0 w : World) (x : PT) (s : Mem.MS) (ds : List MDef) (qs : List PX) : Prop where
 p : PBoth w x s
 regs : Regs ds s.rs
 ds : x.ds = ds
 qs : x.qs = qs
 own : ∀ b, b ∈ x.blocks ∨ b ∈ s.blocks → w0.heap.size ≤ b
 touch : Touch [] w0 w
theorem Solo.still {w0 w w' : World} {x : PT} {s : Mem.MS} {ds : List MDef} {qs : List PX} (h : Solo w0 w x s ds qs) (ht : Touch [] w w') : Solo w0 w' x s ds qs :=
 ⟨h.p.still ht, h.regs, h.ds, h.qs, h.own, h.touch.trans ht (by simp)⟩
theorem Solo.step {w0 w w' : World} {x x' : PT} {s : Mem.MS} {ds : List MDef} {qs qs' : List PX} (h : Solo w0 w x s ds qs) (st : PStep w w' x x' qs') : Solo w0 w' x' s ds qs' :=
 ⟨h.p.step st, h.regs, by rw [st.ds, h.ds], st.qs, fun b hb => by
  have := h.touch.size
  rcases hb with hb | hb
  ·rcases st.blocks b hb with h1 | h1
   ·exact h.own b (Or.inl h1)
   ·omega
  ·exact h.own b (Or.inr hb), h.touch.trans st.touch (fun b hb => Or.inr (h.own b (Or.inl hb)))⟩
theorem Solo.upd {w0 w w' : World} {x x' : PT} {s : Mem.MS} {ds : List MDef} {qs qs' : List PX} {rs : List Mem.Reg} (h : Solo w0 w x s ds qs) (st : PUSt w w' x x' s qs' rs) (hg : Regs ds rs) : Solo w0 w' x' { s with rs := rs } ds qs' :=
 ⟨st.both, hg, by rw [st.ds, h.ds], st.qs, fun b hb => by
  have := h.touch.size
  rcases hb with hb | hb
  ·rcases st.blocks b hb with h1 | h1
   ·exact h.own b (Or.inl h1)
   ·omega
  ·rw [st.sblk] at hb
   exact h.own b (Or.inr hb), h.touch.trans st.touch (fun b hb => Or.inr (h.own b (List.mem_append.1 hb)))⟩
theorem Solo.new {w0 w w' : World} {x : PT} {s s' : Mem.MS} {ds : List MDef} (h : PNewAt w w' x s s' ds) (hv : ∀ d ∈ ds, 1 ≤ d.val) (h0 : Touch [] w0 w) (hs : ∀ b ∈ s.blocks, w0.heap.size ≤ b) : Solo w0 w' x s' ds (ds.map newQ) :=
 ⟨h.both, Regs.of_adds h.adds hv, h.ds, h.qs, fun b hb => by
  have := h0.size
  rcases hb with hb | hb
  ·have := h.own b hb; omega
  ·rcases h.mown b hb with h1 | h1
   ·exact hs b h1
   ·omega, h0.trans h.touch (fun b hb => Or.inr (hs b hb))⟩
theorem Solo.read {w0 w : World} {x : PT} {s : Mem.MS} {ds : List MDef} {qs : List PX} (h : Solo w0 w x s ds qs) {k : Nat} {d : MDef} (hd : ds[k]? = some d) {sl : Nat} (hs : (sl : Int) < d.max) :
  Mem.readE s.rs (plI k sl) d.val = 0 ∧ ((Mem.readV s.rs (plI k sl) d.val).length : Int) = d.val ∧ ∀ y ∈ Mem.readV s.rs (plI k sl) d.val, 0 ≤ y ∧ y ≤ 255 := by
 obtain ⟨r, hr, hp, hb, hl⟩ := h.regs k d hd sl hs
 have := MemAt.read_at h.p.mem hr hp
 rw [hb, hl] at this
 rw [this.1, this.2]
 exact ⟨rfl, hl, (h.p.mem.ok r hr).byte⟩
theorem Solo.write {w0 w w2 : World} {x : PT} {s s2 : Mem.MS} {ds : List MDef} {qs : List PX} (h : Solo w0 w x s ds qs) (h2 : Mem.MemAt w2 s2) {k : Nat} {d : MDef} (hd : ds[k]? = some d) {sl : Nat} (hs : (sl : Int) < d.max) {vs : List Int} (hl : (vs.length : Int) = d.val) (e : s2.rs = Mem.writeRs s.rs (plI k sl) vs) :
  Mem.readV s2.rs (plI k sl) d.val = vs ∧ ∀ (k' : Nat) (d' : MDef) (sl' : Nat), ds[k']? = some d' → (sl' : Int) < d'.max → plI k' sl' ≠ plI k sl → Mem.readV s2.rs (plI k' sl') d'.val = Mem.readV s.rs (plI k' sl') d'.val := by
 obtain ⟨r, hr, hp, hb, hrl⟩ := h.regs k d hd sl hs
 rw [← hb] at e
 obtain ⟨e1, e2⟩ := write_all h.p.mem h2 hr hp (vs := vs) (by omega) e
 rw [hb, hl] at e1
 refine ⟨e1.2, fun k' d' sl' hd' hs' hne => ?_⟩
 obtain ⟨r2, h1, h2, h3, h4⟩ := h.regs k' d' hd' sl' hs'
 have := (e2 r2 h1 h2 (by rw [h3, hb]; exact hne)).2
 rw [h3, h4] at this
 exact this
theorem Solo.writes {w0 w : World} {x : PT} {s : Mem.MS} {ds : List MDef} {qs : List PX} (h : Solo w0 w x s ds qs) {k : Nat} {d : MDef} (hd : ds[k]? = some d) {sl : Nat} (hs : (sl : Int) < d.max) {vs : List Int} (hl : (vs.length : Int) = d.val) :
  Mem.writeE s.rs (plI k sl) vs = 0 ∧ Regs ds (Mem.writeRs s.rs (plI k sl) vs) := by
 obtain ⟨r, hr, hp, hb, hrl⟩ := h.regs k d hd sl hs
 rw [← hb]
 exact ⟨(MemAt.write_at h.p.mem hr hp (by omega)).1, Regs.write h.p.mem h.regs hr hp (by omega)⟩
theorem load_read {rs : List Mem.Reg} {p n : Int} (h0 : 0 < n) (hw : Mem.wordB n = true) (hr : Mem.readE rs p n = 0) : Mem.loadE rs p n = 0 ∧ Mem.loadV rs p n = Mem.num (fun j => (Mem.readV rs p n).getD j 0) n.toNat := by
 unfold Mem.readE at hr
 rw [if_neg (by omega), if_neg (by omega)] at hr
 unfold Mem.loadE Mem.loadV Mem.readV
 rw [if_pos hw, if_pos ⟨hw, hr⟩, if_neg (by omega)]
 exact ⟨hr, rfl⟩
end Go.Proofs.YtmhhahmjkopjhaaGreat
end
section
namespace Go.Proofs.YtmhhahmjkopjhaaGreat
open Go.RowKit
theorem KeyAt.new1 (w : World) (a : Int) (h : 0 ≤ a ∧ a ≤ 255) : KeyAt (w.alloc (.cells #[.int .u8 a] 5)) (some ⟨w.heap.size, 0, none⟩) 1 [a] := by
 have hB := Blk.newA w #[.int .u8 a] _ 5 rfl
 refine ⟨rfl, by simpa using h, by simp, fun _ => ⟨_, 0, rfl, fun j hj => ?_⟩⟩
 simp at hj
 subst hj
 exact hB.cell rfl
theorem KeyAt.new2 (w : World) (a b : Int) (h : 0 ≤ a ∧ a ≤ 255) (h' : 0 ≤ b ∧ b ≤ 255) : KeyAt (w.alloc (.cells #[.int .u8 a, .int .u8 b] 5)) (some ⟨w.heap.size, 0, none⟩) 2 [a, b] := by
 have hB := Blk.newA w #[.int .u8 a, .int .u8 b] _ 5 rfl
 refine ⟨rfl, by simpa using ⟨h, h'⟩, by simp, fun _ => ⟨_, 0, rfl, fun j hj => ?_⟩⟩
 simp at hj
 have : j = 0 ∨ j = 1 := by omega
 rcases this with rfl | rfl <;> exact hB.cell rfl
theorem DefsAt.one (w : World) (d : MDef) : DefsAt (w.alloc (.cells d.cells.toArray 36)) (some ⟨w.heap.size, 0, none⟩) 1 [d] := by
 have hB := Blk.newA w d.cells.toArray _ 36 rfl
 refine ⟨rfl, by omega, fun _ => ⟨_, 0, rfl, fun i d' hd j v hv => ?_⟩⟩
 match i, hd with
 | 0, hd =>
  simp at hd
  subst hd
  simp only [Nat.zero_mul, Nat.zero_add]
  exact hB.cell hv
theorem FreeAll.nil (ds : List MDef) (h : ds.length ≤ 8) (h2 : ∀ d ∈ ds, 0 ≤ d.max ∧ d.max ≤ 64) : roomOk ds [] := by
 have := maxSum_bd ds h2
 exact ⟨fun i d _ _ s _ => by simp [Mem.busyB], by simp; omega⟩
def fD : MDef := ⟨1, 1, 2, 2⟩
def fQ : PX := ((newQ fD).putA [7] 0).2
theorem upd_eqs {x : PT} {ds : List MDef} {qs : List PX} (h1 : x.ds = ds) (h2 : x.qs = qs) {k : Nat} {d : MDef} {q : PX} (hd : ds[k]? = some d) (hq : qs[k]? = some q) {bs vs : List Int} {fl : Int} (hb : (bs.length : Int) = d.key) (hv : (vs.length : Int) = d.val) :
  updP x k bs vs fl = if (q.putA bs fl).1.2.2 = 0 then (0, qs.set k (q.putA bs fl).2, some (plI k (q.putA bs fl).1.1)) else ((q.putA bs fl).1.2.2, qs.set k (q.putA bs fl).2, none) := by
 subst h1
 subst h2
 obtain ⟨m, hm, hmd, hmq⟩ := PT.at_ds hd hq
 subst hmd
 subst hmq
 have hc : chkP x.ds k bs.length = 0 := by
  unfold chkP
  rw [if_pos ⟨by omega, by have := (List.getElem?_eq_some_iff.1 hd).1; omega⟩, Int.toNat_natCast, hd]
  dsimp only
  rw [if_pos hb]
 unfold updP
 rw [if_pos hc, Int.toNat_natCast, hm]
 dsimp only
 rw [if_pos hv]
theorem look_eqs {x : PT} {ds : List MDef} {qs : List PX} (h1 : x.ds = ds) (h2 : x.qs = qs) {k : Nat} {d : MDef} {q : PX} (hd : ds[k]? = some d) (hq : qs[k]? = some q) {bs : List Int} (hb : (bs.length : Int) = d.key) :
  lookP x k bs = ((match (q.findA bs).1 with
   | some s => plI k (s : Int)
   | none => 0, 0), qs.set k (q.findA bs).2) := by
 subst h1
 subst h2
 obtain ⟨m, hm, hmd, hmq⟩ := PT.at_ds hd hq
 subst hmd
 subst hmq
 have hc : chkP x.ds k bs.length = 0 := by
  unfold chkP
  rw [if_pos ⟨by omega, by have := (List.getElem?_eq_some_iff.1 hd).1; omega⟩, Int.toNat_natCast, hd]
  dsimp only
  rw [if_pos hb]
 unfold lookP
 rw [if_pos hc, Int.toNat_natCast, hq] <;> rfl
set_option maxHeartbeats 2000000 in
set_option maxRecDepth 100000 in
theorem first_any (w : World) : Calls Tryz.prog 7 #[] w fun e w' => e = .returned (.bool true) ∧ Touch [] w w' := by
 go_enter Tryz.func7, Tryz.ntmps7
 go_wp2_with fail
 refine (Mem.newM_any _).mono ?_
 rintro e w2 ⟨rfl, hm, ht⟩
 go_wp2_with fail
 have HM := toHid (And.intro hm ht)
 have ht2 := (Touch.refl [] w2).alloc (.cells fD.cells.toArray 36)
 have H1 := toHid (pnew_any (hm.touch ht2 (by simp)) (by show 0 ≤ 1000000; omega) (sc := 1) (DefsAt.one w2 fD))
 clear hm ht ht2
 refine Calls.mono H1.out ?_
 rintro e w3 hp
 have hp : ∃ x s', e = .returned (.tuple #[.pointer (some ⟨x.t, 0, none⟩), .int .i64 0]) ∧ s'.m = w.heap.size ∧ Solo w w3 x s' [fD] [newQ fD] := by
  rcases hp with hp | hp | ⟨_, _, x, s', he, hN⟩
  ·exact absurd hp.1 (by decide)
  ·exact absurd (FreeAll.nil [fD] (by simp) (by decide)) hp.2.1
  ·exact ⟨x, s', he, hN.m, Solo.new hN (by decide) (HM.out.2.trans ((Touch.refl [] w2).alloc _) (by simp)) (fun b hb => by
    have : b = w.heap.size := by simpa [Mem.MS.blocks, Mem.MS.new] using hb
    omega)⟩
 obtain ⟨x, s, rfl, hsm, hS⟩ := hp
 have HS := toHid (And.intro hS hsm)
 clear hS hsm H1 HM
 go_wp2_with fail
 have ht3 := ((Touch.refl [] w3).alloc (.cells #[.int .u8 7] 5)).trans ((Touch.refl [] _).alloc (.cells #[.int .u8 1, .int .u8 2] 5)) (S' := []) (by simp)
 have hS3 := HS.out.1.still ht3
 have hk7 := (KeyAt.new1 w3 7 (by decide)).touch ((Touch.refl [] _).alloc (.cells #[.int .u8 1, .int .u8 2] 5))
 have hxb : ∀ b off, (some ⟨w3.heap.size, 0, none⟩ : Option Addr) = some ⟨b, off, none⟩ → b ∉ x.blocks := fun b off e hx => by
  injection e with e
  injection e with e
  have := HS.out.1.p.tab.lt b hx
  omega
 have hxb2 : ∀ b off, (some ⟨w3.heap.size + 1, 0, none⟩ : Option Addr) = some ⟨b, off, none⟩ → b ∉ x.blocks := fun b off e hx => by
  injection e with e
  injection e with e
  have := HS.out.1.p.tab.lt b hx
  omega
 have hsz : (w3.alloc (.cells #[.int .u8 7] 5)).heap.size = w3.heap.size + 1 := World.size_alloc _ _
 have hv12 := KeyAt.new2 (w3.alloc (.cells #[.int .u8 7] 5)) 1 2 (by decide) (by decide)
 rw [hsz] at hv12
 have H1 := toHid (pupdate_any hS3.p 0 hk7 1 (by omega) (fun b off e _ => hxb b off e) hv12 2 (fun b off e _ => hxb2 b off e) 0 (by omega))
 rw [show updP x 0 [7] [1, 2] 0 = (0, [fQ], some (plI 0 0)) from (upd_eqs HS.out.1.ds HS.out.1.qs (k := 0) (d := fD) (q := newQ fD) rfl rfl rfl rfl).trans rfl] at H1
 have HS3 := toHid hS3
 clear ht3 hS3 hk7 hxb hxb2 hsz hv12
 refine Calls.mono H1.out ?_
 rintro e w4 ⟨rfl, x1, st⟩
 replace st : PUSt _ w4 x x1 s [fQ] (Mem.writeRs s.rs (plI 0 0) [1, 2]) := st
 obtain ⟨he, hg⟩ := HS3.out.writes (k := 0) (d := fD) rfl (sl := 0) (by decide) (vs := [1, 2]) rfl
 rw [show updE s.rs [1, 2] (0, [fQ], some (plI 0 0)) = 0 from he]
 have HS4 := toHid (HS3.out.upd st hg)
 have HV := toHid (HS3.out.write st.both.mem (k := 0) (d := fD) rfl (sl := 0) (by decide) (vs := [1, 2]) rfl rfl).1
 have HE : Hid (x1.t = x.t) := st.t
 clear st he hg H1
 dsimp only at HV
 generalize Mem.writeRs s.rs (plI 0 0) [1, 2] = rs1 at *
 go_wp2_with fail
 have ht4 := (Touch.refl [] w4).alloc (.cells #[.int .u8 7] 5)
 have hS4 := HS4.out.still ht4
 have H1 := toHid (plookup_any hS4.p.tab 0 (KeyAt.new1 w4 7 (by decide)) 1 (by omega))
 rw [show lookP x1 0 [7] = ((137438953472, 0), [(fQ.findA [7]).2]) from (look_eqs hS4.ds hS4.qs (k := 0) (d := fD) (q := fQ) rfl rfl rfl).trans rfl, HE.out] at H1
 have HS5 := toHid hS4
 clear ht4 hS4 HS4 HS3
 refine Calls.mono H1.out ?_
 rintro e w5 ⟨rfl, x2, st⟩
 have HS6 := toHid (HS5.out.step st)
 clear st H1 HS5
 have H1 := toHid (Mem.load_any HS6.out.p.mem 137438953472 2 (by omega) (by omega))
 have hl := load_read (n := 2) (by omega) (by decide) (HS6.out.read (k := 0) (d := fD) rfl (sl := 0) (by decide)).1
 rw [show Mem.loadE rs1 137438953472 2 = 0 from hl.1, show Mem.loadV rs1 137438953472 2 = 513 from hl.2.trans (by show Mem.num (fun j => (Mem.readV rs1 (plI ((0 : Nat) : Int) ((0 : Nat) : Int)) 2).getD j 0) 2 = 513; rw [show Mem.readV rs1 (plI ((0 : Nat) : Int) ((0 : Nat) : Int)) 2 = [1, 2] from HV.out]; rfl)] at H1
 rw [show ({ s with rs := rs1 } : Mem.MS).m = w.heap.size from HS.out.2] at H1
 clear hl
 go_wp2_with fail
 refine Calls.mono H1.out ?_
 rintro e w6 ⟨rfl, k, rfl⟩
 have HT := toHid (HS6.out.touch.trans ((Touch.refl [] w5).drewN k) (by simp))
 clear H1 HS6
 go_wp2
 go_ret
 exact ⟨rfl, HT.out⟩
end Go.Proofs.YtmhhahmjkopjhaaGreat
end
section
namespace Go.Proofs.YtmhhahmjkopjhaaGreat
open Go.RowKit
theorem zero36n : (Tryz.prog.info? 36).map (fun i => (i.zero, i.size)) = some (some (.agg #[.int .i64 0, .int .i64 0, .int .i64 0, .int .i64 0]), 4) := by kernel_rfl
set_option maxHeartbeats 1000000 in
set_option maxRecDepth 100000 in
theorem look_nil (w : World) (i : Int) (sa : Option Addr) (sl sc : Nat) :
  Calls Tryz.prog 22 #[.pointer none, .int .i64 i, .slice sa sl sc] w fun e w' => e = .returned (.tuple #[.int .u64 0, .int .i64 1]) ∧ Touch [] w w' := by
 have hz := (zero_of_info (P := Tryz.prog) zero89).1
 have hsz := (zero_of_info (P := Tryz.prog) zero89).2
 have H1 := toHid (asked_nil w i sa sl sc)
 simp only [zeroV] at H1
 go_enter Tryz.func22, Tryz.ntmps22
 go_wp2_with fail
 refine Calls.mono H1.out ?_
 rintro e w2 ⟨rfl, ht2⟩
 have HF : Hid (∀ o, Touch [] w (w2.alloc o)) := fun o => ht2.alloc o
 clear ht2
 go_wp2
 go_ret2
 exact ⟨rfl, HF.out _⟩
set_option maxHeartbeats 1000000 in
set_option maxRecDepth 100000 in
theorem del_nil (w : World) (i : Int) (sa : Option Addr) (sl sc : Nat) :
  Calls Tryz.prog 25 #[.pointer none, .int .i64 i, .slice sa sl sc] w fun e w' => e = .returned (.int .i64 1) ∧ Touch [] w w' := by
 have hz := (zero_of_info (P := Tryz.prog) zero89).1
 have hsz := (zero_of_info (P := Tryz.prog) zero89).2
 have H1 := toHid (asked_nil w i sa sl sc)
 simp only [zeroV] at H1
 go_enter Tryz.func25, Tryz.ntmps25
 go_wp2_with fail
 refine Calls.mono H1.out ?_
 rintro e w2 ⟨rfl, ht2⟩
 have HF : Hid (∀ o, Touch [] w (w2.alloc o)) := fun o => ht2.alloc o
 clear ht2
 go_wp2
 go_ret
 exact ⟨rfl, HF.out _⟩
set_option maxHeartbeats 1000000 in
set_option maxRecDepth 100000 in
theorem upd_nil (w : World) (i : Int) (sa : Option Addr) (sl sc : Nat) (va : Option Addr) (vl vc : Nat) (fl : Int) :
  Calls Tryz.prog 24 #[.pointer none, .int .i64 i, .slice sa sl sc, .slice va vl vc, .int .u64 fl] w fun e w' => e = .returned (.int .i64 1) ∧ Touch [] w w' := by
 have hz := (zero_of_info (P := Tryz.prog) zero89).1
 have hsz := (zero_of_info (P := Tryz.prog) zero89).2
 have H1 := toHid (asked_nil w i sa sl sc)
 simp only [zeroV] at H1
 go_enter Tryz.func24, Tryz.ntmps24
 go_wp2_with fail
 refine Calls.mono H1.out ?_
 rintro e w2 ⟨rfl, ht2⟩
 have HF : Hid (∀ o, Touch [] w (w2.alloc o)) := fun o => ht2.alloc o
 clear ht2
 go_wp2
 go_ret
 exact ⟨rfl, HF.out _⟩
set_option maxHeartbeats 1000000 in
set_option maxRecDepth 100000 in
theorem get_nil (w : World) (i : Int) (sa : Option Addr) (sl sc : Nat) :
  Calls Tryz.prog 23 #[.pointer none, .int .i64 i, .slice sa sl sc] w fun e w' => e = .returned (.tuple #[.slice none 0 0, .int .i64 1]) ∧ Touch [] w w' := by
 have H1 := toHid (look_nil w i sa sl sc)
 go_enter Tryz.func23, Tryz.ntmps23
 go_wp2_with fail
 refine Calls.mono H1.out ?_
 rintro e w2 ⟨rfl, ht2⟩
 have HF := toHid ht2
 clear ht2
 go_wp2
 go_ret2
 exact ⟨rfl, HF.out⟩
set_option maxHeartbeats 1000000 in
set_option maxRecDepth 100000 in
theorem dump_nil (w : World) (i : Int) :
  Calls Tryz.prog 14 #[.pointer none, .int .i64 i] w fun e w' => e = .returned (.tuple #[.slice none 0 0, .int .i64 1]) ∧ Touch [] w w' := by
 have hz := (zero_of_info (P := Tryz.prog) zero89).1
 have hsz := (zero_of_info (P := Tryz.prog) zero89).2
 have H1 := toHid (numbered_nil w i)
 simp only [zeroV] at H1
 go_enter Tryz.func14, Tryz.ntmps14
 go_wp2_with fail
 refine Calls.mono H1.out ?_
 rintro e w2 ⟨rfl, ht2⟩
 have HF : Hid (∀ o, Touch [] w (w2.alloc o)) := fun o => ht2.alloc o
 clear ht2
 go_wp2
 go_ret2
 exact ⟨rfl, HF.out _⟩
set_option maxHeartbeats 2000000 in
set_option maxRecDepth 100000 in
theorem def_gen0 {w : World} {p : Value} (i : Int) {a b c d e : Int} (hp : p = .pointer none) (H1 : Hid (∀ o, Calls Tryz.prog 32 #[p, .int .i64 i] (w.alloc o) fun e' w' => e' = .returned (.tuple #[.agg #[.int .i64 a, .int .i64 b, .int .i64 c, .int .i64 d, .nilIface], .int .i64 e]) ∧ Touch [] (w.alloc o) w')) :
  Calls Tryz.prog 12 #[p, .int .i64 i] w fun e' w' => e' = .returned (.tuple #[.agg #[.int .i64 a, .int .i64 b, .int .i64 c, .int .i64 d], .bool (e == 0)]) ∧ Touch [] w w' := by
 have hz := (zero_of_info (P := Tryz.prog) zero89).1
 have hsz := (zero_of_info (P := Tryz.prog) zero89).2
 have hz3 := (zero_of_info (P := Tryz.prog) zero36n).1
 have hsz3 := (zero_of_info (P := Tryz.prog) zero36n).2
 have HB := toHid (Blk.newA w #[.int .i64 0, .int .i64 0, .int .i64 0, .int .i64 0] _ 36 rfl)
 have HT := toHid (fun o => (Touch.refl [] w).alloc o)
 subst hp
 go_enter Tryz.func12, Tryz.ntmps12
 go_wp2_with fail
 refine Calls.mono (H1.out _) ?_
 rintro e' w2 ⟨rfl, ht2⟩
 have hta2 : ∀ o, Touch [] w2 (w2.alloc o) := fun o => (Touch.refl [] w2).alloc o
 have hb2 := fun o => (hta2 o).blk (ht2.blk HB.out (by simp)) (by simp)
 have f0 := fun o => (hb2 o).frozen 0
 have f1 := fun o => (hb2 o).frozen 1
 have f2 := fun o => (hb2 o).frozen 2
 have f3 := fun o => (hb2 o).frozen 3
 have c0 := fun o => (hb2 o).cell (i := 0) rfl
 have c1 := fun o => (hb2 o).cell (i := 1) rfl
 have c2 := fun o => (hb2 o).cell (i := 2) rfl
 have c3 := fun o => (hb2 o).cell (i := 3) rfl
 have HE : Hid (∀ o v0 v1 v2 v3, Blk (((((w2.alloc o).setCell ⟨w.heap.size, 0, none⟩ v0).setCell ⟨w.heap.size, 1, none⟩ v1).setCell ⟨w.heap.size, 2, none⟩ v2).setCell ⟨w.heap.size, 3, none⟩ v3) w.heap.size [v0, v1, v2, v3] 36 ∧ Touch [] w (((((w2.alloc o).setCell ⟨w.heap.size, 0, none⟩ v0).setCell ⟨w.heap.size, 1, none⟩ v1).setCell ⟨w.heap.size, 2, none⟩ v2).setCell ⟨w.heap.size, 3, none⟩ v3)) := fun o v0 v1 v2 v3 => ⟨((((hb2 o).setCell 0 v0).setCell 1 v1).setCell 2 v2).setCell 3 v3, ((((((HT.out _).trans ht2 (by simp)).trans (hta2 o) (by simp)).setCell _ _ (Or.inr (Nat.le_refl _))).setCell _ _ (Or.inr (Nat.le_refl _))).setCell _ _ (Or.inr (Nat.le_refl _))).setCell _ _ (Or.inr (Nat.le_refl _))⟩
 have hNB := Blk.newA w2 #[.int .i64 a, .int .i64 b, .int .i64 c, .int .i64 d, .nilIface] _ 89 rfl
 have n0 := hNB.cell (i := 0) rfl
 have n1 := hNB.cell (i := 1) rfl
 have n2 := hNB.cell (i := 2) rfl
 have n3 := hNB.cell (i := 3) rfl
 clear ht2 hb2 hta2 H1 hNB
 go_wp2
 obtain ⟨HE1, HE2⟩ := HE.out _ _ _ _ _
 have HE2 := toHid HE2
 have e0 := HE1.cell (i := 0) rfl
 have e1 := HE1.cell (i := 1) rfl
 have e2 := HE1.cell (i := 2) rfl
 have e3 := HE1.cell (i := 3) rfl
 refine bodyPost_ret (v := .tuple #[.agg #[.int .i64 a, .int .i64 b, .int .i64 c, .int .i64 d], .bool (e == 0)]) ?_ rfl ⟨rfl, HE2.out⟩
 simp [results, Tryz.results12, go_sem, e0, e1, e2, e3]
theorem def_nil (w : World) (i : Int) :
  Calls Tryz.prog 12 #[.pointer none, .int .i64 i] w fun e w' => e = .returned (.tuple #[.agg #[.int .i64 0, .int .i64 0, .int .i64 0, .int .i64 0], .bool false]) ∧ Touch [] w w' :=
 def_gen0 i rfl (toHid fun o => numbered_nil (w.alloc o) i)
def defV : Option PMap → Value
 | some m => .tuple #[.agg m.d.cells.toArray, .bool true]
 | none => .tuple #[.agg #[.int .i64 0, .int .i64 0, .int .i64 0, .int .i64 0], .bool false]
end Go.Proofs.YtmhhahmjkopjhaaGreat
end
section
namespace Go.Proofs.YtmhhahmjkopjhaaGreat
open Go.RowKit
def TwinPost (w : World) (k : Int) (q : PX) (e : Ending) (w' : World) : Prop := ∃ C bl, e = .returned (ixV k C) ∧ KAt w' C bl q ∧ (∀ b ∈ bl, w.heap.size ≤ b) ∧ Touch [] w w'
end Go.Proofs.YtmhhahmjkopjhaaGreat
end
section
namespace Go.Proofs.YtmhhahmjkopjhaaGreat
open Go.RowKit
structure CopAt (w w' : World) (x : PT) (m T : Nat) (l : List (MDef × PX)) : Prop where
 tab : PTAt w' x
 t : x.t = T
 mem : x.mem = m
 ds : x.ds = l.map Prod.fst
 qs : x.qs = l.map Prod.snd
 own : ∀ b ∈ x.blocks, w.heap.size ≤ b
 touch : Touch [] w w'
def PT.ls (x : PT) : List (MDef × PX) := x.maps.map fun m => (m.d, m.q)
def PCopyPost (w : World) (x : PT) (m : Nat) (e : Ending) (w' : World) : Prop := ∃ t, e = .returned (.pointer (some ⟨t.t, 0, none⟩)) ∧ CopAt w w' t m t.t x.ls
theorem pcopy_nil1 (w : World) (v : Value) (hv : v = .pointer none ∨ ∃ b, v = .pointer (some ⟨b, 0, none⟩)) : Calls Tryz.prog 19 #[.pointer none, v] w fun e w' => e = .returned (.pointer none) ∧ w' = w := by
 rcases hv with rfl | ⟨b, rfl⟩
 ·go_enter Tryz.func19, Tryz.ntmps19
  go_wp2
  go_ret
  exact ⟨rfl, rfl⟩
 ·go_enter Tryz.func19, Tryz.ntmps19
  go_wp2
  go_ret
  exact ⟨rfl, rfl⟩
end Go.Proofs.YtmhhahmjkopjhaaGreat
end
section
namespace Go.Proofs.YtmhhahmjkopjhaaGreat
open Go.RowKit
structure OpT where
 k : Int
 mp : Int
 ka : Option Addr
 kl : Nat
 kc : Nat
 kb : List Int
 va : Option Addr
 vl : Nat
 vc : Nat
 vb : List Int
 fl : Int
structure OpT.Ok (w : World) (o : OpT) : Prop where
 k0 : -9223372036854775808 ≤ o.k
 k1 : o.k ≤ 9223372036854775807
 m0 : -9223372036854775808 ≤ o.mp
 m1 : o.mp ≤ 9223372036854775807
 f0 : 0 ≤ o.fl
 f1 : o.fl ≤ 18446744073709551615
 key : KeyAt w o.ka o.kl o.kb
 val : KeyAt w o.va o.vl o.vb
 kcap : o.kl ≤ o.kc
def OpT.cells (o : OpT) : List Value := [.int .i64 o.k, .int .i64 o.mp, .slice o.ka o.kl o.kc, .slice o.va o.vl o.vc, .int .u64 o.fl]
def opT (o : OpT) : Value := .agg #[.int .i64 o.k, .int .i64 o.mp, .slice o.ka o.kl o.kc, .slice o.va o.vl o.vc, .int .u64 o.fl]
end Go.Proofs.YtmhhahmjkopjhaaGreat
end
section
namespace Go.Proofs.YtmhhahmjkopjhaaGreat
open Go.RowKit
set_option maxHeartbeats 4000000 in
set_option maxRecDepth 100000 in
theorem nil_law (w : World) (o : OpT) : Calls Tryz.prog 5 #[opT o] w fun e w' => e = .returned (.bool true) ∧ Touch [] w w' := by
 have hta : Touch [] w (w.alloc (.cells o.cells.toArray 41)) := (Touch.refl [] w).alloc _
 have hB := Blk.newA w o.cells.toArray _ 41 rfl
 unfold opT
 unfold OpT.cells at *
 have HB := toHid (And.intro hta hB)
 have HW : Hid (∀ w', Touch [] (w.alloc (.cells #[.int .i64 o.k, .int .i64 o.mp, .slice o.ka o.kl o.kc, .slice o.va o.vl o.vc, .int .u64 o.fl] 41)) w' → w'.cell? ⟨w.heap.size, 1, none⟩ = some (.int .i64 o.mp) ∧ w'.cell? ⟨w.heap.size, 2, none⟩ = some (.slice o.ka o.kl o.kc) ∧ w'.cell? ⟨w.heap.size, 3, none⟩ = some (.slice o.va o.vl o.vc) ∧ w'.cell? ⟨w.heap.size, 4, none⟩ = some (.int .u64 o.fl) ∧ Touch [] w w') := fun w' ht => by
  have h9 := ht.blk HB.out.2 (by simp)
  exact ⟨h9.cell rfl, h9.cell rfl, h9.cell rfl, h9.cell rfl, HB.out.1.trans ht (by simp)⟩
 clear hta hB HB
 go_enter Tryz.func5, Tryz.ntmps5
 go_wp2_with fail
 refine (first_any _).mono ?_
 rintro e w2 ⟨rfl, ht2⟩
 have HT := toHid ht2
 clear ht2
 go_wp2_with fail
 refine (new_nil _ _ _ _).mono ?_
 rintro e w3 ⟨rfl, rfl⟩
 obtain ⟨c1, c2, c3, c4, _⟩ := HW.out _ HT.out
 go_wp2_with fail
 refine (look_nil _ _ _ _ _).mono ?_
 rintro e w4 ⟨rfl, ht2⟩
 clear c1 c2 c3 c4
 replace HT := toHid (HT.out.trans ht2 (by simp))
 clear ht2
 obtain ⟨c1, c2, c3, c4, _⟩ := HW.out _ HT.out
 go_wp2_with fail
 refine (get_nil _ _ _ _ _).mono ?_
 rintro e w5 ⟨rfl, ht2⟩
 clear c1 c2 c3 c4
 replace HT := toHid (HT.out.trans ht2 (by simp))
 clear ht2
 obtain ⟨c1, c2, c3, c4, _⟩ := HW.out _ HT.out
 go_wp2_with fail
 refine (dump_nil _ _).mono ?_
 rintro e w6 ⟨rfl, ht2⟩
 clear c1 c2 c3 c4
 replace HT := toHid (HT.out.trans ht2 (by simp))
 clear ht2
 obtain ⟨c1, c2, c3, c4, _⟩ := HW.out _ HT.out
 go_wp2_with fail
 refine (def_nil _ _).mono ?_
 rintro e w7 ⟨rfl, ht2⟩
 clear c1 c2 c3 c4
 have HT2 := toHid (fun o => (HT.out.trans ht2 (by simp)).alloc o)
 clear ht2
 obtain ⟨c1, c2, c3, c4, _⟩ := HW.out _ (HT2.out (.cells #[.int .i64 0, .int .i64 0, .int .i64 0, .int .i64 0] 36))
 have hz3 := (zero_of_info (P := Tryz.prog) zero36n).1
 have hsz3 := (zero_of_info (P := Tryz.prog) zero36n).2
 go_wp2_with fail
 refine (count_nil _).mono ?_
 rintro e w8 ⟨rfl, rfl⟩
 go_wp2_with fail
 refine (upd_nil _ _ _ _ _ _ _ _ _).mono ?_
 rintro e w9 ⟨rfl, ht2⟩
 clear c1 c2 c3 c4
 replace HT := toHid ((HT2.out _).trans ht2 (by simp))
 clear ht2
 obtain ⟨c1, c2, c3, c4, _⟩ := HW.out _ HT.out
 go_wp2_with fail
 refine (del_nil _ _ _ _ _).mono ?_
 rintro e w10 ⟨rfl, ht2⟩
 clear c1 c2 c3 c4
 replace HT := toHid (HT.out.trans ht2 (by simp))
 clear ht2
 go_wp2_with fail
 refine (Mem.newM_any _).mono ?_
 rintro e w11 ⟨rfl, _, ht2⟩
 replace HT := toHid (HT.out.trans ht2 (by simp))
 clear ht2
 go_wp2_with fail
 refine (pcopy_nil1 _ _ (Or.inr ⟨_, rfl⟩)).mono ?_
 rintro e w12 ⟨rfl, rfl⟩
 have HF := toHid (HW.out _ HT.out).2.2.2.2
 go_wp2
 go_ret
 exact ⟨rfl, HF.out⟩
end Go.Proofs.YtmhhahmjkopjhaaGreat
end
section
namespace Go.Proofs.YtmhhahmjkopjhaaGreat
open Go.ChangeShapes Go.WideShapes Go.ChangeAt Go.RowKit
theorem laidOut : laidOutB Tryz.prog = true := by kernel_rfl
theorem cellsOp : Tryz.prog.cellsOf 41 = 5 := by kernel_rfl
theorem cellsDef : Tryz.prog.cellsOf 36 = 4 := by kernel_rfl
theorem cellTypesOp : Tryz.prog.cellTypes Tryz.prog.depth 41 = some [3, 3, 39, 39, 23] := by kernel_rfl
theorem cellTypesDef : Tryz.prog.cellTypes Tryz.prog.depth 36 = some [34, 3, 3, 3] := by kernel_rfl
theorem cell_int {P : Program} {w : World} {r : Reach} {base : Nat} {t : TypeId} {v : Value} {k : IntKind} (ht : P.underlying t = some (.int k)) (h : Cell.okWide P w r base t v) : ∃ n, v = .int k n ∧ k.has n := by
 simp only [Cell.okWide, ht] at h
 cases v <;> simp_all [Cell.ok]
theorem cell_slice {P : Program} {w : World} {r : Reach} {base : Nat} {t e : TypeId} {v : Value} (ht : P.underlying t = some (.slice e)) (h : Cell.okWide P w r base t v) : ∃ a len cap, v = .slice a len cap := by
 simp only [Cell.okWide, ht] at h
 cases v <;> simp_all [Cell.ok]
theorem int_open {P : Program} {w : World} {r : Reach} {base : Nat} {t : TypeId} {v : Value} {k : IntKind} (ht : P.underlying t = some (.int k)) (h : Value.okWide P w r base t v) : ∃ n, v = .int k n ∧ k.has n := by
 simp only [Value.okWide, ht] at h
 exact cell_int ht h
theorem slice_open {P : Program} {w : World} {r : Reach} {base : Nat} {t e : TypeId} {v : Value} (ht : P.underlying t = some (.slice e)) (h : Value.okWide P w r base t v) : ∃ a len cap, v = .slice a len cap := by
 simp only [Value.okWide, ht] at h
 exact cell_slice ht h
theorem has_i64 {n : Int} (h : IntKind.i64.has n) : -9223372036854775808 ≤ n ∧ n ≤ 9223372036854775807 := by
 simp [IntKind.has, IntKind.min, IntKind.max, IntKind.signed, IntKind.bits] at h
 omega
theorem has_u64 {n : Int} (h : IntKind.u64.has n) : 0 ≤ n ∧ n ≤ 18446744073709551615 := by
 simp [IntKind.has, IntKind.min, IntKind.max, IntKind.signed, IntKind.bits] at h
 omega
set_option maxRecDepth 100000 in
theorem val_i64 {W : World} {base : Nat} {v : Value} (h : Value.okWide Tryz.prog W .any base 3 v) : ∃ n, v = .int .i64 n ∧ -9223372036854775808 ≤ n ∧ n ≤ 9223372036854775807 := by
 obtain ⟨n, rfl, hn⟩ := int_open Tryz.underlying3 h
 exact ⟨n, rfl, has_i64 hn⟩
set_option maxRecDepth 100000 in
theorem val_u64 {W : World} {base : Nat} {v : Value} (h : Value.okWide Tryz.prog W .any base 23 v) : ∃ n, v = .int .u64 n ∧ 0 ≤ n ∧ n ≤ 18446744073709551615 := by
 obtain ⟨n, rfl, hn⟩ := int_open Tryz.underlying23 h
 exact ⟨n, rfl, has_u64 hn⟩
theorem wf_u64 {n : Int} (h : (Lit.int .u64 n).wf = true) : 0 ≤ n ∧ n ≤ 18446744073709551615 := by
 simp [Lit.wf, IntKind.min, IntKind.max, IntKind.signed, IntKind.bits] at h
 omega
theorem wf_i64 {n : Int} (h : (Lit.int .i64 n).wf = true) : -9223372036854775808 ≤ n ∧ n ≤ 9223372036854775807 := by
 simp [Lit.wf, IntKind.min, IntKind.max, IntKind.signed, IntKind.bits] at h
 omega
theorem wf_u8 {n : Int} (h : (Lit.int .u8 n).wf = true) : 0 ≤ n ∧ n ≤ 255 := by
 simp [Lit.wf, IntKind.min, IntKind.max, IntKind.signed, IntKind.bits] at h
 omega
theorem five {cs : Array Value} (h : cs.size = 5) : ∃ c0 c1 c2 c3 c4, cs = #[c0, c1, c2, c3, c4] := by
 obtain ⟨l⟩ := cs
 match l, h with
 | [c0, c1, c2, c3, c4], _ => exact ⟨c0, c1, c2, c3, c4, rfl⟩
theorem four {cs : Array Value} (h : cs.size = 4) : ∃ c0 c1 c2 c3, cs = #[c0, c1, c2, c3] := by
 obtain ⟨l⟩ := cs
 match l, h with
 | [c0, c1, c2, c3], _ => exact ⟨c0, c1, c2, c3, rfl⟩
theorem op_cells {P : Program} {w : World} {r : Reach} {base : Nat} {t3 tb tu e : TypeId} (u3 : P.underlying t3 = some (.int .i64)) (uu : P.underlying tu = some (.int .u64)) (ub : P.underlying tb = some (.slice e))
  {c0 c1 c2 c3 c4 : Value} (hc : ∀ (i : Nat) v, (#[c0, c1, c2, c3, c4] : Array Value)[i]? = some v → ∃ u, ([t3, t3, tb, tb, tu] : List TypeId)[i % 5]? = some u ∧ Cell.okWide P w r base u v) : ∃ o : OpT, (.agg #[c0, c1, c2, c3, c4]) = opT o := by
 obtain ⟨x0, hu0, h0⟩ := hc 0 c0 rfl
 obtain ⟨x1, hu1, h1⟩ := hc 1 c1 rfl
 obtain ⟨x2, hu2, h2⟩ := hc 2 c2 rfl
 obtain ⟨x3, hu3, h3⟩ := hc 3 c3 rfl
 obtain ⟨x4, hu4, h4⟩ := hc 4 c4 rfl
 simp at hu0 hu1 hu2 hu3 hu4
 subst hu0 hu1 hu2 hu3 hu4
 obtain ⟨k0, rfl, _⟩ := cell_int u3 h0
 obtain ⟨m0, rfl, _⟩ := cell_int u3 h1
 obtain ⟨ka, kl, kc, rfl⟩ := cell_slice ub h2
 obtain ⟨va, vl, vc, rfl⟩ := cell_slice ub h3
 obtain ⟨f0, rfl, _⟩ := cell_int uu h4
 exact ⟨⟨k0, m0, ka, kl, kc, [], va, vl, vc, [], f0⟩, rfl⟩
set_option maxRecDepth 100000 in
theorem op_open {W : World} {base : Nat} {v : Value} (h : Value.okWide Tryz.prog W .any base 41 v) : ∃ o : OpT, v = opT o := by
 simp only [Value.okWide, Tryz.underlying41] at h
 obtain ⟨cs, rfl, hsz, ts, hts, _, hc⟩ := h
 rw [cellTypesOp] at hts
 injection hts with hts
 subst hts
 rw [cellsOp] at hsz
 obtain ⟨c0, c1, c2, c3, c4, rfl⟩ := five hsz
 exact op_cells Tryz.underlying3 Tryz.underlying23 Tryz.underlying39 hc
theorem def_cells {P : Program} {w : World} {r : Reach} {base : Nat} {tk t3 : TypeId} (uk : P.underlying tk = some (.int .i64)) (u3 : P.underlying t3 = some (.int .i64))
  {c0 c1 c2 c3 : Value} (hc : ∀ (i : Nat) v, (#[c0, c1, c2, c3] : Array Value)[i]? = some v → ∃ u, ([tk, t3, t3, t3] : List TypeId)[i % 4]? = some u ∧ Cell.okWide P w r base u v) : ∃ d : MDef, (.agg #[c0, c1, c2, c3]) = Value.agg d.cells.toArray := by
 obtain ⟨x0, hu0, h0⟩ := hc 0 c0 rfl
 obtain ⟨x1, hu1, h1⟩ := hc 1 c1 rfl
 obtain ⟨x2, hu2, h2⟩ := hc 2 c2 rfl
 obtain ⟨x3, hu3, h3⟩ := hc 3 c3 rfl
 simp at hu0 hu1 hu2 hu3
 subst hu0 hu1 hu2 hu3
 obtain ⟨a, rfl, _⟩ := cell_int uk h0
 obtain ⟨b, rfl, _⟩ := cell_int u3 h1
 obtain ⟨c, rfl, _⟩ := cell_int u3 h2
 obtain ⟨d, rfl, _⟩ := cell_int u3 h3
 exact ⟨⟨a, b, c, d⟩, rfl⟩
set_option maxRecDepth 100000 in
theorem def_open {W : World} {base : Nat} {v : Value} (h : Value.okWide Tryz.prog W .any base 36 v) : ∃ d : MDef, v = .agg d.cells.toArray := by
 simp only [Value.okWide, Tryz.underlying36] at h
 obtain ⟨cs, rfl, hsz, ts, hts, _, hc⟩ := h
 rw [cellTypesDef] at hts
 injection hts with hts
 subst hts
 rw [cellsDef] at hsz
 obtain ⟨c0, c1, c2, c3, rfl⟩ := four hsz
 exact def_cells Tryz.underlying34 Tryz.underlying3 hc
structure ScriptT (w : World) (sa : Option Addr) (n : Nat) (f : Nat → OpT) : Prop where
 small : n ≤ 9223372036854775807
 at_ : ∀ j, j < n → ∃ b off, sa = some ⟨b, off, none⟩ ∧ (f j).Ok w ∧ ∀ r v, (f j).cells[r]? = some v → w.cell? ⟨b, off + j * 5 + r, none⟩ = some v
section
variable {H : Type} {enc : TypeId × Value → H} {W : World}
theorem key_in {m : Nat} {v : Value} {x : DataW H × List MemPlace} (h : DataW.trod enc Tryz.prog W 0 (fun _ => true) true m 39 [v] = some x) : ∃ sa sl sc bs, v = .slice sa sl sc ∧ KeyAt W sa sl bs ∧ sl ≤ sc := by
 rcases open_ints Tryz.underlying39 Tryz.underlying5 (by kernel_rfl) h with ⟨hcs, _⟩ | ⟨a, l, c, zs, hcs, _, hl, hm, hz, _, hcell, hwz⟩
 ·simp at hcs
  exact ⟨none, 0, 0, [], hcs, ⟨rfl, by simp, by simp, by simp⟩, Nat.le_refl _⟩
 ·simp at hcs
  have hz' : zs.length = c := by simpa using hz
  unfold maxLen at hm
  have hlen : (zs.take l).length = l := by simp; omega
  refine ⟨some a, l, c, zs.take l, hcs, ⟨hlen.symm, fun y hy => wf_u8 (hwz y (List.mem_of_mem_take hy)), by omega, fun hp => ?_⟩, hl⟩
  obtain ⟨b, off, spot⟩ := a
  have hc := hcell 0 (by omega)
  have hspot : spot = none := by simpa [Addr.add] using World.cell?_spot hc
  subst hspot
  refine ⟨b, off, rfl, fun j hj => ?_⟩
  have hjl : j < l := by omega
  have hj' := hcell j (by omega)
  rw [Addr.add_lit] at hj'
  rw [hj', List.getD_eq_getElem?_getD, List.getD_eq_getElem?_getD, List.getElem?_take, if_pos hjl]
set_option maxRecDepth 100000 in
theorem op_at {m : Nat} {cs : List Value} {x : DataW H × List MemPlace} (h : DataW.trod enc Tryz.prog W 0 (fun _ => true) true m 41 cs = some x) : ∃ o : OpT, o.Ok W ∧ cs = o.cells := by
 obtain ⟨xs, k, _, _, hl, hxl, hf⟩ := DataW.trod_struct Tryz.underlying41 h
 rw [cellsOp] at hl
 match cs, hl with
 | [u0, u1, u2, u3, u4], _ =>
  have g0 : DataW.trod enc Tryz.prog W 0 (fun _ => true) true k 3 (List.take (Tryz.prog.cellsOf 3) (List.drop 0 [u0, u1, u2, u3, u4])) = xs[0]? := hf 0 _ rfl
  have g1 : DataW.trod enc Tryz.prog W 0 (fun _ => true) true k 3 (List.take (Tryz.prog.cellsOf 3) (List.drop 1 [u0, u1, u2, u3, u4])) = xs[1]? := hf 1 _ rfl
  have g2 : DataW.trod enc Tryz.prog W 0 (fun _ => true) true k 39 (List.take (Tryz.prog.cellsOf 39) (List.drop 2 [u0, u1, u2, u3, u4])) = xs[2]? := hf 2 _ rfl
  have g3 : DataW.trod enc Tryz.prog W 0 (fun _ => true) true k 39 (List.take (Tryz.prog.cellsOf 39) (List.drop 3 [u0, u1, u2, u3, u4])) = xs[3]? := hf 3 _ rfl
  have g4 : DataW.trod enc Tryz.prog W 0 (fun _ => true) true k 23 (List.take (Tryz.prog.cellsOf 23) (List.drop 4 [u0, u1, u2, u3, u4])) = xs[4]? := hf 4 _ rfl
  have k3 : Tryz.prog.cellsOf 3 = 1 := by kernel_rfl
  have kb : Tryz.prog.cellsOf 39 = 1 := by kernel_rfl
  have ku : Tryz.prog.cellsOf 23 = 1 := by kernel_rfl
  simp only [k3, kb, ku, List.drop_succ_cons, List.drop_zero, List.take_succ_cons, List.take_zero] at g0 g1 g2 g3 g4
  match xs, hxl with
  | [x0, x1, x2, x3, x4], _ =>
   obtain ⟨n0, e0, _, w0⟩ := DataW.trod_int Tryz.underlying3 (show _ = some x0 from g0)
   obtain ⟨n1, e1, _, w1⟩ := DataW.trod_int Tryz.underlying3 (show _ = some x1 from g1)
   obtain ⟨ka, kl, kc, kb, e2, hk, hkc⟩ := key_in (show _ = some x2 from g2)
   obtain ⟨va, vl, vc, vb, e3, hv, hvc⟩ := key_in (show _ = some x3 from g3)
   obtain ⟨n4, e4, _, w4⟩ := DataW.trod_int Tryz.underlying23 (show _ = some x4 from g4)
   simp at e0 e1 e4
   subst e0 e1 e2 e3 e4
   exact ⟨⟨n0, n1, ka, kl, kc, kb, va, vl, vc, vb, n4⟩, ⟨(wf_i64 w0).1, (wf_i64 w0).2, (wf_i64 w1).1, (wf_i64 w1).2, (wf_u64 w4).1, (wf_u64 w4).2, hk, hv, hkc⟩, rfl⟩
def OpT.zero : OpT := ⟨0, 0, none, 0, 0, [], none, 0, 0, [], 0⟩
theorem choose_op {Q : Nat → OpT → Prop} {m : Nat} (h : ∀ j, j < m → ∃ i, Q j i) : ∃ f : Nat → OpT, ∀ j, j < m → Q j (f j) := by
 refine ⟨fun j => if hj : j < m then Classical.choose (h j hj) else OpT.zero, fun j hj => ?_⟩
 simp only [hj, dif_pos]
 exact Classical.choose_spec (h j hj)
set_option maxRecDepth 100000 in
theorem script_in {sa : Option Addr} {n c : Nat} {d : DataW H} {p : List MemPlace} (h : DataW.Trod enc Tryz.prog W 0 (fun _ => true) true 24 (.slice sa n c) d p) : (∃ f, ScriptT W sa n f) ∧ n ≤ c := by
 obtain ⟨fuel, hf⟩ := h
 rcases Deep.open_slice Tryz.underlying24 hf with ⟨hcs, _⟩ | ⟨x, l, c', m, k, D, Pl, hcs, _, hl, hm, hmm, _, hx⟩
 ·simp [Value.cells] at hcs
  obtain ⟨rfl, rfl, rfl⟩ := hcs
  exact ⟨⟨fun _ => OpT.zero, by omega, fun j hj => by omega⟩, by omega⟩
 ·simp [Value.cells] at hcs
  obtain ⟨rfl, rfl, rfl⟩ := hcs
  simp only [if_true] at hmm
  subst hmm
  unfold maxLen at hm
  refine ⟨?_, by omega⟩
  by_cases h0 : n = 0
  ·exact ⟨fun _ => OpT.zero, by omega, fun j hj => by omega⟩
  ·rw [cellsOp] at hx
   have hx' : ∀ j, j < n → ∃ o : OpT, o.Ok W ∧ ∀ r v, o.cells[r]? = some v → W.cell? ((x.add (j * 5)).add r) = some v := by
    intro j hj
    obtain ⟨cs', h1, h2⟩ := hx j (by omega)
    obtain ⟨o, ok, rfl⟩ := op_at h2
    obtain ⟨_, hlen, hcell⟩ := World.cells?_some h1
    refine ⟨o, ok, fun r v hv => ?_⟩
    have hr : r < 5 := by have := (List.getElem?_eq_some_iff.1 hv).1; simpa [OpT.cells] using this
    rw [hcell r hr]
    exact hv
   obtain ⟨f, hf⟩ := choose_op hx'
   obtain ⟨b, off, spot⟩ := x
   have hc := (hf 0 (by omega)).2 0 _ rfl
   have hspot : spot = none := by simpa [Addr.add] using World.cell?_spot hc
   subst hspot
   refine ⟨f, by omega, fun j hj => ⟨b, off, rfl, (hf j hj).1, fun r v hv => ?_⟩⟩
   have := (hf j hj).2 r v hv
   rw [Addr.add_lit, Addr.add_lit] at this
   exact this
set_option maxRecDepth 100000 in
theorem def_at {m : Nat} {cs : List Value} {x : DataW H × List MemPlace} (h : DataW.trod enc Tryz.prog W 0 (fun _ => true) true m 36 cs = some x) : ∃ d : MDef, cs = d.cells := by
 obtain ⟨xs, k, _, _, hl, hxl, hf⟩ := DataW.trod_struct Tryz.underlying36 h
 rw [cellsDef] at hl
 match cs, hl with
 | [u0, u1, u2, u3], _ =>
  have g0 : DataW.trod enc Tryz.prog W 0 (fun _ => true) true k 34 (List.take (Tryz.prog.cellsOf 34) (List.drop 0 [u0, u1, u2, u3])) = xs[0]? := hf 0 _ rfl
  have g1 : DataW.trod enc Tryz.prog W 0 (fun _ => true) true k 3 (List.take (Tryz.prog.cellsOf 3) (List.drop 1 [u0, u1, u2, u3])) = xs[1]? := hf 1 _ rfl
  have g2 : DataW.trod enc Tryz.prog W 0 (fun _ => true) true k 3 (List.take (Tryz.prog.cellsOf 3) (List.drop 2 [u0, u1, u2, u3])) = xs[2]? := hf 2 _ rfl
  have g3 : DataW.trod enc Tryz.prog W 0 (fun _ => true) true k 3 (List.take (Tryz.prog.cellsOf 3) (List.drop 3 [u0, u1, u2, u3])) = xs[3]? := hf 3 _ rfl
  have k3 : Tryz.prog.cellsOf 3 = 1 := by kernel_rfl
  have kk : Tryz.prog.cellsOf 34 = 1 := by kernel_rfl
  simp only [k3, kk, List.drop_succ_cons, List.drop_zero, List.take_succ_cons, List.take_zero] at g0 g1 g2 g3
  match xs, hxl with
  | [x0, x1, x2, x3], _ =>
   obtain ⟨n0, e0, _, w0⟩ := DataW.trod_int Tryz.underlying34 (show _ = some x0 from g0)
   obtain ⟨n1, e1, _, w1⟩ := DataW.trod_int Tryz.underlying3 (show _ = some x1 from g1)
   obtain ⟨n2, e2, _, w2⟩ := DataW.trod_int Tryz.underlying3 (show _ = some x2 from g2)
   obtain ⟨n3, e3, _, w3⟩ := DataW.trod_int Tryz.underlying3 (show _ = some x3 from g3)
   simp at e0 e1 e2 e3
   subst e0 e1 e2 e3
   exact ⟨⟨n0, n1, n2, n3⟩, rfl⟩
theorem choose_defs {Q : Nat → MDef → Prop} : ∀ {m : Nat}, (∀ j, j < m → ∃ i, Q j i) → ∃ ds : List MDef, ds.length = m ∧ ∀ j d, ds[j]? = some d → Q j d
 | 0, _ => ⟨[], rfl, fun j d h => by simp at h⟩
 | m + 1, h => by
  obtain ⟨ds, h1, h2⟩ := choose_defs (m := m) (fun j hj => h j (by omega))
  obtain ⟨d, hd⟩ := h m (by omega)
  refine ⟨ds ++ [d], by simp [h1], fun j d' hj => ?_⟩
  by_cases hjm : j < ds.length
  ·rw [List.getElem?_append_left hjm] at hj
   exact h2 j d' hj
  ·have hlt := (List.getElem?_eq_some_iff.1 hj).1
   simp at hlt
   have : j = ds.length := by omega
   subst this
   simp at hj
   subst hj
   rw [h1]
   exact hd
set_option maxRecDepth 100000 in
theorem defs_in {sa : Option Addr} {n c : Nat} {d : DataW H} {p : List MemPlace} (h : DataW.Trod enc Tryz.prog W 0 (fun _ => true) true 22 (.slice sa n c) d p) : ∃ ds, DefsAt W sa n ds := by
 obtain ⟨fuel, hf⟩ := h
 rcases Deep.open_slice Tryz.underlying22 hf with ⟨hcs, _⟩ | ⟨x, l, c', m, k, D, Pl, hcs, _, hl, hm, hmm, _, hx⟩
 ·simp [Value.cells] at hcs
  obtain ⟨rfl, rfl, rfl⟩ := hcs
  exact ⟨[], rfl, by omega, by omega⟩
 ·simp [Value.cells] at hcs
  obtain ⟨rfl, rfl, rfl⟩ := hcs
  simp only [if_true] at hmm
  subst hmm
  unfold maxLen at hm
  rw [cellsDef] at hx
  have hx' : ∀ j, j < n → ∃ d : MDef, ∀ r v, d.cells[r]? = some v → W.cell? ((x.add (j * 4)).add r) = some v := by
   intro j hj
   obtain ⟨cs', h1, h2⟩ := hx j (by omega)
   obtain ⟨d, rfl⟩ := def_at h2
   obtain ⟨_, hlen, hcell⟩ := World.cells?_some h1
   refine ⟨d, fun r v hv => ?_⟩
   have hr : r < 4 := by have := (List.getElem?_eq_some_iff.1 hv).1; simpa [MDef.cells] using this
   rw [hcell r hr]
   exact hv
  obtain ⟨ds, hl2, hf⟩ := choose_defs hx'
  refine ⟨ds, hl2.symm, by omega, fun hn => ?_⟩
  obtain ⟨b, off, spot⟩ := x
  have hc := hf 0 ds[0] (List.getElem?_eq_getElem (by omega)) 0 _ rfl
  have hspot : spot = none := by simpa [Addr.add] using World.cell?_spot hc
  subst hspot
  refine ⟨b, off, rfl, fun i d hd j v hv => ?_⟩
  have := hf i d hd j v hv
  rw [Addr.add_lit, Addr.add_lit] at this
  exact this
end
end Go.Proofs.YtmhhahmjkopjhaaGreat
end
