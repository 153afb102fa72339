/-
  slices.Insert at the regions' rows, one element: proved along the library's own text.
-/
import Derived.Test.YtkfmhabplcikiaaRows
import Derived.Test.YtkfmhabplcikiaaKit
import Derived.Deep.RegionLaw
namespace Go.Proofs.Ytkfmhabplcikiaa.Mem
open Go.RowKit

theorem info79 : (Try.prog.info? 70).map (fun i => (i.zero, i.size, i.bytes)) = some (some (.pointer none), 1, 8) := by kernel_rfl

set_option maxHeartbeats 1000000 in
set_option maxRecDepth 100000 in
theorem insert_end (g : Option Nat) (n cap k : Nat) (cs : List Value) (x : Value) (w : World) (h : RowAt w 70 1 g n cap cs) (hn : n ≤ 4096) (hx : x.oneCell' = true) (tk : TypeId)
    (hk : Blk w k [x] tk) :
    Calls Try.prog 29 #[slV g n cap, .int .i64 n, .slice (some ⟨k, 0, none⟩) 1 1] w fun e w' => ∃ g' cap', e = .returned (slV g' (n + 1) cap') ∧ RowAt w' 70 1 g' (n + 1) cap' (cs ++ [x]) ∧ Touch g.toList w w' ∧
      (g' = g ∨ g' = some w.heap.size) ∧ (g' = some w.heap.size → w.heap.size < w'.heap.size) := by
  obtain ⟨i, hi, hz, hs, hb⟩ := info_of info79
  obtain ⟨g', cap', w', hr, h2, h3, h4, h5⟩ := run_append_row (P := Try.prog) w 64 64 70 i (.pointer none) 1 Try.underlying64 hi hz hs rfl (by omega) g n cap cs h ⟨k, 0, none⟩ 1 1 [x] rfl
    (fun j v hj => by
      have : j = 0 := by have := (List.getElem?_eq_some_iff.1 hj).1; simp at this; exact this
      subst this
      exact hk.cell hj) (fun u hu => by simp at hu; subst hu; exact hx) (by rw [hb]; omega) (by omega)
  have hnc := h.2.1
  have HR : Hid ((Builtin.append_ #[64, 64] 64 #[slV g n cap, .slice (some ⟨k, 0, none⟩) 1 1]).run Try.prog w = .ok (slV g' (n + 1) cap') w') := hr
  clear hr
  cases g with
  | none =>
    simp only [slV_none] at HR ⊢
    obtain rfl : cap = 0 := h.2.2.2
    obtain rfl : n = 0 := by omega
    go_enter Try.func29, Try.ntmps29
    go_wp2_with (at_builtin; refine Lib.wpList_append_run _ rfl _ _ _ _ rfl _ _ rfl rfl _ _ HR.out ?_)
    go_ret
    exact ⟨g', cap', rfl, h2, h3, h4, h5⟩
  | some b =>
    simp only [slV_some] at HR ⊢
    go_enter Try.func29, Try.ntmps29
    go_wp2_with (at_builtin; refine Lib.wpList_append_run _ rfl _ _ _ _ rfl _ _ rfl rfl _ _ HR.out ?_)
    all_goals
      go_ret
      exact ⟨g', cap', rfl, h2, h3, h4, h5⟩

theorem hov (k b la off lb cb : Nat) (w : World) (ds cs : List Value) (tk : TypeId) (hne : k ≠ b) (hk : Blk w k ds tk) (hb : Blk w b cs 70) (hb0 : cs.length ≠ 0) :
    (callFunc 43 #[.slice (some ⟨k, 0, none⟩) la la, .slice (some ⟨b, off, none⟩) lb cb]).run Try.prog w = .ok (.value (.bool false)) w := by
  rw [run_callFunc_extern Try.func43 (by kernel_rfl) (by kernel_rfl) (by kernel_rfl) (e := Extern.SlicesOverlaps.overlaps #[64, 64] #[4]) (by kernel_rfl),
      Lib.run_overlaps_apart w 64 4 70 Try.underlying64 1 (sizeOf_of_info info79) ⟨k, 0, none⟩ ⟨b, off, none⟩ la la lb cb hne tk 70 ds.length cs.length hk.shape hb.shape hb0 (hk.frozen _) (hk.frozen _)]
  rfl

set_option maxHeartbeats 1000000 in
set_option maxRecDepth 100000 in
theorem insert_shift (b n cap i k : Nat) (cs rest : List Value) (x : Value) (w : World) (hcl : cs.length = n) (hn : n ≤ 4096) (hin : i < n) (hroom : n + 1 ≤ cap) (hcap : cap ≤ n + rest.length) (hcm : cap ≤ maxLen)
    (hb : Blk w b (cs ++ rest) 70) (hx : x.oneCell' = true) (h1 : ∀ u ∈ cs, u.oneCell' = true) (tk : TypeId) (hk : Blk w k [x] tk) (hkb : k ≠ b) :
    Calls Try.prog 29 #[.slice (some ⟨b, 0, none⟩) n cap, .int .i64 i, .slice (some ⟨k, 0, none⟩) 1 1] w fun e w' => e = .returned (.slice (some ⟨b, 0, none⟩) (n + 1) cap) ∧ Blk w' b (cs.take i ++ x :: cs.drop i ++ rest.drop 1) 70 ∧ Touch [b] w w' := by
  unfold maxLen at hcm
  have hsz := size_of_info info79
  have hov1 : ∀ off lb cb, (callFunc 43 #[.slice (some ⟨k, 0, none⟩) 1 1, .slice (some ⟨b, off, none⟩) lb cb]).run Try.prog w = .ok (.value (.bool false)) w := fun off lb cb => hov k b 1 off lb cb w _ _ tk hkb hk hb (by rw [List.length_append]; omega)
  have hdl : (cs.drop i).length = n - i := by rw [List.length_drop, hcl]
  have hal : (cs ++ rest).length = n + rest.length := by rw [List.length_append, hcl]
  have hcp1 : ∀ ty dc sc, (Builtin.copy_ #[64, 64] ty #[.slice (some ⟨b, i + 1, none⟩) (n - i) dc, .slice (some ⟨b, i, none⟩) (n + 1 - i) sc]).run Try.prog w.drew = .ok (goInt (cs.drop i).length) (w.drew.setRow b ((cs ++ rest).take (i + 1) ++ cs.drop i ++ (cs ++ rest).drop (i + 1 + (cs.drop i).length)).toArray) := fun ty dc sc =>
    run_copy_blk w.drew 64 64 ty 70 Try.underlying64 hsz b (i + 1) _ _ ⟨b, i, none⟩ _ _ _ 70 (cs.drop i) hb.drew (by rw [hdl]; simp only [Nat.min_def]; split <;> omega) (fun j v hj => by
      rw [Addr.add_lit]
      rw [List.getElem?_drop] at hj
      exact hb.drew.cell (by rw [List.getElem?_append_left (List.getElem?_eq_some_iff.1 hj).1]; exact hj)) (by rw [hal, hdl]; omega) (fun v hv => h1 v (List.mem_of_mem_drop hv))
  have hX : (cs ++ rest).take (i + 1) ++ cs.drop i ++ (cs ++ rest).drop (i + 1 + (cs.drop i).length) = cs.take (i + 1) ++ cs.drop i ++ rest.drop 1 := by
    rw [List.take_append_of_le_length (by omega), hdl, show i + 1 + (n - i) = cs.length + 1 by omega, List.drop_append]
    simp
  rw [hX] at hcp1
  have hb1 : Blk (w.drew.setRow b (cs.take (i + 1) ++ cs.drop i ++ rest.drop 1).toArray) b _ 70 := hb.drew.setRow _
  have hk1 : Blk (w.drew.setRow b (cs.take (i + 1) ++ cs.drop i ++ rest.drop 1).toArray) k [x] tk := hk.drew.setRow_other _ _ hkb
  have ht1 : Touch [b] w (w.drew.setRow b (cs.take (i + 1) ++ cs.drop i ++ rest.drop 1).toArray) := (Touch.refl _ w).drew.setRow _ _ (Or.inl (by simp))
  generalize w.drew.setRow b (cs.take (i + 1) ++ cs.drop i ++ rest.drop 1).toArray = W1 at hcp1 hb1 hk1 ht1
  have hcp2 : ∀ ty dc, (Builtin.copy_ #[64, 64] ty #[.slice (some ⟨b, i, none⟩) (n + 1 - i) dc, .slice (some ⟨k, 0, none⟩) 1 1]).run Try.prog W1 = .ok (goInt [x].length) (W1.setRow b ((cs.take (i + 1) ++ cs.drop i ++ rest.drop 1).take i ++ [x] ++ (cs.take (i + 1) ++ cs.drop i ++ rest.drop 1).drop (i + [x].length)).toArray) := fun ty dc =>
    run_copy_blk W1 64 64 ty 70 Try.underlying64 hsz b i _ _ ⟨k, 0, none⟩ _ _ _ 70 [x] hb1 (by simp only [Nat.min_def, List.length_singleton]; split <;> omega) (fun j v hj => by
      have : j = 0 := by have := (List.getElem?_eq_some_iff.1 hj).1; simp at this; exact this
      subst this
      exact hk1.cell hj) (by simp [hcl]; omega) (fun v hv => by simp at hv; subst hv; exact hx)
  have hY : (cs.take (i + 1) ++ cs.drop i ++ rest.drop 1).take i ++ [x] ++ (cs.take (i + 1) ++ cs.drop i ++ rest.drop 1).drop (i + [x].length) = cs.take i ++ x :: cs.drop i ++ rest.drop 1 := by
    have e1 : (cs.take (i + 1)).length = i + 1 := by simp; omega
    rw [List.append_assoc (cs.take (i + 1)), List.take_append_of_le_length (l₁ := cs.take (i + 1)) (by omega), List.take_take, List.length_singleton, Nat.min_eq_left (by omega)]
    conv => lhs; arg 2; arg 1; rw [← e1]
    rw [List.drop_left]
    simp
  rw [hY] at hcp2
  have hb2 := hb1.setRow (cs.take i ++ x :: cs.drop i ++ rest.drop 1)
  have ht2 := ht1.setRow b (cs.take i ++ x :: cs.drop i ++ rest.drop 1).toArray (Or.inl (by simp))
  generalize W1.setRow b (cs.take i ++ x :: cs.drop i ++ rest.drop 1).toArray = W2 at hcp2 hb2 ht2
  have HB : Hid (Blk W2 b (cs.take i ++ x :: cs.drop i ++ rest.drop 1) 70 ∧ Touch [b] w W2) := ⟨hb2, ht2⟩
  have HP1 : Hid (∀ ty dc sc, (Builtin.copy_ #[64, 64] ty #[.slice (some ⟨b, i + 1, none⟩) (n - i) dc, .slice (some ⟨b, i, none⟩) (n + 1 - i) sc]).run Try.prog w.drew = .ok (goInt (cs.drop i).length) W1) := hcp1
  have HP2 : Hid (∀ ty dc, (Builtin.copy_ #[64, 64] ty #[.slice (some ⟨b, i, none⟩) (n + 1 - i) dc, .slice (some ⟨k, 0, none⟩) 1 1]).run Try.prog W1 = .ok (goInt [x].length) W2) := hcp2
  clear hcp1 hcp2 hX hY hb1 hk1 ht1 hb2 ht2 hdl hal
  have hw1 : IntKind.i64.wrap ((i : Int) + 1) = (i : Int) + 1 := by rw [IntKind.wrap_i64]; omega
  have q1 : (0 : Int) ≤ (i : Int) + 1 := by omega
  have q2 : (i : Int) + 1 ≤ (n : Int) + 1 := by omega
  have q3 : ((i : Int) + 1).toNat = i + 1 := by omega
  have q4 : ¬ (cap = i + 1) := by omega
  have q5 : ¬ (cap = i) := by omega
  have q6 : (i : Int) ≤ (n : Int) + 1 := by omega
  go_enter Try.func29, Try.ntmps29
  go_wp2_with (simp only [hov1])
  go_region_law (refine step_copy_known rfl _ _ 64 64 rfl (.slice (some ⟨b, i + 1, none⟩) (n - i) (cap - (i + 1))) (.slice (some ⟨b, i, none⟩) (n + 1 - i) (cap - i)) (by simp [Act.eval, Act.put]) (by simp [Act.eval, Act.put]) (HP1.out 3 (cap - (i + 1)) (cap - i)) ?_)
  go_wp2_with fail
  rw [HP2.out]
  go_wp2
  go_ret
  exact ⟨rfl, HB.out⟩

set_option maxHeartbeats 1000000 in
set_option maxRecDepth 100000 in
theorem insert_grow (b n cap i k : Nat) (cs rest : List Value) (x : Value) (w : World) (hcl : cs.length = n) (hn : n ≤ 4096) (hin : i < n) (hnc : n ≤ cap) (hroom : cap < n + 1) (_hcap : cap ≤ n + rest.length)
    (hb : Blk w b (cs ++ rest) 70) (hx : x.oneCell' = true) (h1 : ∀ u ∈ cs, u.oneCell' = true) (tk : TypeId) (hk : Blk w k [x] tk) (_hkb : k ≠ b) :
    Calls Try.prog 29 #[.slice (some ⟨b, 0, none⟩) n cap, .int .i64 i, .slice (some ⟨k, 0, none⟩) 1 1] w fun e w' => ∃ G rest', e = .returned (.slice (some ⟨w.heap.size, 0, none⟩) (n + 1) G) ∧ n + 1 ≤ G ∧ G ≤ maxLen ∧ G = n + 1 + rest'.length ∧
      Blk w' w.heap.size (cs.take i ++ x :: cs.drop i ++ rest') 70 ∧ Touch [] w w' := by
  have hsz := size_of_info info79
  obtain ⟨i0, hi0, hz0, hzs, hzb⟩ := info_of info79
  have hold : (Builtin.firstCells i0.size i (.slice (some ⟨b, 0, none⟩) i cap)).run Try.prog w.drew = .ok (cs.take i).toArray w.drew := by
    rw [hzs]
    exact run_firstCells_some w.drew 1 i ⟨b, 0, none⟩ i cap (cs.take i) (by rw [List.length_take]; omega) (fun j v hj => by
      rw [Addr.add_lit, Nat.zero_add]
      have hj2 := (List.getElem?_eq_some_iff.1 hj).1
      rw [List.length_take] at hj2
      rw [List.getElem?_take, if_pos (by omega)] at hj
      exact hb.drew.cell (by rw [List.getElem?_append_left (by omega)]; exact hj))
  have hkk : (n : Int) + 1 - (i : Int) = ((n + 1 - i : Nat) : Int) := by omega
  have hik : i + (n + 1 - i) = n + 1 := by omega
  have hrz : ∀ ty, (Builtin.append_ #[64, 3] ty #[.slice (some ⟨b, 0, none⟩) i cap, .int .i64 ((n : Int) + 1 - (i : Int))]).run Try.prog w =
      .ok (.slice (some ⟨w.heap.size, 0, none⟩) (n + 1) (grownCap w (n + 1) cap 70)) (w.drew.alloc (.cells ((cs.take i).toArray ++ Builtin.zeroCells (Value.pointer none).cells (n + 1 - i) ++ Builtin.zeroCells (Value.pointer none).cells (grownCap w (n + 1) cap 70 - (n + 1))) 70)) := fun ty => by
    have h := Lib.run_append_grow_zeros w 64 3 ty 70 i0 _ .i64 .i64 Try.underlying64 Try.underlying3 hi0 hz0 (some ⟨b, 0, none⟩) i cap (cs.take i) hold (n + 1 - i) (by omega) (by omega) (by omega) (by omega) (by rw [hzb]; omega) (by rw [hzb, hik]; exact growslice_fits hroom (by omega))
    rw [hik] at h
    rw [hkk]
    exact h
  have hGn := grownCap_ge w (n + 1) cap 70
  have hGm := grownCap_le_maxLen w (n + 1) cap 70 (by unfold maxLen; omega)
  generalize grownCap w (n + 1) cap 70 = G at hrz hGn hGm
  have hz : ∀ m, (Builtin.zeroCells (Value.pointer none).cells m).toList = List.replicate m (.pointer none) := fun m => by
    apply List.ext_getElem
    · simp [Builtin.zeroCells, Value.cells]
    · intro j h1 h2
      simp [Builtin.zeroCells, Value.cells, Nat.mod_one]
  have hbN := Blk.newA w.drew ((cs.take i).toArray ++ Builtin.zeroCells (Value.pointer none).cells (n + 1 - i) ++ Builtin.zeroCells (Value.pointer none).cells (G - (n + 1))) _ 70 rfl
  simp only [Array.toList_append, hz] at hbN
  have hb1 := hb.drew.alloc (.cells ((cs.take i).toArray ++ Builtin.zeroCells (Value.pointer none).cells (n + 1 - i) ++ Builtin.zeroCells (Value.pointer none).cells (G - (n + 1))) 70)
  have hk1 := hk.drew.alloc (.cells ((cs.take i).toArray ++ Builtin.zeroCells (Value.pointer none).cells (n + 1 - i) ++ Builtin.zeroCells (Value.pointer none).cells (G - (n + 1))) 70)
  have ht1 : Touch [] w _ := (Touch.refl _ w).drew.alloc (.cells ((cs.take i).toArray ++ Builtin.zeroCells (Value.pointer none).cells (n + 1 - i) ++ Builtin.zeroCells (Value.pointer none).cells (G - (n + 1))) 70)
  generalize w.drew.alloc (.cells ((cs.take i).toArray ++ Builtin.zeroCells (Value.pointer none).cells (n + 1 - i) ++ Builtin.zeroCells (Value.pointer none).cells (G - (n + 1))) 70) = W1 at hrz hbN hb1 hk1 ht1
  rw [show w.drew.heap.size = w.heap.size from rfl] at hbN
  have hbw := hb.lt
  have hkw := hk.lt
  generalize hN : w.heap.size = N at *
  -- copy(s2[i:], v)
  have hcpA : ∀ ty dc, (Builtin.copy_ #[64, 64] ty #[.slice (some ⟨N, i, none⟩) (n + 1 - i) dc, .slice (some ⟨k, 0, none⟩) 1 1]).run Try.prog W1 = _ := fun ty dc =>
    run_copy_blk W1 64 64 ty 70 Try.underlying64 hsz N i _ _ ⟨k, 0, none⟩ _ _ _ 70 [x] hbN (by simp only [Nat.min_def, List.length_singleton]; split <;> omega) (fun j v hj => by
      have : j = 0 := by have := (List.getElem?_eq_some_iff.1 hj).1; simp at this; exact this
      subst this
      exact hk1.cell hj) (by simp; omega) (fun v hv => by simp at hv; subst hv; exact hx)
  have e1 : (cs.take i).length = i := by simp; omega
  have hA : (cs.take i ++ List.replicate (n + 1 - i) (Value.pointer none) ++ List.replicate (G - (n + 1)) (Value.pointer none)).take i ++ [x] ++ (cs.take i ++ List.replicate (n + 1 - i) (Value.pointer none) ++ List.replicate (G - (n + 1)) (Value.pointer none)).drop (i + [x].length) =
      cs.take i ++ [x] ++ List.replicate (G - (i + 1)) (Value.pointer none) := by
    rw [List.append_assoc (cs.take i), List.replicate_append_replicate, List.take_append_of_le_length (l₁ := cs.take i) (by omega), List.take_take, Nat.min_self, List.drop_append, List.drop_eq_nil_of_le (by simp; omega), List.drop_replicate, e1]
    simp
    omega
  rw [hA] at hcpA
  have hbA := hbN.setRow (cs.take i ++ [x] ++ List.replicate (G - (i + 1)) (Value.pointer none))
  have hb2 := hb1.setRow_other N (cs.take i ++ [x] ++ List.replicate (G - (i + 1)) (Value.pointer none)).toArray (by omega)
  have ht2 := ht1.setRow N (cs.take i ++ [x] ++ List.replicate (G - (i + 1)) (Value.pointer none)).toArray (Or.inr (by omega))
  generalize W1.setRow N (cs.take i ++ [x] ++ List.replicate (G - (i + 1)) (Value.pointer none)).toArray = W2 at hcpA hbA hb2 ht2
  have hdl : (cs.drop i).length = n - i := by rw [List.length_drop, hcl]
  have hcpB : ∀ ty dc sc, (Builtin.copy_ #[64, 64] ty #[.slice (some ⟨N, i + 1, none⟩) (n - i) dc, .slice (some ⟨b, i, none⟩) (n - i) sc]).run Try.prog W2.drew = _ := fun ty dc sc =>
    run_copy_blk W2.drew 64 64 ty 70 Try.underlying64 hsz N (i + 1) _ _ ⟨b, i, none⟩ _ _ _ 70 (cs.drop i) hbA.drew (by rw [hdl]; simp only [Nat.min_def]; split <;> omega) (fun j v hj => by
      rw [Addr.add_lit]
      rw [List.getElem?_drop] at hj
      exact hb2.drew.cell (by rw [List.getElem?_append_left (List.getElem?_eq_some_iff.1 hj).1]; exact hj)) (by simp; omega) (fun v hv => h1 v (List.mem_of_mem_drop hv))
  have e2 : (cs.take i ++ [x]).length = i + 1 := by simp; omega
  have hB : (cs.take i ++ [x] ++ List.replicate (G - (i + 1)) (Value.pointer none)).take (i + 1) ++ cs.drop i ++ (cs.take i ++ [x] ++ List.replicate (G - (i + 1)) (Value.pointer none)).drop (i + 1 + (cs.drop i).length) =
      cs.take i ++ x :: cs.drop i ++ List.replicate (G - (n + 1)) (Value.pointer none) := by
    rw [List.take_append_of_le_length (by omega), List.take_of_length_le (l := cs.take i ++ [x]) (by omega), List.drop_append, List.drop_eq_nil_of_le (show (cs.take i ++ [x]).length ≤ i + 1 + (cs.drop i).length by omega), List.drop_replicate, e2, hdl, Nat.add_sub_cancel_left, show G - (i + 1) - (n - i) = G - (n + 1) by omega]
    simp
  rw [hB] at hcpB
  have hbB := hbA.drew.setRow (cs.take i ++ x :: cs.drop i ++ List.replicate (G - (n + 1)) (Value.pointer none))
  have ht3 := ht2.drew.setRow N (cs.take i ++ x :: cs.drop i ++ List.replicate (G - (n + 1)) (Value.pointer none)).toArray (Or.inr (by omega))
  generalize W2.drew.setRow N (cs.take i ++ x :: cs.drop i ++ List.replicate (G - (n + 1)) (Value.pointer none)).toArray = W3 at hcpB hbB ht3
  have HB : Hid (Blk W3 N (cs.take i ++ x :: cs.drop i ++ List.replicate (G - (n + 1)) (Value.pointer none)) 70 ∧ Touch [] w W3) := ⟨hbB, ht3⟩
  have HZ := id (show Hid _ from hrz)
  have HA := id (show Hid _ from hcpA)
  have HP := id (show Hid _ from hcpB)
  clear hrz hcpA hcpB hbB ht3 hA hB e1 e2 hdl hbA hb2 ht2 hb1 hk1 ht1 hbN hz hkk hik hold
  unfold maxLen at hGm
  have hw1 : IntKind.i64.wrap ((i : Int) + 1) = (i : Int) + 1 := by rw [IntKind.wrap_i64]; omega
  have q1 : (0 : Int) ≤ (i : Int) + 1 := by omega
  have q2 : (i : Int) + 1 ≤ (n : Int) + 1 := by omega
  have q3 : ((i : Int) + 1).toNat = i + 1 := by omega
  have q5 : ¬ (cap = i) := by omega
  have q6 : (i : Int) ≤ (n : Int) := by omega
  have q7 : ¬ (G = i + 1) := by omega
  have q8 : ¬ (G = i) := by omega
  have q9 : ¬ ((i : Int) = n) := by omega
  go_enter Try.func29, Try.ntmps29
  go_wp2_with (at_builtin; refine Lib.wpList_append_run _ rfl _ _ _ _ rfl _ _ rfl rfl _ _ (HZ.out _) ?_)
  rw [HA.out]
  go_wp2_with fail
  go_region_law (refine step_copy_known rfl _ _ 64 64 rfl (.slice (some ⟨N, i + 1, none⟩) (n - i) (G - (i + 1))) (.slice (some ⟨b, i, none⟩) (n - i) (cap - i)) (by simp [Act.eval, Act.put]) (by simp [Act.eval, Act.put]) (HP.out 3 (G - (i + 1)) (cap - i)) ?_)
  go_wp2
  go_ret
  exact ⟨G, _, rfl, by omega, by unfold maxLen; omega, by simp; omega, HB.out⟩

/-- slices.Insert of one element. -/
theorem insert_any (g : Option Nat) (n cap i k : Nat) (cs : List Value) (x : Value) (w : World) (h : RowAt w 70 1 g n cap cs) (hn : n ≤ 4096) (hi : i ≤ n) (hx : x.oneCell' = true) (h1 : ∀ u ∈ cs, u.oneCell' = true) (tk : TypeId)
    (hk : Blk w k [x] tk) (hkg : ∀ b, g = some b → k ≠ b) :
    Calls Try.prog 29 #[slV g n cap, .int .i64 i, .slice (some ⟨k, 0, none⟩) 1 1] w fun e w' => ∃ g' cap', e = .returned (slV g' (n + 1) cap') ∧ RowAt w' 70 1 g' (n + 1) cap' (cs.take i ++ x :: cs.drop i) ∧ Touch g.toList w w' ∧
      (g' = g ∨ g' = some w.heap.size) ∧ (g' = some w.heap.size → w.heap.size < w'.heap.size) := by
  have hcl : cs.length = n := by have := h.1; omega
  by_cases hin : i = n
  · subst hin
    rw [← hcl, List.take_length, List.drop_length, hcl]
    exact insert_end g i cap k cs x w h hn hx tk hk
  · cases g with
    | none =>
      have : cap = 0 := h.2.2.2
      have := h.2.1
      omega
    | some b =>
      obtain ⟨h2, h3, h4, rest, hb, hc⟩ := h
      rw [List.length_append, hcl] at hc
      by_cases hroom : n + 1 ≤ cap
      · refine (insert_shift b n cap i k cs rest x w hcl hn (by omega) hroom (by omega) h4 hb hx h1 tk hk (hkg b rfl)).mono ?_
        rintro e w' ⟨rfl, hb', ht⟩
        have hlt := hb.lt
        refine ⟨some b, cap, rfl, ⟨by simp; omega, hroom, h4, rest.drop 1, hb', by simp; omega⟩, ht, Or.inl rfl, fun e => by injection e with e; omega⟩
      · refine (insert_grow b n cap i k cs rest x w hcl hn (by omega) h3 (by omega) (by omega) hb hx h1 tk hk (hkg b rfl)).mono ?_
        rintro e w' ⟨G, rest', rfl, hG1, hG2, hG3, hb', ht⟩
        refine ⟨some w.heap.size, G, rfl, ⟨by simp; omega, hG1, hG2, rest', hb', by simp; omega⟩, ht.nil, Or.inr rfl, fun _ => hb'.lt⟩
end Go.Proofs.Ytkfmhabplcikiaa.Mem
