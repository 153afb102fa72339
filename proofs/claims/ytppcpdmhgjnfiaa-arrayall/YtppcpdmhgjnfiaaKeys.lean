/-
  Lists of keys in memory; the array's Keys.
-/
import Derived.Test.YtppcpdmhgjnfiaaFns
import Derived.Laws.BytesArg
namespace Go.Proofs.Ytppcpdmhgjnfiaa
open Go.RowKit

theorem info3 : (Try.prog.info? 3).map (fun i => (i.zero, i.size, i.bytes)) = some (some (.int .i64 0), 1, 8) := by kernel_rfl
theorem info5 : (Try.prog.info? 5).map (fun i => (i.zero, i.size, i.bytes)) = some (some (.int .u8 0), 1, 1) := by kernel_rfl
theorem info32 : (Try.prog.info? 32).map (fun i => (i.zero, i.size, i.bytes)) = some (some (.slice none 0 0), 1, 24) := by kernel_rfl

/-- Byte j of a number. -/
def byteOf (v : Int) (j : Nat) : Int := v / 256 ^ j % 256
theorem byteOf_bd (v : Int) (j : Nat) : 0 ≤ byteOf v j ∧ byteOf v j ≤ 255 := by unfold byteOf; omega
theorem byte_shift (v : Int) (k : Nat) : v / 2 ^ (8 * k) % 256 = byteOf v k := by
  unfold byteOf
  rw [Int.pow_mul]
  rfl
/-- The key of a number. -/
def le4 (v : Int) : List Int := (List.range 4).map (byteOf v)
theorem le4_eq (v : Int) : le4 v = [byteOf v 0, byteOf v 1, byteOf v 2, byteOf v 3] := rfl
theorem le4_len (v : Int) : (le4 v).length = 4 := rfl
theorem le4_bd (v : Int) : ∀ x ∈ le4 v, 0 ≤ x ∧ x ≤ 255 := fun x hx => by
  obtain ⟨j, _, rfl⟩ := List.mem_map.1 hx
  exact byteOf_bd v j
/-- The keys below m. -/
def allKeys (m : Nat) : List (List Int) := (List.range m).map fun i : Nat => le4 (i : Int)
def spreadTo (v : Int) (k : Nat) : List Value := (List.range 4).map (fun j => if j < k then .int .u8 (byteOf v j) else .int .u8 0)
theorem spread_set (v : Int) (k : Nat) (_hk : k < 4) : (spreadTo v k).set k (.int .u8 (byteOf v k)) = spreadTo v (k + 1) := by
  apply List.ext_getElem
  · simp [spreadTo]
  · intro j h1 h2
    rw [List.getElem_set]
    simp only [spreadTo, List.getElem_map, List.getElem_range]
    by_cases e : k = j
    · subst e
      simp
    · rw [if_neg e]
      by_cases h : j < k
      · rw [if_pos h, if_pos (by omega)]
      · rw [if_neg h, if_neg (by omega)]
theorem spread_all (v : Int) : spreadTo v 4 = (le4 v).map (Value.int .u8) := rfl

set_option maxHeartbeats 1000000 in
set_option maxRecDepth 100000 in
theorem spread_any (v : Int) (w : World) (_hv0 : 0 ≤ v) :
    Calls Try.prog 22 #[.int .u32 v] w fun e w' => e = .returned (.slice (some ⟨w.heap.size, 0, none⟩) 4 4) ∧ Blk w' w.heap.size ((le4 v).map (Value.int .u8)) 5 ∧ Touch [] w w' := by
  have hmk : ∀ w : World, (Instr.makeSlice 32 (.int .i64 4) (.int .i64 4)).run Try.prog w = .ok (.slice (some ⟨w.heap.size, 0, none⟩) 4 4) (w.alloc (.cells #[.int .u8 0, .int .u8 0, .int .u8 0, .int .u8 0] 5)) := fun w => by
    simpa using run_make_blk (P := Try.prog) Try.underlying32 info5 rfl 4 (by omega) (by omega) .i64 w
  have HZ := toHid (show Blk (w.alloc (.cells #[Value.int .u8 0, Value.int .u8 0, Value.int .u8 0, Value.int .u8 0] 5)) w.heap.size (spreadTo v 0) 5 from Blk.newA w _ _ 5 rfl)
  have HT := toHid ((Touch.refl [] w).alloc (.cells #[Value.int .u8 0, Value.int .u8 0, Value.int .u8 0, Value.int .u8 0] 5))
  go_enter Try.func22, Try.ntmps22
  go_wp2_with fail
  clear hmk
  generalize hN : w.heap.size = N at *
  go_loopw [8] (fun t w' => ∃ k : Nat, k ≤ 4 ∧ t = .int .i64 k ∧ Hid (Blk w' N (spreadTo v k) 5 ∧ Touch [] w w')) (fun t _ => 4 - (intOf t).toNat)
  case atStart => exact ⟨0, by omega, rfl, HZ.out, HT.out⟩
  case round =>
    clear HZ HT
    obtain ⟨k, hk, rfl, HI⟩ := hrel
    by_cases hlt : k < 4
    · have c1 := HI.out.1.cellN (i := k) (by simpa [spreadTo] using hlt)
      have f1 := HI.out.1.frozen k
      have HB := toHid (byte_shift v k)
      go_wp2
      rw [HB.out]
      refine ⟨⟨k + 1, by omega, by go_num, ?_, ?_⟩, by simp [intOf]; omega⟩
      · rw [← spread_set v k hlt]
        exact HI.out.1.setCell k _
      · exact HI.out.2.setCell _ _ (Or.inr (by show w.heap.size ≤ N; omega))
    · obtain rfl : k = 4 := by omega
      go_wp2
      go_ret
      subst hN
      exact ⟨rfl, HI.out.1, HI.out.2⟩

/-- A key where it lies. -/
structure KS where
  b : Nat
  cap : Nat
  bs : List Int
def KS.v (k : KS) : Value := .slice (some ⟨k.b, 0, none⟩) k.bs.length k.cap
/-- Its bytes are there. -/
def KS.At (w : World) (k : KS) : Prop := (∃ rest, Blk w k.b (k.bs.map (Value.int .u8) ++ rest) 5) ∧ (∀ x ∈ k.bs, 0 ≤ x ∧ x ≤ 255) ∧ k.bs.length ≤ 16 ∧ 1 ≤ k.bs.length ∧ k.bs.length ≤ k.cap
theorem KS.At.touch {S : List Nat} {w w' : World} {k : KS} (h : k.At w) (ht : Touch S w w') (hb : k.b ∉ S) : k.At w' := by
  obtain ⟨⟨r, h1⟩, h2⟩ := h
  exact ⟨⟨r, ht.blk h1 hb⟩, h2⟩
theorem KS.At.cell {w : World} {k : KS} (h : k.At w) (j : Nat) (hj : j < k.bs.length) : w.cell? ⟨k.b, j, none⟩ = some (.int .u8 (k.bs.getD j 0)) := by
  obtain ⟨⟨r, h1⟩, _⟩ := h
  refine h1.cell ?_
  rw [List.getElem?_append_left (by simpa using hj), List.getElem?_map, List.getElem?_eq_getElem hj, List.getD_eq_getElem?_getD, List.getElem?_eq_getElem hj]
  rfl
theorem KS.At.key {w : World} {k : KS} (h : k.At w) : KeyAt w (some ⟨k.b, 0, none⟩) k.bs.length k.bs :=
  ⟨rfl, h.2.1, by have := h.2.2.1; omega, fun _ => ⟨k.b, 0, rfl, fun j hj => by rw [Nat.zero_add]; exact h.cell j hj⟩⟩
theorem KS.At.lt {w : World} {k : KS} (h : k.At w) : k.b < w.heap.size := by
  obtain ⟨⟨r, h1⟩, _⟩ := h
  exact h1.lt

/-- A list of keys, all of it newer than w0. -/
structure KLs (w0 w : World) (g : Option Nat) (cap : Nat) (l : List KS) : Prop where
  row : RowAt w 32 1 g l.length cap (l.map KS.v)
  own : ∀ b, g = some b → w0.heap.size ≤ b
  keys : ∀ k ∈ l, k.At w ∧ w0.heap.size ≤ k.b ∧ g ≠ some k.b
def KL (w0 w : World) (v : Value) (ks : List (List Int)) : Prop := ∃ g cap l, v = slV g l.length cap ∧ KLs w0 w g cap l ∧ l.map KS.bs = ks
theorem KLs.touch {S : List Nat} {w0 w w' : World} {g : Option Nat} {cap : Nat} {l : List KS} (h : KLs w0 w g cap l) (ht : Touch S w w') (hS : ∀ x ∈ S, x < w0.heap.size) : KLs w0 w' g cap l :=
  ⟨h.row.touch ht (fun b hb hx => by have := hS b hx; have := h.own b hb; omega), h.own, fun k hk => ⟨(h.keys k hk).1.touch ht (fun hx => by have := hS _ hx; have := (h.keys k hk).2.1; omega), (h.keys k hk).2⟩⟩
theorem KL.touch {S : List Nat} {w0 w w' : World} {v : Value} {ks : List (List Int)} (h : KL w0 w v ks) (ht : Touch S w w') (hS : ∀ x ∈ S, x < w0.heap.size) : KL w0 w' v ks := by
  obtain ⟨g, cap, l, h1, h2, h3⟩ := h
  exact ⟨g, cap, l, h1, h2.touch ht hS, h3⟩

/-- What the loop of Keys has laid. -/
structure Filled (w w' : World) (N m k : Nat) (l : List KS) : Prop where
  blk : Blk w' N (l.map KS.v ++ List.replicate (m - k) (.slice none 0 0)) 32
  len : l.length = k
  eq : l.map KS.bs = allKeys k
  keys : ∀ x ∈ l, x.At w' ∧ N < x.b
  touch : Touch [] w w'

theorem set_next (l : List KS) (n : Nat) (v : Value) : (l.map KS.v ++ List.replicate (n + 1) (Value.slice none 0 0)).set l.length v = l.map KS.v ++ v :: List.replicate n (.slice none 0 0) := by
  rw [List.set_append_right _ _ (by simp)]
  simp [List.replicate_succ]

set_option maxHeartbeats 1000000 in
set_option maxRecDepth 100000 in
theorem keys_any {w : World} {x m : Nat} (h : IdxAt w x m) : Calls Try.prog 11 #[.pointer (some ⟨x, 0, none⟩)] w fun e w' => (∃ v, e = .returned v ∧ KL w w' v (allKeys m)) ∧ Touch [] w w' := by
  have c0 : w.cell? ⟨x, 0, none⟩ = some (.int .u32 (m : Int)) := h.1.cell rfl
  have hm := h.2
  have hmk := run_make_blk (P := Try.prog) Try.underlying38 info32 rfl m (by omega) (by omega) .u32
  have c1 := ((Touch.refl [] w).alloc (.cells (Array.replicate m (Value.slice none 0 0)) 32)).cell c0 (by simp)
  have HZ : Hid (Filled w (w.alloc (.cells (Array.replicate m (Value.slice none 0 0)) 32)) w.heap.size m 0 []) := toHid ⟨Blk.newA w _ _ 32 (by simp), rfl, rfl, fun x hx => absurd hx (by simp), (Touch.refl [] w).alloc _⟩
  clear h
  go_enter Try.func11, Try.ntmps11
  go_wp2_with fail
  clear hmk c0 c1
  generalize hN : w.heap.size = N at *
  generalize w.alloc _ = w1 at *
  go_loopw [16] (fun t w' => ∃ k : Nat, k ≤ m ∧ t = .int .u32 k ∧ Hid (∃ l, Filled w w' N m k l)) (fun t _ => m - (intOf t).toNat)
  case atStart => exact ⟨0, by omega, rfl, _, HZ.out⟩
  case round =>
    clear HZ
    obtain ⟨k, hk, rfl, HI⟩ := hrel
    obtain ⟨l, hI⟩ := HI.out
    by_cases hlt : k < m
    · have H1 := toHid (spread_any (k : Int) wr (by omega))
      have HII := toHid hI
      clear hI HI
      go_wp2_with fail
      refine Calls.mono H1.out ?_
      rintro e w3 ⟨rfl, hB, ht⟩
      have hbl := ht.blk HII.out.blk (by simp)
      obtain ⟨q, hq⟩ : ∃ q, m - k = q + 1 := ⟨m - k - 1, by omega⟩
      rw [hq] at hbl
      have hlen := HII.out.len
      have hc := hbl.cell (i := k) (v := .slice none 0 0) (by rw [List.getElem?_append_right (by simp; omega)]; simp [hlen])
      have hfz := hbl.frozen k
      have hsz := HII.out.blk.lt
      have HN : Hid (Filled w (w3.setCell ⟨N, k, none⟩ (.slice (some ⟨wr.heap.size, 0, none⟩) 4 4)) N m (k + 1) (l ++ [⟨wr.heap.size, 4, le4 k⟩])) := by
        have hts : Touch [N] w3 (w3.setCell ⟨N, k, none⟩ (.slice (some ⟨wr.heap.size, 0, none⟩) 4 4)) := (Touch.refl _ _).setCell _ _ (Or.inl (by simp))
        refine ⟨?_, by simp [hlen], ?_, fun y hy => ?_, ?_⟩
        · have := hbl.setCell k (.slice (some ⟨wr.heap.size, 0, none⟩) 4 4)
          rw [← hlen, set_next] at this
          rw [show m - (k + 1) = q by omega, List.map_append, List.map_singleton, List.append_assoc]
          rw [← hlen] at *
          exact this
        · rw [List.map_append, HII.out.eq, allKeys, allKeys, List.range_succ, List.map_append]
          rfl
        · rcases List.mem_append.1 hy with hy | hy
          · have := HII.out.keys y hy
            exact ⟨(this.1.touch ht (by simp)).touch hts (by simp; omega), this.2⟩
          · simp only [List.mem_singleton] at hy
            subst hy
            refine ⟨⟨⟨[], ?_⟩, le4_bd _, by rw [le4_len]; omega, by rw [le4_len]; omega, Nat.le_refl 4⟩, hsz⟩
            rw [List.append_nil]
            exact hB.setCell_other _ _ (by show wr.heap.size ≠ N; omega)
        · exact (HII.out.touch.trans ht (by simp)).setCell _ _ (Or.inr (by show w.heap.size ≤ N; omega))
      clear hB ht hbl hq hlen hsz HII H1
      go_wp2
      go_roundw
      case rel => exact ⟨k + 1, by omega, by go_num, _, HN.out⟩
      case measure => simp [intOf]; omega
    · obtain rfl : k = m := by omega
      have HII := toHid hI
      clear hI HI
      go_wp2
      go_ret
      refine ⟨⟨_, rfl, some N, k, l, by rw [HII.out.len]; rfl, ⟨⟨by simp, by rw [HII.out.len]; omega, by unfold maxLen; omega, _, HII.out.blk, by simp [HII.out.len]⟩, fun b hb => by injection hb with hb; omega, fun y hy => ?_⟩, HII.out.eq⟩, HII.out.touch⟩
      have := HII.out.keys y hy
      exact ⟨this.1, by omega, fun e => by injection e with e; omega⟩
end Go.Proofs.Ytppcpdmhgjnfiaa
