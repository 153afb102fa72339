/-
  Package lpm: the key in form that has a path.
-/
import Derived.Test.YtlkbaconlngmjaaTKey
namespace Go.Proofs.Ytlkbaconlngmjaa
open Go.RowKit

theorem take_getD (p : List Bool) (k x : Nat) : (p.take k).getD x false = (decide (x < k) && p.getD x false) := by
  rw [List.getD_eq_getElem?_getD, List.getD_eq_getElem?_getD, List.getElem?_take]
  by_cases h : x < k
  · rw [if_pos h]; simp [h]
  · rw [if_neg h]; simp [h]
theorem byteB_other (p : List Bool) {k i : Nat} (h : i ≠ k / 8) : byteB (p.take (k + 1)) i = byteB (p.take k) i := by
  unfold byteB
  refine accB_congr 8 fun j hj => ?_
  rw [take_getD, take_getD]
  by_cases h1 : 8 * i + j < k
  · rw [decide_eq_true h1, decide_eq_true (by omega)]
  · rw [decide_eq_false h1, decide_eq_false (by omega)]
theorem byteB_step (p : List Bool) (k : Nat) : byteB (p.take (k + 1)) (k / 8) = byteB (p.take k) (k / 8) + bI (p.getD k false) * 2 ^ (7 - k % 8) ∧ byteB (p.take k) (k / 8) % 2 ^ (8 - k % 8) = 0 := by
  have hm : k % 8 < 8 := Nat.mod_lt _ (by omega)
  have hz : ∀ j, k % 8 ≤ j → (p.take k).getD (8 * (k / 8) + j) false = false := fun j hj => by
    rw [take_getD, decide_eq_false (by omega)]
    rfl
  refine ⟨?_, ?_⟩
  · unfold byteB
    have h := accB_set (f := fun j => (p.take k).getD (8 * (k / 8) + j) false) (g := fun j => (p.take (k + 1)).getD (8 * (k / 8) + j) false) (m := k % 8) (n := 8) hm
      (fun j hj => by
        show (p.take k).getD _ false = (p.take (k + 1)).getD _ false
        rw [take_getD, take_getD, decide_eq_true (by omega), decide_eq_true (by omega)])
      (fun j hj h8 => ⟨hz j (by omega), by
        show (p.take (k + 1)).getD _ false = false
        rw [take_getD, decide_eq_false (by omega)]
        rfl⟩) (hz _ (Nat.le_refl _))
    rw [h]
    congr 2
    show bI ((p.take (k + 1)).getD (8 * (k / 8) + k % 8) false) = _
    rw [take_getD, show 8 * (k / 8) + k % 8 = k by omega, decide_eq_true (by omega), Bool.true_and]
  · exact accB_low hm (fun j hj _ => hz j hj)
theorem or_bit (a x : Int) (m : Nat) (hm : m < 8) (ha0 : 0 ≤ a) (ha1 : a ≤ 255) (hl : a % 2 ^ (8 - m) = 0) (hx : 0 ≤ x ∧ x ≤ 1) : bits .or .u8 a (x * 2 ^ (7 - m)) = a + x * 2 ^ (7 - m) := by
  obtain ⟨A, rfl⟩ := Int.eq_ofNat_of_zero_le ha0
  obtain ⟨X, rfl⟩ := Int.eq_ofNat_of_zero_le hx.1
  have hp : (2 : Nat) ^ (8 - m) = 2 * 2 ^ (7 - m) := by rw [show 8 - m = (7 - m) + 1 by omega, Nat.pow_succ, Nat.mul_comm]
  have hp7 : (2 : Nat) ^ (7 - m) ≤ 2 ^ 7 := Nat.pow_le_pow_right (by omega) (by omega)
  have hpp : 0 < (2 : Nat) ^ (7 - m) := Nat.pow_pos (by omega)
  have hc : (X : Int) * 2 ^ (7 - m) = ((X * 2 ^ (7 - m) : Nat) : Int) := by rw [Int.natCast_mul, Int.natCast_pow]; rfl
  have hX : X = 0 ∨ X = 1 := by omega
  have hXl : X * 2 ^ (7 - m) < 2 ^ (8 - m) := by rcases hX with rfl | rfl <;> omega
  have hX256 : X * 2 ^ (7 - m) < 256 := by rcases hX with rfl | rfl <;> omega
  have hA : A % 2 ^ (8 - m) = 0 := by
    have h1 : ((A % 2 ^ (8 - m) : Nat) : Int) = 0 := by rw [Int.natCast_emod, Int.natCast_pow]; exact hl
    omega
  obtain ⟨q, hq⟩ := Nat.dvd_of_mod_eq_zero hA
  rw [hc, u8_or_nat A _ (by omega) hX256, hq, ← Nat.two_pow_add_eq_or_of_lt hXl]
  omega
theorem bytesP_step (p : List Bool) (n k : Nat) (h : k / 8 < n) : bytesP (p.take (k + 1)) n = (bytesP (p.take k) n).set (k / 8) (byteB (p.take (k + 1)) (k / 8)) := by
  refine List.ext_getElem? fun i => ?_
  rw [List.getElem?_set, bytesP_len]
  unfold bytesP
  rw [List.getElem?_map, List.getElem?_map]
  by_cases hi : k / 8 = i
  · rw [if_pos hi, if_pos h, ← hi, List.getElem?_range h]
    rfl
  · rw [if_neg hi]
    by_cases hin : i < n
    · rw [List.getElem?_range hin]
      simp only [Option.map_some]
      rw [byteB_other p (by omega)]
    · rw [List.getElem?_eq_none (by simpa using hin)]
      rfl
theorem le4_get (v : Int) {k : Nat} (h : k < 4) : (le4 v)[k]? = some (byteOf v k) := by
  unfold le4
  rw [List.getElem?_map, List.getElem?_range h]
  rfl

/-- The first k bytes of the number are laid. -/
def LenTo (w : World) (p : List Bool) (n k : Nat) (wr : World) : Prop := Blk wr w.heap.size (((le4 (p.length : Int)).take k).map (Value.int .u8) ++ List.replicate (n + 4 - k) (.int .u8 0)) 5 ∧ Touch [] w wr
theorem LenTo.next {w wr : World} {p : List Bool} {n k : Nat} (h : LenTo w p n k wr) (hk : k < 4) : LenTo w p n (k + 1) (wr.setCell ⟨w.heap.size, k, none⟩ (.int .u8 (byteOf (p.length : Int) k))) := by
  refine ⟨?_, h.2.setCell _ _ (Or.inr (Nat.le_refl _))⟩
  have h1 := h.1.setCell k (.int .u8 (byteOf (p.length : Int) k))
  have hl : (((le4 (p.length : Int)).take k).map (Value.int .u8)).length = k := by rw [List.length_map, List.length_take, le4_len]; omega
  rw [List.set_append_right _ _ (by omega), hl, Nat.sub_self] at h1
  obtain ⟨q, hq⟩ : ∃ q, n + 4 - k = q + 1 := ⟨n + 4 - k - 1, by omega⟩
  rw [hq, List.replicate_succ, List.set_cons_zero] at h1
  rw [show n + 4 - (k + 1) = q by omega, List.take_add_one, List.map_append, le4_get _ hk, List.append_assoc]
  exact h1
theorem LenTo.cell {w wr : World} {p : List Bool} {n k : Nat} (h : LenTo w p n k wr) (hk : k < 4) : (∃ v, wr.cell? ⟨w.heap.size, k, none⟩ = some v) ∧ wr.frozen? ⟨w.heap.size, k, none⟩ = false :=
  ⟨⟨_, h.1.cellN (i := k) (by simp [le4_len]; omega)⟩, h.1.frozen k⟩
/-- The first k bits are laid. -/
def KeyTo (w : World) (p : List Bool) (n k : Nat) (wr : World) : Prop := Blk wr w.heap.size ((le4 (p.length : Int) ++ bytesP (p.take k) n).map (Value.int .u8)) 5 ∧ Touch [] w wr
theorem LenTo.done {w wr : World} {p : List Bool} {n : Nat} (h : LenTo w p n 4 wr) : KeyTo w p n 0 wr := by
  refine ⟨?_, h.2⟩
  have h1 := h.1
  rw [List.take_of_length_le (by rw [le4_len]; omega), Nat.add_sub_cancel] at h1
  have hz : bytesP (p.take 0) n = List.replicate n 0 := by
    unfold bytesP
    rw [List.take_zero]
    have : ∀ i, byteB [] i = 0 := fun i => by
      have := accB_tail (f := fun k => ([] : List Bool).getD (8 * i + k) false) 0 8 (fun j _ _ => by simp)
      unfold byteB
      rw [Nat.zero_add] at this
      rw [this]
      rfl
    rw [List.map_congr_left (fun i _ => this i), List.map_const', List.length_range]
  rw [hz, List.map_append, List.map_replicate]
  exact h1
theorem KeyTo.next {w wr : World} {p : List Bool} {n k : Nat} (h : KeyTo w p n k wr) (hk : k / 8 < n) : KeyTo w p n (k + 1) (wr.setCell ⟨w.heap.size, 4 + k / 8, none⟩ (.int .u8 (byteB (p.take (k + 1)) (k / 8)))) := by
  refine ⟨?_, h.2.setCell _ _ (Or.inr (Nat.le_refl _))⟩
  have h1 := h.1.setCell (4 + k / 8) (.int .u8 (byteB (p.take (k + 1)) (k / 8)))
  rw [bytesP_step p n k hk, ← List.map_set, List.set_append_right _ _ (by rw [le4_len]; omega), le4_len, show 4 + k / 8 - 4 = k / 8 by omega] at *
  exact h1
theorem KeyTo.cell {w wr : World} {p : List Bool} {n k : Nat} (h : KeyTo w p n k wr) (hk : k / 8 < n) : wr.cell? ⟨w.heap.size, 4 + k / 8, none⟩ = some (.int .u8 (byteB (p.take k) (k / 8))) := by
  refine h.1.cell ?_
  rw [List.getElem?_map, List.getElem?_append_right (by rw [le4_len]; omega), le4_len, show 4 + k / 8 - 4 = k / 8 by omega]
  unfold bytesP
  rw [List.getElem?_map, List.getElem?_range hk]
  rfl
def KeyOfPost (w : World) (p : List Bool) (n : Nat) (e : Ending) (w' : World) : Prop := e = .returned (.slice (some ⟨w.heap.size, 0, none⟩) (n + 4) (n + 4)) ∧ Blk w' w.heap.size ((keyP p n).map (Value.int .u8)) 5 ∧ Touch [] w w'
set_option maxHeartbeats 4000000 in
set_option maxRecDepth 100000 in
theorem keyOf_any {w : World} {sa : Option Addr} {p : List Bool} (h : PathAt w sa p) (n : Nat) (hn : n ≤ 12) (hp : p.length ≤ 8 * n) (cap : Nat) :
    Calls Try.prog 26 #[.slice sa p.length cap, .int .i64 (n : Int)] w (KeyOfPost w p n) := by
  have hmk : (Instr.makeSlice 32 (.int .i64 (4 + (n : Int))) (.int .i64 (4 + (n : Int)))).run Try.prog w = .ok (.slice (some ⟨w.heap.size, 0, none⟩) (n + 4) (n + 4)) (w.alloc (.cells (List.replicate (n + 4) (.int .u8 0)).toArray 5)) := by
    have := @run_make_blk Try.prog 32 5 (.int .u8 0) 1 Try.underlying32 info5 rfl (n + 4) (by omega) (by omega) .i64 w
    rw [show ((n + 4 : Nat) : Int) = 4 + (n : Int) by omega] at this
    exact this
  have HI0 : Hid (LenTo w p n 0 (w.alloc (.cells (List.replicate (n + 4) (.int .u8 0)).toArray 5))) := ⟨by simpa using Blk.newA w (List.replicate (n + 4) (Value.int .u8 0)).toArray _ 5 rfl, (Touch.refl [] w).alloc _⟩
  have HP := toHid h
  generalize hpl : p.length = q at *
  have HPL := toHid hpl
  clear h hpl
  go_enter Try.func26, Try.ntmps26
  go_wp2_with fail
  clear hmk
  go_loopw [12] (fun t wr => ∃ k : Nat, k ≤ 4 ∧ t = .int .i64 k ∧ Hid (LenTo w p n k wr)) (fun t _ => 4 - (intOf t).toNat)
  case atStart => exact ⟨0, by omega, rfl, HI0⟩
  case round =>
    clear HI0
    obtain ⟨k, hk, rfl, HI⟩ := hrel
    by_cases hlt : k < 4
    · obtain ⟨⟨v, d1⟩, d2⟩ := HI.out.cell hlt
      have HN := toHid (HI.out.next hlt)
      rw [HPL.out] at HN
      clear HI
      have HBY := toHid (byte_shift (q : Int) k)
      generalize byteOf (q : Int) k = r at *
      go_wp2
      refine ⟨⟨k + 1, by omega, by go_num, ?_⟩, by simp [intOf]; omega⟩
      rw [HBY.out]
      exact HN
    · obtain rfl : k = 4 := by omega
      have HI0 : Hid (KeyTo w p n 0 wr) := HI.out.done
      clear HI
      go_wp2_with fail
      go_loopw [27] (fun t w2 => ∃ k : Nat, k ≤ q ∧ t = .int .i64 k ∧ Hid (KeyTo w p n k w2)) (fun t _ => q - (intOf t).toNat)
      case atStart => exact ⟨0, by omega, rfl, HI0⟩
      case round =>
        clear HI0
        obtain ⟨k, hk, rfl, HI⟩ := hrel
        by_cases hlt : k < q
        · obtain ⟨pb, off, rfl, hc⟩ := HP.out.2 (by rw [HPL.out]; omega)
          have c1 := HI.out.2.cell (hc k (by rw [HPL.out]; exact hlt)) (by simp)
          have hk8 : k / 8 < n := by omega
          have d1 := HI.out.cell hk8
          have d2 := HI.out.1.frozen (4 + k / 8)
          have HN := toHid (HI.out.next hk8)
          have hst := byteB_step p k
          have hbd := byteB_bd (p.take k) (k / 8)
          have hor := or_bit _ (bI (p.getD k false)) (k % 8) (Nat.mod_lt _ (by omega)) hbd.1 hbd.2 hst.2 (bI_bd _)
          have HST := toHid (hst.1.trans hor.symm)
          have hbb := bI_bd (p.getD k false)
          generalize byteB (p.take (k + 1)) (k / 8) = z at *
          generalize byteB (p.take k) (k / 8) = y at *
          generalize bI (p.getD k false) = x at *
          have e1 : ((k : Int) / 8) = ((k / 8 : Nat) : Int) := by omega
          have e2 : ((k : Int) % 8) = ((k % 8 : Nat) : Int) := by omega
          have hm8 : k % 8 < 8 := Nat.mod_lt _ (by omega)
          have h48 : 4 + k / 8 < n + 4 := by omega
          generalize hd : k / 8 = d at *
          generalize hm : k % 8 = m at *
          clear hc HI hst hor
          go_wp2_with fail
          go_region
          go_wp2
          refine ⟨⟨k + 1, by omega, by go_num, ?_⟩, by simp [intOf]; omega⟩
          have hp7 : (2 : Int) ^ (7 - m) ≤ 2 ^ 7 := by
            have : (2 : Nat) ^ (7 - m) ≤ 2 ^ 7 := Nat.pow_le_pow_right (by omega) (by omega)
            have h2 : ((2 ^ (7 - m) : Nat) : Int) ≤ ((2 ^ 7 : Nat) : Int) := by omega
            rw [Int.natCast_pow] at h2
            exact h2
          have hpp : (0 : Int) < 2 ^ (7 - m) := Int.pow_pos (by omega)
          have hxx : 0 ≤ x * 2 ^ (7 - m) ∧ x * 2 ^ (7 - m) ≤ 255 := by
            have : x = 0 ∨ x = 1 := by omega
            rcases this with rfl | rfl <;> omega
          rw [wrap64_id hxx.1 hxx.2, Int.emod_eq_of_lt hxx.1 (by omega), ← HST.out]
          exact ⟨HN.out.1.drew, HN.out.2.drew⟩
        · obtain rfl : k = q := by omega
          have HF : Hid (KeyOfPost w p n (.returned (.slice (some ⟨w.heap.size, 0, none⟩) (n + 4) (n + 4))) wr) := by
            refine ⟨rfl, ?_, HI.out.2⟩
            have := HI.out.1
            rw [List.take_of_length_le (by have := HPL.out; omega)] at this
            exact this
          go_wp2
          go_ret
          exact HF.out
end Go.Proofs.Ytlkbaconlngmjaa
