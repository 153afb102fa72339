/-
  For every input MemBytes returns true, and each argument reads afterwards as it read before. No conditions. (The walk.)
-/
import Derived.Test.YtbidppeelophhaaOne
namespace Go.Proofs.Ytbidppeelophhaa
open Go.RowKit

theorem mod25 (s : Int) : ∃ i : Nat, wrap64 ((IntKind.u64.wrap s).tmod 25) = i ∧ i ≤ 24 := by
  rw [IntKind.wrap_u64, Int.tmod_eq_emod_of_nonneg (by omega)]
  unfold wrap64
  exact ⟨(s % 18446744073709551616 % 25).toNat, by omega, by omega⟩
theorem mod4 (s : Int) : ∃ i : Nat, wrap64 ((IntKind.u64.wrap s).tmod 4) = i ∧ i ≤ 3 := by
  rw [IntKind.wrap_u64, Int.tmod_eq_emod_of_nonneg (by omega)]
  unfold wrap64
  exact ⟨(s % 18446744073709551616 % 4).toNat, by omega, by omega⟩

theorem mod_step (v p : Int) (hp : 0 < p) : v % (p * 256) = v % p + p * (v / p % 256) := by
  have h1 := Int.emod_add_mul_ediv v p
  have h2 := Int.emod_add_mul_ediv (v / p) 256
  have h3 := Int.emod_nonneg v (show p ≠ 0 by omega)
  have h4 := Int.emod_lt_of_pos v hp
  have h5 : 0 ≤ v / p % 256 ∧ v / p % 256 ≤ 255 := by omega
  have h6 : 0 ≤ p * (v / p % 256) := Int.mul_nonneg (by omega) h5.1
  have h7 : p * (v / p % 256) ≤ p * 255 := Int.mul_le_mul_of_nonneg_left h5.2 (by omega)
  have e : v = (v % p + p * (v / p % 256)) + (p * 256) * (v / p / 256) := by
    calc v = v % p + p * (v / p) := h1.symm
      _ = v % p + p * (v / p % 256 + 256 * (v / p / 256)) := by rw [h2]
      _ = (v % p + p * (v / p % 256)) + (p * 256) * (v / p / 256) := by rw [Int.mul_add, Int.mul_assoc, Int.add_assoc]
  conv => lhs; rw [e]
  rw [Int.add_mul_emod_self_left]
  exact Int.emod_eq_of_lt (by omega) (by omega)

theorem num_byteOf (v : Int) : ∀ n, num (byteOf v) n = v % 256 ^ n
  | 0 => by simp [num, Int.emod_one]
  | n + 1 => by
    unfold num
    rw [num_byteOf v n]
    unfold byteOf
    have h : v % 256 ^ (n + 1) = v % 256 ^ n + 256 ^ n * (v / 256 ^ n % 256) := by
      rw [Int.pow_succ]
      exact mod_step v (256 ^ n) (Int.pow_pos (by omega))
    rw [h, Int.mul_comm]

/-- The bytes behind k stores. -/
def prep (k j : Nat) : Int := if j < k then 100 + (j : Int) else 0
/-- The bytes behind all stores. -/
def done (v : Int) (i n j : Nat) : Int := if i ≤ j ∧ j < i + n then byteOf v (j - i) else 100 + (j : Int)

theorem and_mask (v : Int) (n : Nat) (hn : n ≤ 7) (hv0 : 0 ≤ v) (hv1 : v ≤ 18446744073709551615) : bits .and .u64 v (IntKind.u64.wrap (IntKind.u64.wrap (2 ^ (8 * n)) - 1)) = v % 256 ^ n := by
  obtain ⟨a, rfl⟩ := Int.eq_ofNat_of_zero_le hv0
  have h1 : (2 : Nat) ^ (8 * n) ≤ 2 ^ 56 := Nat.pow_le_pow_right (by omega) (by omega)
  have h2 : 0 < (2 : Nat) ^ (8 * n) := Nat.pow_pos (by omega)
  have e1 : (2 : Int) ^ (8 * n) = ((2 ^ (8 * n) : Nat) : Int) := by rw [Int.natCast_pow]; rfl
  have e2 : (256 : Int) ^ n = ((2 ^ (8 * n) : Nat) : Int) := by rw [Nat.pow_mul, Int.natCast_pow]; rfl
  rw [e1, e2, IntKind.wrap_u64, IntKind.wrap_u64]
  generalize hp : (2 : Nat) ^ (8 * n) = p at *
  rw [show ((p : Int) % 18446744073709551616 - 1) % 18446744073709551616 = ((p - 1 : Nat) : Int) by omega, u64_and_nat a (p - 1) (by omega) (by omega), ← hp, Nat.and_two_pow_sub_one_eq_mod, hp]
  omega

theorem and_byte (v : Int) (k : Nat) (hv0 : 0 ≤ v) (hv1 : v ≤ 18446744073709551615) : bits .and .u64 (v / 2 ^ (8 * k)) 255 = byteOf v k := by
  have h0 : 0 ≤ v / 2 ^ (8 * k) := Int.ediv_nonneg hv0 (Int.pow_nonneg (by omega))
  have h1 : v / 2 ^ (8 * k) ≤ v := Int.ediv_le_self _ hv0
  have h2 : v / 2 ^ (8 * k) % 256 = byteOf v k := byte_shift v k
  rw [← h2]
  obtain ⟨a, ha⟩ := Int.eq_ofNat_of_zero_le h0
  rw [ha] at h1 ⊢
  have := u64_and_nat a 255 (by omega) (by omega)
  rw [show ((255 : Nat) : Int) = 255 from rfl] at this
  rw [this, show (255 : Nat) = 2 ^ 8 - 1 from rfl, Nat.and_two_pow_sub_one_eq_mod]
  omega

/-- What stands behind each step: one region, the bytes f. -/
def Held (w0 w : World) (m : Nat) (f : Nat → Int) : Prop := ∃ s, MemAt w s ∧ s.m = m ∧ (∃ g, OneF s.rs 4294967296 32 3 f g) ∧ Touch [] w0 w ∧ ∀ x ∈ s.blocks, w0.heap.size ≤ x

theorem held_store {w0 w : World} {m : Nat} {f : Nat → Int} (h : Held w0 w m f) (a n : Nat) (v : Int) (hn : wordB n = true) (ha : a + n ≤ 32) (hv0 : 0 ≤ v) :
    Calls Try.prog 19 #[.pointer (some ⟨m, 0, none⟩), .int .u64 (4294967296 + (a : Int)), .int .i64 n, .int .u64 v] w fun e w' => e = .returned (.int .i64 0) ∧ Held w0 w' m (fun j => if a ≤ j ∧ j < a + n then byteOf v (j - a) else f j) := by
  obtain ⟨s, hM, rfl, ⟨g, h1⟩, ht, hbl⟩ := h
  refine (store_any hM (4294967296 + (a : Int)) n v (by omega) (by omega) hv0).mono ?_
  rintro e w' ⟨rfl, ht', hM', hb'⟩
  obtain ⟨h2, h3⟩ := h1.store (by decide) a n v hn ha
  exact ⟨by rw [h2], _, hM', rfl, ⟨_, h3⟩, ht.trans ht' (fun x hx => Or.inr (hbl x hx)), by rw [hb']; exact hbl⟩
theorem held_load {w0 w : World} {m : Nat} {f : Nat → Int} (h : Held w0 w m f) (a n : Nat) (hn : wordB n = true) (ha : a + n ≤ 32) :
    Calls Try.prog 20 #[.pointer (some ⟨m, 0, none⟩), .int .u64 (4294967296 + (a : Int)), .int .i64 n] w fun e w' => e = .returned (.tuple #[.int .u64 (num (fun j => f (a + j)) n), .int .i64 0]) ∧ Held w0 w' m f := by
  obtain ⟨s, hM, rfl, ⟨g, h1⟩, ht, hbl⟩ := h
  refine (load_any hM (4294967296 + (a : Int)) n (by omega) (by omega)).mono ?_
  rintro e w' ⟨rfl, k, rfl⟩
  obtain ⟨h2, h3⟩ := h1.load (by decide) (by decide) a n hn ha
  exact ⟨by rw [h2, h3], s, hM.touch ((Touch.refl [] w).drewN k) (by simp), rfl, ⟨g, h1⟩, ht.drewN k, hbl⟩
theorem Held.congr {w0 w : World} {m : Nat} {f f' : Nat → Int} (h : Held w0 w m f) (he : ∀ j, j < 32 → f j = f' j) : Held w0 w m f' := by
  obtain ⟨s, hM, hm, ⟨g, r, h1, h2, h3, h4⟩, ht, hbl⟩ := h
  refine ⟨s, hM, hm, ⟨g, r, h1, h2, ?_, h4⟩, ht, hbl⟩
  rw [h3]
  refine List.map_congr_left (fun j hj => he j ?_)
  simpa using hj

set_option maxHeartbeats 4000000 in
set_option maxRecDepth 100000 in
theorem memBytes_walk (v at_ size : Int) (w : World) (hv0 : 0 ≤ v) (hv1 : v ≤ 18446744073709551615) :
    Calls Try.prog 5 #[.int .u64 v, .int .i64 at_, .int .i64 size] w fun e w' => e = .returned (.bool true) ∧ Touch [] w w' := by
  go_enter Try.func5, Try.ntmps5
  go_wp2_with fail
  refine (first_any w).mono ?_
  rintro e w2 ⟨rfl, ht2⟩
  obtain ⟨q, hq, hq3⟩ := mod4 size
  obtain ⟨i, hi, hi24⟩ := mod25 at_
  have HT := toHid ht2
  clear ht2
  have hcases : q = 0 ∨ q = 1 ∨ q = 2 ∨ q = 3 := by omega
  obtain ⟨n, hn⟩ : ∃ n : Nat, (([1, 2, 4, 8] : List Nat)[q]?) = some n := by rcases hcases with rfl | rfl | rfl | rfl <;> exact ⟨_, rfl⟩
  have hcell : (#[Value.int .i64 1, .int .i64 2, .int .i64 4, .int .i64 8] : Array Value)[q]? = some (.int .i64 n) := by
    rcases hcases with rfl | rfl | rfl | rfl <;> (injection hn with hn; subst hn; rfl)
  have hword : wordB n = true := by
    rcases hcases with rfl | rfl | rfl | rfl <;> (injection hn with hn; subst hn; rfl)
  have hn8 : n ≤ 8 := by have := word_of hword; omega
  have hn1 : 1 ≤ n := by have := word_of hword; omega
  have HW := toHid hword
  clear hcases hn hword
  go_wp2_with fail
  simp only [hi]
  clear hi hq hcell hq3
  refine (newM_any _).mono ?_
  rintro e w3 ⟨rfl, hM3, ht3⟩
  have htt3 := (HT.out.alloc _).trans ht3 (by simp)
  have H4 := toHid (addNew_any hM3 4294967296 32 3 (by decide) (by decide) rfl)
  have hsz : w.heap.size ≤ w2.heap.size := HT.out.size
  simp only [World.size_alloc] at hM3 H4 ⊢
  generalize hmm : w2.heap.size + 1 = m at *
  have HT3 := toHid (And.intro htt3 (show w.heap.size ≤ m by omega))
  clear hM3 ht3 htt3 HT hsz hmm
  go_wp2_with fail
  refine H4.out.mono ?_
  rintro e w4 ⟨rfl, ht4, s4, hM4, hm4, hn4, hbl4, r4, hrs4, hr4⟩
  have hH : Held w w4 m (prep 0) := by
    refine Held.congr (f := fun _ => 0) ⟨s4, hM4, hm4, ⟨_, by rw [hrs4]; exact hr4.one (hM4.ok r4 (by rw [hrs4]; simp))⟩, HT3.out.1.trans ht4 (fun x hx => Or.inr (by simp at hx; rw [hx]; exact HT3.out.2)), fun x hx => ?_⟩ (fun j _ => rfl)
    rcases hbl4 x hx with rfl | hx
    · exact HT3.out.2
    · have := HT3.out.1.size; omega
  have HH := toHid hH
  clear ht4 hM4 hm4 hn4 hbl4 hrs4 hr4 hH H4
  go_wp2_with fail
  go_loopw [10] (fun t w' => ∃ k : Nat, k ≤ 32 ∧ t = .int .i64 k ∧ Hid (Held w w' m (prep k))) (fun t _ => 32 - (intOf t).toNat)
  case atStart => exact ⟨0, by omega, rfl, HH.out⟩
  case round =>
    rename_i wr
    obtain ⟨k, hk, rfl, HI⟩ := hrel
    by_cases hlt : k < 32
    · have HS := toHid (held_store HI.out k 1 (100 + (k : Int)) rfl (by omega) (by omega))
      go_wp2_with (go_at_call 19; refine HS.out.mono ?_; rintro e w' ⟨rfl, hh⟩; have HN := toHid hh; clear hh)
      refine ⟨⟨k + 1, by omega, by go_num, HN.out.congr (fun j hj => ?_)⟩, by simp [intOf]; omega⟩
      unfold prep byteOf
      by_cases e : j = k
      · subst e
        simp
        omega
      · by_cases h : j < k
        · rw [if_neg (by omega), if_pos h, if_pos (by omega)]
        · rw [if_neg (by omega), if_neg h, if_neg (by omega)]
    · obtain rfl : k = 32 := by omega
      go_wp2_with fail
      have HS := toHid (held_store HI.out i n v HW.out (by omega) hv0)
      refine HS.out.mono ?_
      rintro e w5 ⟨rfl, h5⟩
      have H5 := toHid (h5.congr (f' := done v i n) (fun j hj => by unfold done prep; by_cases h : i ≤ j ∧ j < i + n; rw [if_pos h, if_pos h]; rw [if_neg h, if_neg h, if_pos hj]))
      have HL := toHid (held_load H5.out i n HW.out (by omega))
      have hnum : num (fun j => done v i n (i + j)) n = v % 256 ^ n := by
        rw [← num_byteOf v n]
        refine num_congr n (fun j hj => ?_)
        unfold done
        rw [if_pos (by omega), Nat.add_sub_cancel_left]
      rw [hnum] at HL
      clear h5 HS HI hnum HH
      by_cases hn88 : n < 8
      · have hc : (v % 256 ^ n != bits .and .u64 v (IntKind.u64.wrap (IntKind.u64.wrap (2 ^ (8 * n)) - 1))) = false := by rw [and_mask v n (by omega) hv0 hv1]; simp
        go_wp2_with (go_at_call 20; refine HL.out.mono ?_; rintro e w6 ⟨rfl, h6⟩; have H6 := toHid h6; clear h6)
        clear hc HL H5
        generalize bits BinOp.and IntKind.u64 v (IntKind.u64.wrap (IntKind.u64.wrap (2 ^ (8 * n)) - 1)) = q14
        generalize IntKind.u64.wrap (IntKind.u64.wrap (2 ^ (8 * n)) - 1) = q77
        generalize IntKind.u64.wrap (2 ^ (8 * n)) = q76
        generalize decide ((n : Int) < 8) = b71
        go_loopw [15] (fun t w' => ∃ k : Nat, k ≤ 32 ∧ t = .int .i64 k ∧ Hid (Held w w' m (done v i n))) (fun t _ => 32 - (intOf t).toNat)
        case atStart => exact ⟨0, by omega, rfl, H6.out⟩
        case round =>
          rename_i ws
          obtain ⟨k, hk, rfl, HI⟩ := hrel
          by_cases hlt : k < 32
          · have HLL := toHid (held_load HI.out k 1 rfl (by omega))
            have hone : num (fun j => done v i n (k + j)) 1 = done v i n k := by simp [num]
            rw [hone] at HLL
            by_cases hin : i ≤ k ∧ k < i + n
            · have hc2 : (done v i n k != bits .and .u64 (v / 2 ^ (8 * (k - i))) 255) = false := by
                rw [and_byte v (k - i) hv0 hv1]
                unfold done
                rw [if_pos hin]
                simp
              clear hone
              go_wp2_with (go_at_call 20; refine HLL.out.mono ?_; rintro e w7 ⟨rfl, h7⟩; have H7 := toHid h7; clear h7)
              go_roundw
              case rel => exact ⟨k + 1, by omega, by go_num, H7.out⟩
              case measure => simp [intOf]; omega
            · have hc2 : (done v i n k != 100 + (k : Int)) = false := by
                unfold done
                rw [if_neg hin]
                simp
              clear hone
              go_wp2_with (go_at_call 20; refine HLL.out.mono ?_; rintro e w7 ⟨rfl, h7⟩; have H7 := toHid h7; clear h7)
              all_goals
                go_roundw
                case rel => exact ⟨k + 1, by omega, by go_num, H7.out⟩
                case measure => simp [intOf]; omega
          · obtain rfl : k = 32 := by omega
            go_wp2
            go_ret
            obtain ⟨s, _, _, _, ht, _⟩ := HI.out
            exact ⟨rfl, ht⟩
      · have hc : (v % 256 ^ n != v) = false := by
          obtain rfl : n = 8 := by omega
          rw [Int.emod_eq_of_lt hv0 (by omega)]
          simp
        go_wp2_with (go_at_call 20; refine HL.out.mono ?_; rintro e w6 ⟨rfl, h6⟩; have H6 := toHid h6; clear h6)
        clear hc HL H5
        go_loopw [15] (fun t w' => ∃ k : Nat, k ≤ 32 ∧ t = .int .i64 k ∧ Hid (Held w w' m (done v i n))) (fun t _ => 32 - (intOf t).toNat)
        case atStart => exact ⟨0, by omega, rfl, H6.out⟩
        case round =>
          rename_i ws
          obtain ⟨k, hk, rfl, HI⟩ := hrel
          by_cases hlt : k < 32
          · have HLL := toHid (held_load HI.out k 1 rfl (by omega))
            have hone : num (fun j => done v i n (k + j)) 1 = done v i n k := by simp [num]
            rw [hone] at HLL
            by_cases hin : i ≤ k ∧ k < i + n
            · have hc2 : (done v i n k != bits .and .u64 (v / 2 ^ (8 * (k - i))) 255) = false := by
                rw [and_byte v (k - i) hv0 hv1]
                unfold done
                rw [if_pos hin]
                simp
              clear hone
              go_wp2_with (go_at_call 20; refine HLL.out.mono ?_; rintro e w7 ⟨rfl, h7⟩; have H7 := toHid h7; clear h7)
              go_roundw
              case rel => exact ⟨k + 1, by omega, by go_num, H7.out⟩
              case measure => simp [intOf]; omega
            · have hc2 : (done v i n k != 100 + (k : Int)) = false := by
                unfold done
                rw [if_neg hin]
                simp
              clear hone
              go_wp2_with (go_at_call 20; refine HLL.out.mono ?_; rintro e w7 ⟨rfl, h7⟩; have H7 := toHid h7; clear h7)
              all_goals
                go_roundw
                case rel => exact ⟨k + 1, by omega, by go_num, H7.out⟩
                case measure => simp [intOf]; omega
          · obtain rfl : k = 32 := by omega
            go_wp2
            go_ret
            obtain ⟨s, _, _, _, ht, _⟩ := HI.out
            exact ⟨rfl, ht⟩
end Go.Proofs.Ytbidppeelophhaa
