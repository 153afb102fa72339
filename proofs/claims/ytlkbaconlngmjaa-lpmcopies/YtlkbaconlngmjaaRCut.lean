/-
  The document's own keys of prefixes: Number, Bits, bit, Cut.
-/
import Derived.Test.YtlkbaconlngmjaaRNewK
import Derived.Test.YtlkbaconlngmjaaRNew0
namespace Go.Proofs.Ytlkbaconlngmjaa
open Go.RowKit

theorem num_congr {f g : Nat → Int} : ∀ n, (∀ j, j < n → f j = g j) → num f n = num g n
  | 0, _ => rfl
  | n + 1, h => by unfold num; rw [num_congr n (fun j hj => h j (by omega)), h n (by omega)]
theorem num_shift (bs : Nat → Int) : ∀ n, num bs (n + 1) = bs 0 + 256 * num (fun j => bs (j + 1)) n
  | 0 => by simp [num]
  | n + 1 => by
    show num bs (n + 1) + bs (n + 1) * 256 ^ (n + 1) = bs 0 + 256 * (num (fun j => bs (j + 1)) n + bs (n + 1) * 256 ^ n)
    rw [num_shift bs n, Int.mul_add, Int.pow_succ, Int.add_assoc]
    congr 2
    rw [Int.mul_comm 256, Int.mul_assoc]

set_option maxHeartbeats 2000000 in
set_option maxRecDepth 100000 in
theorem rnumber_any (b off n c : Nat) (bs : Nat → Int) (w : World) (hn : n ≤ 8)
    (hc : ∀ j, j < n → w.cell? ⟨b, off + j, none⟩ = some (.int .u8 (bs j))) (hb : ∀ j, j < n → 0 ≤ bs j ∧ bs j ≤ 255) :
    Calls Try.prog 42 #[.slice (some ⟨b, off, none⟩) n c] w fun e w' => e = .returned (.int .u64 (num bs n)) ∧ w' = w := by
  have HC := toHid hc
  have HB := toHid hb
  clear hc hb
  go_enter Try.func42, Try.ntmps42
  go_wp2
  go_loop [3, 4] (fun x t => ∃ k : Nat, k ≤ n ∧ t = .int .i64 ((k : Int) - 1) ∧ x = .int .u64 (num (fun j => bs (k + j)) (n - k))) (fun _ t => ((intOf t) + 1).toNat)
  case atStart => exact ⟨n, by omega, by go_num, by rw [Nat.sub_self]; rfl⟩
  case round =>
    obtain ⟨k, hk, rfl, rfl⟩ := hrel
    by_cases hlt : 0 < k
    · obtain ⟨q, rfl⟩ : ∃ q, k = q + 1 := ⟨k - 1, by omega⟩
      have c1 := HC.out q (by omega)
      have c2 := HB.out q (by omega)
      have hbd := num_bd (fun j => bs (q + 1 + j)) (n - (q + 1)) (fun j hj => HB.out _ (by omega))
      have hpow : (256 : Int) ^ (n - (q + 1)) ≤ 256 ^ 7 := by
        have : (256 : Nat) ^ (n - (q + 1)) ≤ 256 ^ 7 := Nat.pow_le_pow_right (by omega) (by omega)
        have h2 : ((256 ^ (n - (q + 1)) : Nat) : Int) ≤ ((256 ^ 7 : Nat) : Int) := by omega
        rw [Int.natCast_pow] at h2
        exact h2
      have hst : num (fun j => bs (q + j)) (n - q) = bs q + 256 * num (fun j => bs (q + 1 + j)) (n - (q + 1)) := by
        have e := num_shift (fun j => bs (q + j)) (n - (q + 1))
        rw [show n - (q + 1) + 1 = n - q by omega] at e
        rw [e]
        simp only [Nat.add_zero]
        congr 2
        exact num_congr _ (fun j _ => by rw [show q + (j + 1) = q + 1 + j by omega])
      have HST := toHid hst
      have hx0 := hbd.1
      have hx1 : num (fun j => bs (q + 1 + j)) (n - (q + 1)) < 72057594037927936 := by omega
      generalize num (fun j => bs (q + 1 + j)) (n - (q + 1)) = x at *
      have hw1 : IntKind.u64.wrap (x * 256) = x * 256 := by rw [IntKind.wrap_u64]; omega
      have hw2 : IntKind.u64.wrap (x * 256 + bs q) = x * 256 + bs q := by rw [IntKind.wrap_u64]; omega
      clear hbd hst hpow
      go_wp2
      refine ⟨⟨q, by omega, rfl, ?_⟩, by simp [intOf] <;> omega⟩
      rw [HST.out]
      congr 1
      omega
    · obtain rfl : k = 0 := by omega
      go_wp2
      go_ret
      refine ⟨ret_int ?_, rfl⟩
      simp

/-- The first bytes of a key, and the others. -/
theorem KeyAt.cut4 {w : World} {sa : Option Addr} {sl : Nat} {bs : List Int} (h : KeyAt w sa sl bs) (h4 : 4 ≤ bs.length) : ∃ b off, sa = some ⟨b, off, none⟩ ∧ KeyAt w (some ⟨b, off, none⟩) 4 (bs.take 4) ∧ ∀ j, j < bs.length → w.cell? ⟨b, off + j, none⟩ = some (.int .u8 (bs.getD j 0)) := by
  obtain ⟨h1, h2, h3, hc⟩ := h
  obtain ⟨b, off, rfl, hcell⟩ := hc (by omega)
  refine ⟨b, off, rfl, ⟨by simp; omega, fun x hx => h2 x (List.mem_of_mem_take hx), by simp; omega, fun _ => ⟨b, off, rfl, fun j hj => ?_⟩⟩, hcell⟩
  have hj4 : j < 4 := by simp at hj; omega
  rw [hcell j (by omega), List.getD_eq_getElem?_getD, List.getD_eq_getElem?_getD, List.getElem?_take, if_pos hj4]

set_option maxHeartbeats 1000000 in
set_option maxRecDepth 100000 in
theorem bits_any {w : World} {sa : Option Addr} {sl : Nat} {bs : List Int} (h : KeyAt w sa sl bs) (h4 : 4 ≤ bs.length) (sc : Nat) (hsc : sl ≤ sc) :
    Calls Try.prog 36 #[.slice sa sl sc] w fun e w' => e = .returned (.int .u64 (keyNum bs)) ∧ w' = w := by
  obtain ⟨b, off, rfl, _, hcell⟩ := h.cut4 h4
  have H1 := toHid (rnumber_any b off 4 sc (fun j => bs.getD j 0) w (by omega) (fun j hj => hcell j (by omega)) (fun j _ => getD_bd h.2.1 j))
  rw [show num (fun j => bs.getD j 0) 4 = keyNum bs from rfl] at H1
  have hl : 4 ≤ sc := by have := h.1; omega
  generalize keyNum bs = kn at *
  clear h hcell
  go_enter Try.func36, Try.ntmps36
  go_wp2_with fail
  refine Calls.mono H1.out ?_
  rintro e w ⟨rfl, rfl⟩
  go_wp2
  go_ret
  exact ⟨rfl, rfl⟩

/-- Bit i behind the number, the highest of each byte first. -/
def bitP (bs : List Int) (i : Nat) : Int := bs.getD (4 + i / 8) 0 / 2 ^ (7 - i % 8) % 2
theorem bitP_bd (bs : List Int) (i : Nat) : 0 ≤ bitP bs i ∧ bitP bs i ≤ 1 := by unfold bitP; omega
set_option maxHeartbeats 1000000 in
set_option maxRecDepth 100000 in
theorem bit_any {w : World} {sa : Option Addr} {sl : Nat} {bs : List Int} (h : KeyAt w sa sl bs) (i : Nat) (hi : 4 + i / 8 < bs.length) (hi2 : i ≤ 1000) (sc : Nat) :
    Calls Try.prog 43 #[.slice sa sl sc, .int .i64 (i : Int)] w fun e w' => e = .returned (.int .i64 (bitP bs i)) ∧ w' = w := by
  obtain ⟨b, off, rfl, _, hcell⟩ := h.cut4 (by omega)
  have c1 := hcell _ hi
  have hbd := getD_bd h.2.1 (4 + i / 8)
  have hsl : 4 + i / 8 < sl := by rw [h.1]; exact hi
  have HV : Hid (bitP bs i = bs.getD (4 + i / 8) 0 / 2 ^ (7 - i % 8) % 2) := rfl
  generalize bs.getD (4 + i / 8) 0 = v at *
  generalize bitP bs i = r at *
  clear h hcell hi
  have e1 : ((i : Int) / 8) = ((i / 8 : Nat) : Int) := by omega
  have e2 : ((i : Int) % 8) = ((i % 8 : Nat) : Int) := by omega
  have hm8 : i % 8 < 8 := Nat.mod_lt _ (by omega)
  generalize hd : i / 8 = d at *
  generalize hm : i % 8 = m at *
  go_enter Try.func43, Try.ntmps43
  go_wp2_with fail
  have HHD : Hid (∀ k : Nat, 0 ≤ v / 2 ^ k ∧ v / 2 ^ k ≤ 255) := fun k => by
    have h1 : 0 ≤ v / 2 ^ k := Int.ediv_nonneg hbd.1 (Int.pow_nonneg (by omega))
    have h2 : v / 2 ^ k ≤ v := Int.ediv_le_self _ hbd.1
    omega
  go_loop [5, 6] (fun x t => ∃ k : Nat, k ≤ 7 - m ∧ t = .int .i64 k ∧ x = .int .i64 (v / 2 ^ k)) (fun _ t => 7 - (intOf t).toNat)
  case atStart => exact ⟨0, by omega, rfl, by simp⟩
  case round =>
    obtain ⟨k, hk, rfl, rfl⟩ := hrel
    have hd2 := HHD.out k
    have HN : Hid (v / 2 ^ k / 2 = v / 2 ^ (k + 1)) := by
      show v / 2 ^ k / 2 = v / 2 ^ (k + 1)
      rw [Int.pow_succ, Int.ediv_ediv_of_nonneg (Int.pow_nonneg (by omega))]
    by_cases hlt : k < 7 - m
    · have hlt' : (k : Int) < 7 - m := by omega
      generalize v / 2 ^ k = q at *
      go_wp2
      exact ⟨⟨k + 1, by omega, by go_num, by rw [← HN.out]⟩, by simp [intOf]; omega⟩
    · have hlt' : ¬ (k : Int) < 7 - m := by omega
      obtain rfl : k = 7 - m := by omega
      have HV2 := toHid HV.out
      generalize v / 2 ^ (7 - m) = q at *
      go_wp2
      go_ret
      exact ⟨by rw [HV2.out]; rfl, rfl⟩

/-- What is put together of byte i behind the number, k bits of it. -/
def cutAcc (bs : List Int) (i : Nat) : Nat → Int
  | 0 => 0
  | k + 1 => cutAcc bs i k * 2 + if ((8 * i + k : Nat) : Int) < keyNum bs then bitP bs (8 * i + k) else 0
theorem cutAcc_bd (bs : List Int) (i : Nat) : ∀ k, 0 ≤ cutAcc bs i k ∧ cutAcc bs i k < 2 ^ k
  | 0 => by simp [cutAcc]
  | k + 1 => by
    have h1 := cutAcc_bd bs i k
    have h2 := bitP_bd bs (8 * i + k)
    unfold cutAcc
    rw [Int.pow_succ]
    split <;> omega
/-- A key without the bits that don't count. -/
def cutTo (bs : List Int) (n : Nat) : List Int := bs.take 4 ++ (List.range n).map fun i => cutAcc bs i 8
def cutP (bs : List Int) : List Int := cutTo bs (bs.length - 4)
theorem cutP_len {bs : List Int} (h : 4 ≤ bs.length) : (cutP bs).length = bs.length := by simp [cutP, cutTo]; omega
theorem cutP_bd {bs : List Int} (h : ∀ x ∈ bs, 0 ≤ x ∧ x ≤ 255) : ∀ x ∈ cutP bs, 0 ≤ x ∧ x ≤ 255 := by
  intro x hx
  rcases List.mem_append.1 hx with hx | hx
  · exact h x (List.mem_of_mem_take hx)
  · obtain ⟨i, _, rfl⟩ := List.mem_map.1 hx
    have := cutAcc_bd bs i 8
    omega

set_option maxHeartbeats 4000000 in
set_option maxRecDepth 100000 in
theorem cut_any {w : World} {sa : Option Addr} {sl : Nat} {bs : List Int} (h : KeyAt w sa sl bs) (h4 : 4 ≤ bs.length) (h16 : bs.length ≤ 16) (sc : Nat) (hsc : sl ≤ sc) :
    Calls Try.prog 37 #[.slice sa sl sc] w fun e w' => (∃ v, e = .returned v ∧ OwnAt w w' v (cutP bs)) ∧ Touch [] w w' := by
  obtain ⟨b, off, rfl, hk4, _⟩ := h.cut4 h4
  have hslb : sl = bs.length := h.1
  have h4s : 4 ≤ sc := by omega
  obtain ⟨g1, cap1, w1, hr1, hA1, ht1, hg1, hrw⟩ := keyat_append2 hk4 (by simp; omega) (by simp; omega) sc
  have HO : Hid (OwnAt w w1 (.slice (some ⟨g1, 0, none⟩) 4 cap1) (cutTo bs 0) ∧ Touch [] w w1) := by
    refine ⟨⟨some g1, cap1, by simp [cutTo, slV]; omega, ?_, fun b hb => by injection hb with hb; omega⟩, ht1⟩
    have e0 : cutTo bs 0 = bs.take 4 := by simp [cutTo]
    rw [e0]
    exact hrw
  have HR1 := toHid hr1
  have HK := toHid h
  generalize hn : bs.length = n at *
  have HN := toHid hn
  subst hslb
  clear hr1 hA1 ht1 hg1 h hk4 hn hrw
  go_enter Try.func37, Try.ntmps37
  go_wp2_with (at_builtin; refine Lib.wpList_append_run _ rfl _ _ _ _ rfl _ _ rfl rfl _ _ HR1.out ?_)
  go_loopw [3, 4] (fun o t w' => ∃ j : Nat, 4 ≤ j ∧ j ≤ sl ∧ t = .int .i64 j ∧ Hid (OwnAt w w' o (cutTo bs (j - 4)) ∧ Touch [] w w')) (fun _ t _ => sl - (intOf t).toNat)
  case atStart => exact ⟨4, by omega, by omega, rfl, HO.out⟩
  case round =>
    clear HO HR1
    obtain ⟨j, hj4, hj, rfl, HI⟩ := hrel
    by_cases hlt : j < sl
    · have hkr := HK.out.touch HI.out.2
      have H1 := toHid (bits_any hkr (by rw [HN.out]; omega) sc hsc)
      have H2 : Hid (∀ q : Nat, q / 8 < sl - 4 → Calls Try.prog 43 #[.slice (some ⟨b, off, none⟩) sl sc, .int .i64 (q : Int)] wr fun e w' => e = .returned (.int .i64 (bitP bs q)) ∧ w' = wr) := toHid (fun q hq => bit_any hkr q (by rw [HN.out]; omega) (by omega) sc)
      have hkn := hkr.num4
      clear hkr
      go_wp2_with fail
      go_loop [5, 6] (fun x t => ∃ k : Nat, k ≤ 8 ∧ t = .int .i64 k ∧ x = .int .i64 (cutAcc bs (j - 4) k)) (fun _ t => 8 - (intOf t).toNat)
      case atStart => exact ⟨0, by omega, rfl, rfl⟩
      case round =>
        obtain ⟨k, hk, rfl, rfl⟩ := hrel
        have hbd := cutAcc_bd bs (j - 4) k
        by_cases hk8 : k < 8
        · have hpow : (2 : Int) ^ k ≤ 2 ^ 8 := by
            have : (2 : Nat) ^ k ≤ 2 ^ 8 := Nat.pow_le_pow_right (by omega) (by omega)
            have h2 : ((2 ^ k : Nat) : Int) ≤ ((2 ^ 8 : Nat) : Int) := by omega
            rw [Int.natCast_pow] at h2
            exact h2
          have HA : Hid (cutAcc bs (j - 4) (k + 1) = cutAcc bs (j - 4) k * 2 + if ((8 * (j - 4) + k : Nat) : Int) < keyNum bs then bitP bs (8 * (j - 4) + k) else 0) := rfl
          have H3 := toHid (H2.out (8 * (j - 4) + k) (by omega))
          have hq : 8 * ((j : Int) - 4) + (k : Int) = ((8 * (j - 4) + k : Nat) : Int) := by omega
          have hq2 : 8 * (j - 4) + k ≤ 200 := by omega
          have hbb := bitP_bd bs (8 * (j - 4) + k)
          have hb0 := hbd.1
          have hb1 : cutAcc bs (j - 4) k ≤ 256 := by omega
          generalize hnx : cutAcc bs (j - 4) (k + 1) = nx at *
          have HNX := toHid hnx
          clear hnx
          generalize cutAcc bs (j - 4) k = cu at *
          generalize bitP bs (8 * (j - 4) + k) = bi at *
          generalize 8 * (j - 4) + k = q at *
          generalize keyNum bs = kn at *
          clear hbd hpow H2
          by_cases hlq : (q : Int) < kn
          · have HA2 := HA.out
            rw [if_pos hlq] at HA2
            have HA3 := toHid HA2
            clear HA HA2
            go_wp2_with fail
            refine Calls.mono H1.out ?_
            rintro e w ⟨rfl, rfl⟩
            go_wp2_with fail
            refine Calls.mono H3.out ?_
            rintro e w ⟨rfl, rfl⟩
            go_wp2
            exact ⟨⟨k + 1, by omega, by go_num, by rw [HNX.out, HA3.out]⟩, by simp [intOf]; omega⟩
          · have HA2 := HA.out
            rw [if_neg hlq] at HA2
            have HA3 := toHid HA2
            clear HA HA2
            go_wp2_with fail
            refine Calls.mono H1.out ?_
            rintro e w ⟨rfl, rfl⟩
            go_wp2
            exact ⟨⟨k + 1, by omega, by go_num, by rw [HNX.out, HA3.out, Int.add_zero]⟩, by simp [intOf]; omega⟩
        · obtain rfl : k = 8 := by omega
          have hb1 : cutAcc bs (j - 4) 8 ≤ 255 := by omega
          have hb0 := hbd.1
          obtain ⟨v', w', hr, ho, ht⟩ := HI.out.1.push HI.out.2 (cutAcc bs (j - 4) 8) (by have : (cutTo bs (j - 4)).length ≤ 100 := (by simp [cutTo]; omega); omega)
          have HF : Hid (OwnAt w w' v' (cutTo bs (j + 1 - 4)) ∧ Touch [] w w') := by
            refine ⟨?_, ht⟩
            have e : cutTo bs (j + 1 - 4) = cutTo bs (j - 4) ++ [cutAcc bs (j - 4) 8] := by
              rw [show j + 1 - 4 = j - 4 + 1 by omega]
              unfold cutTo
              rw [List.range_succ, List.map_append, List.append_assoc]
              rfl
            rw [e]
            exact ho
          have HRR := toHid hr
          generalize cutAcc bs (j - 4) 8 = cu at *
          clear hr ho ht hbd H1 H2
          go_wp2_with (at_builtin; refine Lib.wpList_append_run _ rfl _ _ _ _ rfl _ _ rfl rfl _ _ HRR.out ?_)
          go_roundw
          case rel => exact ⟨j + 1, by omega, by omega, by go_num, HF⟩
          case measure => simp [intOf]; omega
    · obtain rfl : sl = j := by omega
      go_wp2
      go_ret
      refine ⟨⟨_, rfl, ?_⟩, HI.out.2⟩
      have := HI.out.1
      unfold cutP
      rw [HN.out]
      exact this
end Go.Proofs.Ytlkbaconlngmjaa
