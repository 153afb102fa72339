/-
  The document's own Do: a shift to the right that takes the highest bit in; kinds that are none. And Holds.
-/
import Derived.Test.YtfcekjdjhgoofaaRDo
namespace Go.Proofs.Ytfcekjdjhgoofaa
open Go.RowKit

theorem powI_succ (n : Nat) : powI (n + 1) = powI n * 2 := Int.pow_succ _ _
theorem powI_add (m n : Nat) : powI (m + n) = powI m * powI n := Int.pow_add _ _ _
theorem powI_pos (n : Nat) : 0 < powI n := Int.pow_pos (by omega)
theorem powI_mono {m n : Nat} (h : m ≤ n) : powI m ≤ powI n := by
  obtain ⟨d, rfl⟩ := Nat.exists_eq_add_of_le h
  have h1 := powI_pos m
  have h2 := powI_pos d
  rw [powI_add]
  have := Int.mul_le_mul_of_nonneg_left (show 1 ≤ powI d by omega) (show 0 ≤ powI m by omega)
  omega
/-- A number of L bits, n bits to the right. -/
theorem shr_lt {A : Int} {L n : Nat} (h0 : 0 ≤ A) (h1 : A < powI L) (h : n ≤ L) : 0 ≤ A / powI n ∧ A / powI n < powI (L - n) := by
  have hp := powI_pos n
  refine ⟨Int.ediv_nonneg h0 (by omega), ?_⟩
  refine Int.ediv_lt_of_lt_mul hp ?_
  rw [← powI_add]
  rwa [show L - n + n = L by omega]
theorem shr_neg {A : Int} {L n : Nat} (h : n ≤ L) : (A - powI L) / powI n = A / powI n - powI (L - n) := by
  have hp := powI_pos n
  have e : powI L = powI (L - n) * powI n := by
    rw [← powI_add, show L - n + n = L by omega]
  rw [e, Int.sub_mul_ediv_right _ _ (by omega)]

def lenN (w : Bool) : Nat := if w then 64 else 32
theorem powI_len (w : Bool) : powI (lenN w) = modI w := by cases w <;> rfl
theorem powI_half (w : Bool) : powI (lenN w - 1) = halfI w := by cases w <;> rfl
theorem op192_hi {w : Bool} {a b : Int} (ha : U64 a) (hh : halfI w ≤ cutI w a) : opI 192 w a b = cutI w a / powI (byI w b) + (modI w - powI (lenN w - byI w b)) := by
  have hc := ha.cut w
  have hn : byI w b ≤ lenN w := by cases w <;> simp [byI, lenN, lenI] <;> omega
  have hs : sgnI w a = cutI w a - powI (lenN w) := by
    rw [powI_len]
    exact if_neg (by omega)
  have hq := shr_lt (n := byI w b) hc.1 (by rw [powI_len]; exact hc.2) hn
  have hp : powI (lenN w - byI w b) ≤ powI (lenN w) := powI_mono (by omega)
  rw [powI_len] at hp
  have e : opI 192 w a b = (sgnI w a / powI (byI w b)) % modI w := rfl
  have hm : 0 < modI w := by cases w <;> decide
  have hpp := powI_pos (lenN w - byI w b)
  rw [e, hs, shr_neg hn]
  generalize cutI w a / powI (byI w b) = q at *
  generalize powI (lenN w - byI w b) = p at *
  rw [show q - p = (q + (modI w - p)) - modI w by omega, Int.sub_emod_right]
  exact Int.emod_eq_of_lt (by omega) (by omega)
theorem op192_lo {w : Bool} {a b : Int} (ha : U64 a) (hh : cutI w a < halfI w) : opI 192 w a b = cutI w a / powI (byI w b) := by
  have hc := ha.cut w
  have hs : sgnI w a = cutI w a := if_pos hh
  have e : opI 192 w a b = (sgnI w a / powI (byI w b)) % modI w := rfl
  have hp := powI_pos (byI w b)
  have q0 := Int.ediv_nonneg hc.1 (Int.le_of_lt hp)
  have q1 := Int.ediv_le_self (powI (byI w b)) hc.1
  rw [e, hs]
  exact Int.emod_eq_of_lt q0 (by omega)

set_option maxHeartbeats 2000000 in
theorem rarsh_lo (wide : Bool) (a b : Int) (w : World) (ha : U64 a) (hb : U64 b) (hh : cutI wide a < halfI wide) :
    Calls Try.prog 10 #[.int .i64 192, .int .i64 (lenI wide), .int .u64 a, .int .u64 b] w fun e w' => e = .returned (.tuple #[.int .u64 (opI 192 wide a b), .bool true]) ∧ w' = w := by
  have hp2 := (powI_bd (b % 64).toNat (by omega)).1
  have hp3 := (powI_bd (b % 32).toNat (by omega)).1
  have hp4 : powI 31 = 2147483648 := rfl
  have hp5 : powI 63 = 9223372036854775808 := rfl
  have HE := toHid (op192_lo (b := b) ha hh)
  obtain ⟨h0, h1⟩ := ha
  obtain ⟨g0, g1⟩ := hb
  cases wide
  all_goals simp only [lenI, Bool.false_eq_true, ↓reduceIte, cutI, halfI] at *
  all_goals go_enter Try.func10, Try.ntmps10
  all_goals go_wp2_with (go_at_call 20; refine (pow_any _ _ (by omega) (by omega)).mono ?_; rintro e w ⟨rfl, rfl⟩)
  all_goals go_ret2
  all_goals refine ⟨ret_ib ?_ rfl, rfl⟩
  · have q0 := Int.ediv_nonneg (show 0 ≤ a % 4294967296 by omega) (Int.le_of_lt hp3)
    have q1 := Int.ediv_le_self (powI (b % 32).toNat) (show 0 ≤ a % 4294967296 by omega)
    rw [tmod32 q0, Int.emod_eq_of_lt q0 (by omega), HE.out]
    rfl
  · rw [HE.out]
    rfl
set_option maxHeartbeats 2000000 in
theorem rarsh_hi (wide : Bool) (a b : Int) (w : World) (ha : U64 a) (hb : U64 b) (hh : halfI wide ≤ cutI wide a) :
    Calls Try.prog 10 #[.int .i64 192, .int .i64 (lenI wide), .int .u64 a, .int .u64 b] w fun e w' => e = .returned (.tuple #[.int .u64 (opI 192 wide a b), .bool true]) ∧ w' = w := by
  have hp2 := (powI_bd (b % 64).toNat (by omega)).1
  have hp3 := (powI_bd (b % 32).toNat (by omega)).1
  have hp4 : powI 31 = 2147483648 := rfl
  have hp5 : powI 63 = 9223372036854775808 := rfl
  have HE := toHid (op192_hi (b := b) ha hh)
  have hc := ha.cut wide
  have hn : byI wide b ≤ lenN wide := by cases wide <;> simp [byI, lenN, lenI] <;> omega
  have HQ := toHid (shr_lt (n := byI wide b) hc.1 (by rw [powI_len]; exact hc.2) hn)
  have hb' := hb
  obtain ⟨h0, h1⟩ := ha
  obtain ⟨g0, g1⟩ := hb
  clear hb'
  cases wide
  · simp only [lenI, Bool.false_eq_true, ↓reduceIte, cutI, halfI, modI] at *
    obtain ⟨n, hbn⟩ : ∃ n : Nat, b % 32 = (n : Int) := ⟨(b % 32).toNat, by omega⟩
    have hby : byI false b = n := by simp [byI, lenI, hbn]
    rw [hby] at HE HQ hn
    simp only [lenN, Bool.false_eq_true, ↓reduceIte] at HE HQ
    have hn31 : n < 32 := by omega
    have q0 := HQ.out.1
    have q1 := HQ.out.2
    have q2 := (powI_bd (32 - n) (by omega)).2
    have hbt : (b % 32).toNat = n := by omega
    rw [hbt] at hp3
    go_enter Try.func10, Try.ntmps10
    go_wp2_with (go_at_call 20; refine (pow_any _ _ (by omega) (by omega)).mono ?_; rintro e w ⟨rfl, rfl⟩; simp only [Int.toNat_natCast])
    rw [show Int.toNat 31 = 31 from rfl]
    have e10 : b % 4294967296 % 32 = (n : Int) := by omega
    rw [e10]
    generalize b % 4294967296 = B at *
    generalize a % 4294967296 = A at *
    generalize A / powI n = q at *
    clear hp2 hp4 hp5 hby hbt e10 hbn hp3
    have q3 : powI (32 - n) ≤ 4294967296 := powI_mono (show 32 - n ≤ 32 by omega)
    go_loop [11, 12] (fun r t => ∃ i : Nat, i ≤ n ∧ t = .int .u64 (i : Int) ∧ r = .int .u64 (q + (4294967296 - powI (32 - i)))) (fun _ t => n - (intOf t).toNat)
    case atStart => exact ⟨0, by omega, rfl, by rw [show powI (32 - 0) = 4294967296 from rfl]; simp⟩
    case round =>
      obtain ⟨i, hi, rfl, rfl⟩ := hrel
      by_cases hin : i = n
      · subst hin
        go_wp2
        go_ret2
        refine ⟨ret_ib ?_ rfl, rfl⟩
        rw [HE.out]
        have := powI_pos (32 - i)
        exact Int.emod_eq_of_lt (by omega) (by omega)
      · have hlt : i < n := by omega
        have s1 := powI_succ (32 - 1 - i)
        rw [show 32 - 1 - i + 1 = 32 - i by omega] at s1
        have s2 : powI (32 - n) ≤ powI (32 - 1 - i) := powI_mono (by omega)
        have s3 := (powI_bd (32 - 1 - i) (by omega)).2
        have s4 := powI_pos (32 - 1 - i)
        have s5 : powI (32 - i) ≤ 4294967296 := powI_mono (show 32 - i ≤ 32 by omega)
        have HS : Hid (powI (32 - (i + 1)) = powI (32 - 1 - i)) := toHid (by rw [show 32 - (i + 1) = 32 - 1 - i by omega])
        have HC := toHid (pow_any (31 - (i : Int)) w (by omega) (by omega))
        rw [show ((31 : Int) - (i : Int)).toNat = 32 - 1 - i by omega] at HC
        generalize powI (32 - i) = p0 at *
        generalize powI (32 - 1 - i) = p1 at *
        generalize powI (32 - n) = pn at *
        have s6 : q + (4294967296 - p0) + p1 ≤ 18446744073709551615 := by omega
        have s7 : 0 ≤ q + (4294967296 - p0) := by omega
        have S1 := toHid s1
        clear s1
        go_wp2_with (go_at_call 20; refine HC.out.mono ?_; rintro e w ⟨rfl, rfl⟩)
        go_round
        case rel => exact ⟨i + 1, by omega, by simp, by rw [HS.out]; have := S1.out; congr 1; omega⟩
        case measure => simp [intOf]; omega
  · simp only [lenI, ↓reduceIte, cutI, halfI, modI] at *
    obtain ⟨n, hbn⟩ : ∃ n : Nat, b % 64 = (n : Int) := ⟨(b % 64).toNat, by omega⟩
    have hby : byI true b = n := by simp [byI, lenI, hbn]
    rw [hby] at HE HQ hn
    simp only [lenN, ↓reduceIte] at HE HQ
    have hn63 : n < 64 := by omega
    have q0 := HQ.out.1
    have q1 := HQ.out.2
    have hbt : (b % 64).toNat = n := by omega
    rw [hbt] at hp2
    go_enter Try.func10, Try.ntmps10
    go_wp2_with (go_at_call 20; refine (pow_any _ _ (by omega) (by omega)).mono ?_; rintro e w ⟨rfl, rfl⟩; simp only [Int.toNat_natCast])
    rw [show Int.toNat 63 = 63 from rfl, hbn]
    generalize a / powI n = q at *
    clear hp3 hp4 hp5 hby hbt hbn hp2
    have q3 : powI (64 - n) ≤ 18446744073709551616 := powI_mono (show 64 - n ≤ 64 by omega)
    go_loop [11, 12] (fun r t => ∃ i : Nat, i ≤ n ∧ t = .int .u64 (i : Int) ∧ r = .int .u64 (q + (18446744073709551616 - powI (64 - i)))) (fun _ t => n - (intOf t).toNat)
    case atStart => exact ⟨0, by omega, rfl, by rw [show powI (64 - 0) = 18446744073709551616 from rfl]; simp⟩
    case round =>
      obtain ⟨i, hi, rfl, rfl⟩ := hrel
      by_cases hin : i = n
      · subst hin
        go_wp2
        go_ret2
        refine ⟨ret_ib ?_ rfl, rfl⟩
        rw [HE.out]
      · have hlt : i < n := by omega
        have s1 := powI_succ (64 - 1 - i)
        rw [show 64 - 1 - i + 1 = 64 - i by omega] at s1
        have s2 : powI (64 - n) ≤ powI (64 - 1 - i) := powI_mono (by omega)
        have s3 := (powI_bd (64 - 1 - i) (by omega)).2
        have s4 := powI_pos (64 - 1 - i)
        have s5 : powI (64 - i) ≤ 18446744073709551616 := powI_mono (show 64 - i ≤ 64 by omega)
        have HS : Hid (powI (64 - (i + 1)) = powI (64 - 1 - i)) := toHid (by rw [show 64 - (i + 1) = 64 - 1 - i by omega])
        have HC := toHid (pow_any (63 - (i : Int)) w (by omega) (by omega))
        rw [show ((63 : Int) - (i : Int)).toNat = 64 - 1 - i by omega] at HC
        generalize powI (64 - i) = p0 at *
        generalize powI (64 - 1 - i) = p1 at *
        generalize powI (64 - n) = pn at *
        have s6 : q + (18446744073709551616 - p0) + p1 ≤ 18446744073709551615 := by omega
        have s7 : 0 ≤ q + (18446744073709551616 - p0) := by omega
        have S1 := toHid s1
        clear s1
        go_wp2_with (go_at_call 20; refine HC.out.mono ?_; rintro e w ⟨rfl, rfl⟩)
        go_round
        case rel => exact ⟨i + 1, by omega, by simp, by rw [HS.out]; have := S1.out; congr 1; omega⟩
        case measure => simp [intOf]; omega

set_option maxHeartbeats 1000000 in
theorem rdo_bad (k : Int) (wide : Bool) (a b : Int) (w : World) (hk : okOp k = false) :
    Calls Try.prog 10 #[.int .i64 k, .int .i64 (lenI wide), .int .u64 a, .int .u64 b] w fun e w' => e = .returned (.tuple #[.int .u64 0, .bool false]) ∧ w' = w := by
  simp [okOp] at hk
  have hk2 := tmod16 k
  by_cases h1 : k % 16 = 0
  · have h2 := hk2.2 h1
    have h3 : k < 0 ∨ 192 < k := by omega
    clear hk hk2 h1
    rcases h3 with h3 | h3
    all_goals go_enter Try.func10, Try.ntmps10
    all_goals go_wp2
    all_goals go_ret2
    all_goals exact ⟨rfl, rfl⟩
  · have h2 : ¬ k.tmod 16 = 0 := fun h => h1 (hk2.1 h)
    clear hk hk2 h1
    go_enter Try.func10, Try.ntmps10
    go_wp2
    go_ret2
    exact ⟨rfl, rfl⟩
theorem rdo_any (k : Int) (wide : Bool) (a b : Int) (w : World) (hk : okOp k = true) (ha : U64 a) (hb : U64 b) :
    Calls Try.prog 10 #[.int .i64 k, .int .i64 (lenI wide), .int .u64 a, .int .u64 b] w fun e w' => e = .returned (.tuple #[.int .u64 (opI k wide a b), .bool true]) ∧ w' = w := by
  by_cases hs : k = 192
  · subst hs
    by_cases hh : cutI wide a < halfI wide
    · exact rarsh_lo wide a b w ha hb hh
    · exact rarsh_hi wide a b w ha hb (by omega)
  · exact rdo_ok k wide a b w hk hs ha hb
end Go.Proofs.Ytfcekjdjhgoofaa
