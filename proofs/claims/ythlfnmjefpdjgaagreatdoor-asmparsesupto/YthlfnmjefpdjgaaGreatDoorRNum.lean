/-
  What the reference's Number and Signed answer.
-/
import Derived.Test.YthlfnmjefpdjgaaGreatDoorLine
import Derived.Laws.BytesArg
namespace Go.Proofs.YthlfnmjefpdjgaaGreatDoor
open Go.RowKit

theorem dec_step (n : Nat) : Lib.decDigits n = if n < 10 then [UInt8.ofNat (48 + n)] else Lib.decDigits (n / 10) ++ [UInt8.ofNat (48 + n % 10)] := by
  rw [Lib.decDigits]
  split <;> rfl
theorem conv_one (w : World) (k : Nat) :
    (convert 36 9 (.slice (some ⟨w.heap.size, 0, none⟩) 1 1)).run Tryz.prog (w.alloc (.cells #[.int .u8 (48 + (k : Int) % 10)] 5)) = .ok (.string ⟨#[UInt8.ofNat (48 + k % 10)]⟩) (w.alloc (.cells #[.int .u8 (48 + (k : Int) % 10)] 5)) := by
  have := run_convert_bytes_arg (P := Tryz.prog) (w.alloc (.cells #[.int .u8 (48 + (k : Int) % 10)] 5)) 36 5 Tryz.underlying36 Tryz.underlying5 w.heap.size 0 1 1 [48 + (k : Int) % 10] rfl (fun i hi => by
    obtain rfl : i = 0 := by omega
    simp) 9 Tryz.underlying9
  rw [this]
  have e : ((48 : Int) + (k : Int) % 10).toNat = 48 + k % 10 := by omega
  simp only [strOfNums, List.map_cons, List.map_nil, e]

set_option maxRecDepth 100000 in
set_option maxHeartbeats 4000000 in
theorem rnumber_any (n : Nat) (hn : n < 18446744073709551616) (w : World) :
    Calls Tryz.prog 34 #[.int .u64 (n : Int)] w fun e w' => e = .returned (.string ⟨(Lib.decDigits n).toArray⟩) ∧ Touch [] w w' := by
  have hN := nDigits_le20 n hn
  rw [← Lib.decDigits_length] at hN
  go_enter Tryz.func34, Tryz.ntmps34
  go_wp2_with fail
  go_loopw [0, 3] (fun nv sv w' => ∃ (k : Nat) (s : Bs), nv = .int .u64 (k : Int) ∧ sv = .string ⟨s.toArray⟩ ∧ Hid (Lib.decDigits n = Lib.decDigits k ++ s) ∧ k ≤ n ∧ Hid (Touch [] w w')) (fun nv _ _ => (intOf nv).toNat)
  case atStart => exact ⟨n, [], rfl, rfl, by simp [Hid], by omega, Touch.refl _ _⟩
  case round =>
    obtain ⟨k, s, rfl, rfl, HD, hk, HT⟩ := hrel
    have hD : Lib.decDigits n = Lib.decDigits k ++ s := HD
    have hsl : s.length ≤ 20 := by rw [hD] at hN; simp at hN; omega
    have hq := conv_one wr k
    have hba : ((⟨#[UInt8.ofNat (48 + k % 10)]⟩ : ByteArray) ++ ⟨s.toArray⟩) = ⟨(UInt8.ofNat (48 + k % 10) :: s).toArray⟩ := ba_append [UInt8.ofNat (48 + k % 10)] s
    have hl2 : ¬ 9223372036854775807 < 1 + s.length := by omega
    obtain ⟨c, hc⟩ : ∃ c, c = UInt8.ofNat (48 + k % 10) := ⟨_, rfl⟩
    rw [← hc] at hq hba
    have htr : Touch [] w (wr.alloc (.cells #[.int .u8 (48 + (k : Int) % 10)] 5)) := (show Touch [] w wr from HT).alloc _
    have HT' := toHid htr
    have htd : IntKind.u64.wrap ((k : Int).tdiv 10) = ((k / 10 : Nat) : Int) := by rw [Int.tdiv_eq_ediv_of_nonneg (by omega), IntKind.wrap_u64]; omega
    clear htr hN hD
    by_cases h10 : k < 10
    · have hz : k / 10 = 0 := by omega
      have hm : k % 10 = k := by omega
      have HD' := toHid (show Lib.decDigits n = c :: s by
        rw [hc, show Lib.decDigits n = _ from HD, dec_step k, if_pos h10, hm]; rfl)
      clear HD hm hc
      go_wp2
      go_ret
      exact ⟨by rw [show Lib.decDigits n = _ from HD']; rfl, HT'⟩
    · have HD' := toHid (show Lib.decDigits n = Lib.decDigits (k / 10) ++ c :: s by
        rw [hc, show Lib.decDigits n = _ from HD, dec_step k, if_neg h10]; simp)
      clear HD hc
      go_wp2
      go_roundw
      case rel => exact ⟨k / 10, c :: s, rfl, rfl, HD', by omega, HT'⟩
      case measure => simp [intOf]; omega
set_option maxHeartbeats 4000000 in
theorem rsigned_any (v : Int) (h0 : -9223372036854775808 ≤ v) (h1 : v ≤ 9223372036854775807) (w : World) :
    Calls Tryz.prog 35 #[.int .i64 v] w fun e w' => e = .returned (.string ⟨(Lib.itoa v).toArray⟩) ∧ Touch [] w w' := by
  by_cases hneg : v < 0
  · obtain ⟨u, hu⟩ : ∃ u : Nat, v = -(u : Int) := ⟨v.natAbs, by omega⟩
    subst hu
    have hit := Lib.itoa_neg u (by omega)
    have hN := nDigits_le20 u (by omega)
    rw [← Lib.decDigits_length] at hN
    have hba : ((⟨#[45]⟩ : ByteArray) ++ ⟨(Lib.decDigits u).toArray⟩) = ⟨(45 :: Lib.decDigits u).toArray⟩ := ba_append [45] _
    have hl2 : ¬ 9223372036854775807 < 1 + (Lib.decDigits u).length := by omega
    go_enter Tryz.func35, Tryz.ntmps35
    go_wp2_with fail
    rw [show -(-(u : Int) + 1) + 1 = (u : Int) by omega]
    refine (rnumber_any u (by omega) w).mono ?_
    rintro e w1 ⟨rfl, ht⟩
    go_wp2
    go_ret
    exact ⟨by rw [hit]; rfl, ht⟩
  · obtain ⟨u, rfl⟩ : ∃ u : Nat, v = (u : Int) := ⟨v.toNat, by omega⟩
    have hit := Lib.itoa_nonneg u
    go_enter Tryz.func35, Tryz.ntmps35
    go_wp2_with fail
    refine (rnumber_any u (by omega) w).mono ?_
    rintro e w1 ⟨rfl, ht⟩
    go_wp2
    go_ret
    exact ⟨by rw [hit]; rfl, ht⟩
end Go.Proofs.YthlfnmjefpdjgaaGreatDoor
