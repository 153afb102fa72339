/-
  The library's BinarySearch over rising numbers.
-/
import Derived.Test.YtpoliblfgioocaaParts
namespace Go.Proofs.Ytpoliblfgioocaa
open Go.RowKit

set_option maxHeartbeats 400000 in
theorem nan46 (x : Int) (w : World) : Calls Try.prog 46 #[.int .i64 x] w fun e w' => e = .returned (.bool false) ∧ w' = w := by
  go_enter Try.func46, Try.ntmps46
  go_wp2
  go_ret
  exact ⟨ret_bool (by simp), rfl⟩
set_option maxHeartbeats 400000 in
theorem nan60 (x : Int) (w : World) : Calls Try.prog 60 #[.int .i64 x] w fun e w' => e = .returned (.bool false) ∧ w' = w := by
  go_enter Try.func60, Try.ntmps60
  go_wp2
  go_ret
  exact ⟨ret_bool (by simp), rfl⟩
set_option maxHeartbeats 400000 in
theorem less_any (x y : Int) (w : World) : Calls Try.prog 45 #[.int .i64 x, .int .i64 y] w fun e w' => e = .returned (.bool (decide (x < y))) ∧ w' = w := by
  go_enter Try.func45, Try.ntmps45
  go_wp2_with (go_at_call 60; refine (nan60 _ _).mono ?_; rintro e w ⟨rfl, rfl⟩)
  go_ret
  exact ⟨ret_bool (by simp), rfl⟩

/-- Up to place i all lie below x, from there on none. -/
def CutAt (l : List Nat) (x : Int) (i : Nat) : Prop := i ≤ l.length ∧ (∀ p y : Nat, l[p]? = some y → p < i → (y : Int) < x) ∧ (∀ p y : Nat, l[p]? = some y → i ≤ p → x ≤ (y : Int))
def SeekPost (w : World) (l : List Nat) (x : Int) (e : Ending) (w' : World) : Prop := (∃ i : Nat, CutAt l x i ∧ e = .returned (.tuple #[.int .i64 (i : Int), .bool (decide (l[i]? = some x.toNat ∧ 0 ≤ x))])) ∧ w' = w
theorem pair_le {l : List Nat} (h : l.Pairwise (· < ·)) {p q y z : Nat} (hp : l[p]? = some y) (hq : l[q]? = some z) (hpq : p ≤ q) : y ≤ z := by
  by_cases he : p = q
  · subst he
    rw [hp] at hq
    injection hq with hq
    omega
  · obtain ⟨h1, rfl⟩ := List.getElem?_eq_some_iff.1 hp
    obtain ⟨h2, rfl⟩ := List.getElem?_eq_some_iff.1 hq
    have := List.pairwise_iff_getElem.1 h p q h1 h2 (by omega)
    omega

set_option maxRecDepth 100000 in
set_option maxHeartbeats 3200000 in
theorem search_any (g : Option Nat) (cap : Nat) (l : List Nat) (x : Int) (w : World) (hl : l.length ≤ 4611686018427387903) (h : NumsAt w g cap l) (hs : l.Pairwise (· < ·)) :
    Calls Try.prog 31 #[slV g l.length cap, .int .i64 x] w (SeekPost w l x) := by
  have HN := toHid h
  have HS := toHid hs
  clear h hs
  simp only [slV]
  go_enter Try.func31, Try.ntmps31
  go_wp2_with fail
  go_loopw [7, 8] (fun iv jv w' => ∃ i j : Nat, i ≤ j ∧ j ≤ l.length ∧ iv = .int .i64 (i : Int) ∧ jv = .int .i64 (j : Int) ∧ Hid ((∀ p y : Nat, l[p]? = some y → p < i → (y : Int) < x) ∧ (∀ p y : Nat, l[p]? = some y → j ≤ p → x ≤ (y : Int))) ∧ w' = w) (fun iv jv _ => (intOf jv).toNat - (intOf iv).toNat)
  case atStart => exact ⟨0, l.length, by omega, by omega, rfl, rfl, toHid ⟨fun p y _ hp => by omega, fun p y hp hq => by have := (List.getElem?_eq_some_iff.1 hp).1; omega⟩, rfl⟩
  case round =>
    obtain ⟨i, j, hij, hj, rfl, rfl, HI, rfl⟩ := hrel
    by_cases hlt : i < j
    · obtain ⟨m, hm⟩ : ∃ m, m = (i + j) / 2 := ⟨_, rfl⟩
      have hml : m < l.length := by omega
      obtain ⟨y, hy⟩ : ∃ y, l[m]? = some y := ⟨_, List.getElem?_eq_getElem hml⟩
      cases g with
      | none =>
        have := HN.out.none
        rw [this] at hml
        simp at hml
      | some b =>
        have hc := HN.out.cell hy
        simp only [Option.map_some]
        have z1 : (i : Int) < (j : Int) := by omega
        have hm2 : ((i : Int) + (j : Int)) / 2 = (m : Int) := by omega
        have z2 : (m : Int) < (l.length : Int) := by omega
        have hsh : ((i : Int) + (j : Int)).fdiv (2 ^ min (Int.toNat 1) IntKind.u64.bits) = (m : Int) := by
          rw [show min (Int.toNat 1) IntKind.u64.bits = 1 from rfl, Int.fdiv_eq_ediv_of_nonneg _ (by decide)]
          exact hm2
        have hm3 : i ≤ m := by omega
        have hm4 : m < j := by omega
        clear hm
        by_cases hyx : (y : Int) < x
        · have HI2 : Hid ((∀ p y : Nat, l[p]? = some y → p < m + 1 → (y : Int) < x) ∧ (∀ p y : Nat, l[p]? = some y → j ≤ p → x ≤ (y : Int))) := toHid ⟨fun p z hp hpm => by
            have := pair_le HS.out hp hy (by omega)
            omega, HI.out.2⟩
          have b1 : decide ((y : Int) < x) = true := by simpa using hyx
          clear HI hyx
          go_wp2_with (go_at_call 45; refine (less_any _ _ _).mono ?_; rintro e w ⟨rfl, rfl⟩)
          go_roundw
          case rel => exact ⟨m + 1, j, by omega, by omega, by go_num, rfl, HI2, trivial⟩
          case measure => simp [intOf]; omega
        · have HI2 : Hid ((∀ p y : Nat, l[p]? = some y → p < i → (y : Int) < x) ∧ (∀ p y : Nat, l[p]? = some y → m ≤ p → x ≤ (y : Int))) := toHid ⟨HI.out.1, fun p z hp hpm => by
            have := pair_le HS.out hy hp (by omega)
            omega⟩
          have b1 : decide ((y : Int) < x) = false := by simpa using hyx
          clear HI hyx
          go_wp2_with (go_at_call 45; refine (less_any _ _ _).mono ?_; rintro e w ⟨rfl, rfl⟩)
          go_roundw
          case rel => exact ⟨i, m, by omega, by omega, rfl, by go_num, HI2, trivial⟩
          case measure => simp [intOf]; omega
    · obtain rfl : i = j := by omega
      have HC : Hid (CutAt l x i) := toHid ⟨hj, HI.out⟩
      clear HI
      by_cases hil : i < l.length
      · obtain ⟨y, hy⟩ : ∃ y, l[i]? = some y := ⟨_, List.getElem?_eq_getElem hil⟩
        have HF : Hid (decide (l[i]? = some x.toNat ∧ 0 ≤ x) = ((y : Int) == x)) := toHid (by
          rw [hy, Bool.eq_iff_iff]
          simp only [decide_eq_true_eq, beq_iff_eq, Option.some.injEq]
          omega)
        cases g with
        | none =>
          have := HN.out.none
          rw [this] at hil
          simp at hil
        | some b =>
          have hc := HN.out.cell hy
          simp only [Option.map_some]
          have z2 : (i : Int) < (l.length : Int) := by omega
          cases hyx : ((y : Int) == x)
          all_goals go_wp2_with (go_at_call 46; refine (nan46 _ _).mono ?_; rintro e w ⟨rfl, rfl⟩)
          all_goals go_ret2
          all_goals exact ⟨⟨i, HC.out, by rw [HF.out, hyx]; rfl⟩, rfl⟩
      · have HF : Hid (decide (l[i]? = some x.toNat ∧ 0 ≤ x) = false) := toHid (by
          rw [List.getElem?_eq_none (by omega)]
          simp)
        have z2 : ¬ (i : Int) < (l.length : Int) := by omega
        go_wp2
        go_ret2
        exact ⟨⟨i, HC.out, by rw [HF.out]; rfl⟩, rfl⟩
end Go.Proofs.Ytpoliblfgioocaa
