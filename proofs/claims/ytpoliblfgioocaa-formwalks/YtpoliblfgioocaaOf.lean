/-
  The beginning of a slot's part (the reference's Of), pure and walked.
-/
import Derived.Test.YtpoliblfgioocaaWays
namespace Go.Proofs.Ytpoliblfgioocaa
open Go.RowKit

/-- The last of the numbers that is not above x; 0 if there is none. -/
def ofP (l : List Nat) (x : Int) : Nat := l.foldl (fun best p : Nat => if (p : Int) ≤ x then p else best) 0
theorem ofP_take {l : List Nat} {k y : Nat} (x : Int) (h : l[k]? = some y) : ofP (l.take (k + 1)) x = if (y : Int) ≤ x then y else ofP (l.take k) x := by
  unfold ofP
  rw [List.take_add_one, h]
  simp [List.foldl_append]

set_option maxRecDepth 100000 in
set_option maxHeartbeats 1600000 in
theorem of_any (g : Option Nat) (cap : Nat) (l : List Nat) (x : Int) (w : World) (hl : l.length ≤ 4611686018427387904) (h : NumsAt w g cap l) :
    Calls Try.prog 25 #[slV g l.length cap, .int .i64 x] w fun e w' => e = .returned (.int .i64 (ofP l x : Int)) ∧ w' = w := by
  have HN := toHid h
  clear h
  simp only [slV]
  go_enter Try.func25, Try.ntmps25
  go_wp2_with fail
  go_loopw [5, 10] (fun bv kv w' => ∃ k m : Nat, bv = .int .i64 (m : Int) ∧ kv = .int .i64 (k : Int) ∧ k ≤ l.length ∧ Hid (m = ofP (l.take k) x) ∧ w' = w) (fun _ kv _ => l.length - (intOf kv).toNat)
  case atStart => exact ⟨0, 0, rfl, rfl, by omega, toHid rfl, rfl⟩
  case round =>
    obtain ⟨k, m, rfl, rfl, hk, HM, rfl⟩ := hrel
    by_cases hkl : k < l.length
    · obtain ⟨y, hy⟩ : ∃ y, l[k]? = some y := ⟨_, List.getElem?_eq_getElem hkl⟩
      have HO := toHid (ofP_take x hy)
      cases g with
      | none =>
        have := (show NumsAt wr none cap l from HN).none
        rw [this] at hkl
        simp at hkl
      | some b =>
        have hc := (show NumsAt wr (some b) cap l from HN).cell hy
        have k1 : (k : Int) < (l.length : Int) := by omega
        simp only [Option.map_some]
        by_cases he : (y : Int) ≤ x
        · have HM2 : Hid (y = ofP (l.take (k + 1)) x) := toHid (by rw [show ofP (l.take (k + 1)) x = _ from HO, if_pos he])
          clear HM HO hy
          go_wp2
          go_roundw
          case rel => exact ⟨k + 1, y, rfl, by go_num, by omega, HM2, trivial⟩
          case measure => simp [intOf]; try omega
        · have HM2 : Hid (m = ofP (l.take (k + 1)) x) := toHid (by rw [show ofP (l.take (k + 1)) x = _ from HO, if_neg he]; exact HM)
          clear HM HO hy
          go_wp2
          go_roundw
          case rel => exact ⟨k + 1, m, rfl, by go_num, by omega, HM2, trivial⟩
          case measure => simp [intOf]; try omega
    · have k1 : ¬ (k : Int) < (l.length : Int) := by omega
      have hm : m = ofP l x := (show m = _ from HM).trans (by rw [List.take_of_length_le (by omega)])
      have HM3 := toHid hm
      clear HM hm
      go_wp2
      go_ret
      refine ⟨?_, rfl⟩
      rw [← show m = ofP l x from HM3]
      rfl
end Go.Proofs.Ytpoliblfgioocaa
