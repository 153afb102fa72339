/-
  What the reference's value and reg answer.
-/
import Derived.Test.YthlfnmjefpdjgaaGreatDoorRValP
import Derived.Test.YthlfnmjefpdjgaaGreatDoorRWords
import Derived.Deep.CutRange
namespace Go.Proofs.YthlfnmjefpdjgaaGreatDoor
open Go.RowKit

theorem digF_step (M : Nat) (s : Bs) (i n : Nat) (ch : UInt8) (h : s[i]? = some ch) : digF M n (s.drop i) = if ch.toNat < 48 ∨ 57 < ch.toNat then none else if M < 10 * n + (ch.toNat - 48) then none else digF M (10 * n + (ch.toNat - 48)) (s.drop (i + 1)) := by
  obtain ⟨h1, h2⟩ := List.getElem?_eq_some_iff.1 h
  rw [List.drop_eq_getElem_cons h1, h2, digF]
/-- What value answers of digits that stand alone. -/
def ValPost (w : World) (r : Option Nat) (e : Ending) (w' : World) : Prop := w' = w ∧ match r with
  | none => e = .returned (.tuple #[.int .i64 0, .int .u64 0, .bool false])
  | some n => e = .returned (.tuple #[.int .i64 (wrap64 (n : Int)), .int .u64 (n : Int), .bool true])

set_option maxRecDepth 100000 in
set_option maxHeartbeats 4000000 in
theorem rvalue_u (s : Bs) (M : Nat) (w : World) (hs : s.length ≤ 1073741824) (h9 : 9 ≤ M) (hM : M < 18446744073709551616) :
    Calls Tryz.prog 44 #[.string ⟨s.toArray⟩, .bool false, .int .u64 (M : Int)] w (ValPost w (valU M s)) := by
  by_cases hbad : s = [] ∨ (1 < s.length ∧ s.head? = some 48)
  · have HR := toHid (show valU M s = none by unfold valU; rw [if_pos hbad])
    rcases hbad with rfl | ⟨h1, h2⟩
    · go_enter Tryz.func44, Tryz.ntmps44
      go_wp2
      refine bodyPost_ret (v := .tuple #[.int .i64 0, .int .u64 0, .bool false]) (by simp [results, Tryz.results44, go_sem]) rfl ⟨rfl, ?_⟩
      rw [show valU M _ = _ from HR]
    · have hget : ∀ h, (⟨s.toArray⟩ : ByteArray)[0]'h = 48 := fun h => by
        cases s with
        | nil => simp at h1
        | cons c r => simp only [List.head?_cons, Option.some.injEq] at h2; exact h2
      have hn0 : ¬ s.length = 0 := by omega
      have hn1 : (1 : Int) < (s.length : Int) := by omega
      clear h2
      go_enter Tryz.func44, Tryz.ntmps44
      go_wp2
      refine bodyPost_ret (v := .tuple #[.int .i64 0, .int .u64 0, .bool false]) (by simp [results, Tryz.results44, go_sem]) rfl ⟨rfl, ?_⟩
      rw [show valU M _ = _ from HR]
  · have hl0 : s ≠ [] := fun e => hbad (Or.inl e)
    have hl1 : 0 < s.length := List.length_pos_iff.2 hl0
    have HV : Hid (valU M s = digF M 0 s) := toHid (by unfold valU; rw [if_neg hbad])
    obtain ⟨c0, hc0⟩ : ∃ c, s[0]? = some c := ⟨_, List.getElem?_eq_getElem hl1⟩
    have hget : ∀ h, (⟨s.toArray⟩ : ByteArray)[0]'h = c0 := fun h => by
      obtain ⟨h1, h2⟩ := List.getElem?_eq_some_iff.1 hc0
      exact h2
    have hn0 : ¬ s.length = 0 := by omega
    have hor : s.length = 1 ∨ 1 < s.length ∧ ¬ c0 = 48 := by
      by_cases h1 : s.length = 1
      · exact Or.inl h1
      · refine Or.inr ⟨by omega, fun e => hbad (Or.inr ⟨by omega, ?_⟩)⟩
        rw [List.head?_eq_getElem?, hc0, e]
    clear hbad hl0 hc0
    rcases hor with h1 | ⟨h1, h2⟩
    · have hn1 : ¬ (1 : Int) < (s.length : Int) := by omega
      go_enter Tryz.func44, Tryz.ntmps44
      go_wp2_with fail
      skip
      go_loopw [10, 11] (fun nv iv w' => ∃ (n i : Nat), nv = .int .u64 (n : Int) ∧ iv = .int .i64 (i : Int) ∧ n ≤ M ∧ i ≤ s.length ∧ Hid (digF (M) 0 s = digF (M) n (s.drop i)) ∧ w' = w) (fun _ iv _ => s.length - (intOf iv).toNat)
      case atStart => exact ⟨0, 0, rfl, rfl, by omega, by omega, rfl, rfl⟩
      case round =>
        obtain ⟨n, i, rfl, rfl, hn, hi, HD, rfl⟩ := hrel
        by_cases hlt : i < s.length
        · obtain ⟨ch, hch⟩ : ∃ ch, s[i]? = some ch := ⟨_, List.getElem?_eq_getElem hlt⟩
          have hgi : ∀ h, (⟨s.toArray⟩ : ByteArray)[i]'h = ch := fun h => by
            obtain ⟨h1, h2⟩ := List.getElem?_eq_some_iff.1 hch
            exact h2
          have HS := toHid ((show digF (M) 0 s = _ from HD).trans (digF_step (M) s i n ch hch))
          have hc8 : ch.toNat < 256 := UInt8.toNat_lt ch
          by_cases hdg : ch.toNat < 48 ∨ 57 < ch.toNat
          · have HN := toHid (show digF (M) 0 s = none from (show digF (M) 0 s = _ from HS).trans (by rw [if_pos hdg]))
            clear HD HS hch
            rcases hdg with hdg | hdg
            · have d1 : (ch.toNat : Int) < 48 := by omega
              go_wp2
              refine bodyPost_ret (v := .tuple #[.int .i64 0, .int .u64 0, .bool false]) (by simp [results, Tryz.results44, go_sem]) rfl ⟨rfl, ?_⟩
              rw [show valU M s = _ from (show valU M s = _ from HV).trans HN]
              try rfl
            · have d1 : (48 : Int) ≤ (ch.toNat : Int) := by omega
              have d2 : (57 : Int) < (ch.toNat : Int) := by omega
              go_wp2
              refine bodyPost_ret (v := .tuple #[.int .i64 0, .int .u64 0, .bool false]) (by simp [results, Tryz.results44, go_sem]) rfl ⟨rfl, ?_⟩
              rw [show valU M s = _ from (show valU M s = _ from HV).trans HN]
              try rfl
          · have d1 : (48 : Int) ≤ (ch.toNat : Int) := by omega
            have d2 : (ch.toNat : Int) ≤ 57 := by omega
            by_cases hov : M < 10 * n + (ch.toNat - 48)
            · have HN := toHid (show digF (M) 0 s = none from (show digF (M) 0 s = _ from HS).trans (by rw [if_neg hdg, if_pos hov]))
              have d3 : (((M : Nat) : Int) - ((ch.toNat : Int) - 48)) / 10 < (n : Int) := by omega
              clear HD HS hch
              go_wp2
              refine bodyPost_ret (v := .tuple #[.int .i64 0, .int .u64 0, .bool false]) (by simp [results, Tryz.results44, go_sem]) rfl ⟨rfl, ?_⟩
              rw [show valU M s = _ from (show valU M s = _ from HV).trans HN]
              try rfl
            · have HN := toHid (show digF (M) 0 s = digF (M) (10 * n + (ch.toNat - 48)) (s.drop (i + 1)) from (show digF (M) 0 s = _ from HS).trans (by rw [if_neg hdg, if_neg hov]))
              have d3 : (n : Int) ≤ (((M : Nat) : Int) - ((ch.toNat : Int) - 48)) / 10 := by omega
              have d4 : (ch.toNat : Int) - 48 ≤ ((M : Nat) : Int) := by omega
              clear HD HS hch
              go_wp2
              go_roundw
              case rel => exact ⟨10 * n + (ch.toNat - 48), i + 1, by congr 1; omega, by go_num, by omega, by omega, HN, by trivial⟩
              case measure => simp [intOf]; try omega
        · obtain rfl : i = s.length := by omega
          have HN := toHid (show digF (M) 0 s = some n from (show digF (M) 0 s = _ from HD).trans (by rw [List.drop_length]; rfl))
          clear HD
          go_wp2
          refine bodyPost_ret (v := .tuple #[.int .i64 (wrap64 (n : Int)), .int .u64 (n : Int), .bool true]) (by simp [results, Tryz.results44, go_sem]) rfl ⟨rfl, ?_⟩
          rw [show valU M s = _ from (show valU M s = _ from HV).trans HN]
    · have hn1 : (1 : Int) < (s.length : Int) := by omega
      have hz : ((s.length : Int) == 0) = false := by simpa using hn0
      have hc48 : ¬ (c0.toNat : Int) = 48 := fun e => h2 (UInt8.toNat_inj.1 (show c0.toNat = 48 by omega))
      have hb48 : ((c0.toNat : Int) == 48) = false := by simpa using hc48
      clear h2
      go_enter Tryz.func44, Tryz.ntmps44
      go_wp2_with fail
      skip
      go_loopw [10, 11] (fun nv iv w' => ∃ (n i : Nat), nv = .int .u64 (n : Int) ∧ iv = .int .i64 (i : Int) ∧ n ≤ M ∧ i ≤ s.length ∧ Hid (digF (M) 0 s = digF (M) n (s.drop i)) ∧ w' = w) (fun _ iv _ => s.length - (intOf iv).toNat)
      case atStart => exact ⟨0, 0, rfl, rfl, by omega, by omega, rfl, rfl⟩
      case round =>
        obtain ⟨n, i, rfl, rfl, hn, hi, HD, rfl⟩ := hrel
        by_cases hlt : i < s.length
        · obtain ⟨ch, hch⟩ : ∃ ch, s[i]? = some ch := ⟨_, List.getElem?_eq_getElem hlt⟩
          have hgi : ∀ h, (⟨s.toArray⟩ : ByteArray)[i]'h = ch := fun h => by
            obtain ⟨h1, h2⟩ := List.getElem?_eq_some_iff.1 hch
            exact h2
          have HS := toHid ((show digF (M) 0 s = _ from HD).trans (digF_step (M) s i n ch hch))
          have hc8 : ch.toNat < 256 := UInt8.toNat_lt ch
          by_cases hdg : ch.toNat < 48 ∨ 57 < ch.toNat
          · have HN := toHid (show digF (M) 0 s = none from (show digF (M) 0 s = _ from HS).trans (by rw [if_pos hdg]))
            clear HD HS hch
            rcases hdg with hdg | hdg
            · have d1 : (ch.toNat : Int) < 48 := by omega
              go_wp2
              refine bodyPost_ret (v := .tuple #[.int .i64 0, .int .u64 0, .bool false]) (by simp [results, Tryz.results44, go_sem]) rfl ⟨rfl, ?_⟩
              rw [show valU M s = _ from (show valU M s = _ from HV).trans HN]
              try rfl
            · have d1 : (48 : Int) ≤ (ch.toNat : Int) := by omega
              have d2 : (57 : Int) < (ch.toNat : Int) := by omega
              go_wp2
              refine bodyPost_ret (v := .tuple #[.int .i64 0, .int .u64 0, .bool false]) (by simp [results, Tryz.results44, go_sem]) rfl ⟨rfl, ?_⟩
              rw [show valU M s = _ from (show valU M s = _ from HV).trans HN]
              try rfl
          · have d1 : (48 : Int) ≤ (ch.toNat : Int) := by omega
            have d2 : (ch.toNat : Int) ≤ 57 := by omega
            by_cases hov : M < 10 * n + (ch.toNat - 48)
            · have HN := toHid (show digF (M) 0 s = none from (show digF (M) 0 s = _ from HS).trans (by rw [if_neg hdg, if_pos hov]))
              have d3 : (((M : Nat) : Int) - ((ch.toNat : Int) - 48)) / 10 < (n : Int) := by omega
              clear HD HS hch
              go_wp2
              refine bodyPost_ret (v := .tuple #[.int .i64 0, .int .u64 0, .bool false]) (by simp [results, Tryz.results44, go_sem]) rfl ⟨rfl, ?_⟩
              rw [show valU M s = _ from (show valU M s = _ from HV).trans HN]
              try rfl
            · have HN := toHid (show digF (M) 0 s = digF (M) (10 * n + (ch.toNat - 48)) (s.drop (i + 1)) from (show digF (M) 0 s = _ from HS).trans (by rw [if_neg hdg, if_neg hov]))
              have d3 : (n : Int) ≤ (((M : Nat) : Int) - ((ch.toNat : Int) - 48)) / 10 := by omega
              have d4 : (ch.toNat : Int) - 48 ≤ ((M : Nat) : Int) := by omega
              clear HD HS hch
              go_wp2
              go_roundw
              case rel => exact ⟨10 * n + (ch.toNat - 48), i + 1, by congr 1; omega, by go_num, by omega, by omega, HN, by trivial⟩
              case measure => simp [intOf]; try omega
        · obtain rfl : i = s.length := by omega
          have HN := toHid (show digF (M) 0 s = some n from (show digF (M) 0 s = _ from HD).trans (by rw [List.drop_length]; rfl))
          clear HD
          go_wp2
          refine bodyPost_ret (v := .tuple #[.int .i64 (wrap64 (n : Int)), .int .u64 (n : Int), .bool true]) (by simp [results, Tryz.results44, go_sem]) rfl ⟨rfl, ?_⟩
          rw [show valU M s = _ from (show valU M s = _ from HV).trans HN]

theorem w64_small (n : Nat) (h : n < 9223372036854775808) : wrap64 (n : Int) = n := by
  unfold wrap64
  omega
theorem neg_back (n : Nat) (h1 : 1 ≤ n) (h2 : n ≤ 4294967296) : wrap64 (wrap64 (-wrap64 (IntKind.u64.wrap ((n : Int) - 1))) - 1) = -(n : Int) := by
  rw [IntKind.wrap_u64]
  unfold wrap64
  omega
/-- What value answers of a word that may bear a sign. -/
def ValSPost (w : World) (r : Option Int) (e : Ending) (w' : World) : Prop := w' = w ∧ match r with
  | none => e = .returned (.tuple #[.int .i64 0, .int .u64 0, .bool false])
  | some v => ∃ u : Int, e = .returned (.tuple #[.int .i64 v, .int .u64 u, .bool true])

set_option maxRecDepth 100000 in
set_option maxHeartbeats 4000000 in
theorem rvalue_s (s : Bs) (M : Nat) (w : World) (hs : s.length ≤ 1073741824) (h9 : 9 ≤ M) (hM : M < 4294967296) :
    Calls Tryz.prog 44 #[.string ⟨s.toArray⟩, .bool true, .int .u64 (M : Int)] w (ValSPost w (valS M s)) := by
  by_cases hmin : 1 < s.length ∧ s.head? = some 45
  · obtain ⟨r, hr⟩ : ∃ r, s = 45 :: r := by
      obtain ⟨h1, h2⟩ := hmin
      cases s with
      | nil => cases h2
      | cons c r => simp only [List.head?_cons, Option.some.injEq] at h2; exact ⟨r, by rw [h2]⟩
    have hrl : s.length = r.length + 1 := by rw [hr]; rfl
    have hr0 : 0 < r.length := by omega
    have hx : (⟨s.toArray⟩ : ByteArray).extract 1 s.length = ⟨r.toArray⟩ := by
      rw [extract_ba, hr]; simp
    have hx' : (⟨s.toArray⟩ : ByteArray).extract 1 (r.length + 1) = ⟨r.toArray⟩ := by rw [← hrl]; exact hx
    have hget0 : ∀ h, (⟨s.toArray⟩ : ByteArray)[0]'h = 45 := fun h => by subst hr; rfl
    have hvs : valS M s = if r = [48] then none else Option.map (fun n : Nat => -(n : Int)) (valU (M + 1) r) := by
      unfold valS
      rw [if_pos hmin]
      subst hr
      rfl
    obtain ⟨c0, hc0⟩ : ∃ c, r[0]? = some c := ⟨_, List.getElem?_eq_getElem hr0⟩
    have hget : ∀ h, (⟨r.toArray⟩ : ByteArray)[0]'h = c0 := fun h => by
      obtain ⟨h1, h2⟩ := List.getElem?_eq_some_iff.1 hc0
      exact h2
    have hn1 : (1 : Int) < (s.length : Int) := by omega
    have hn1' : (0 : Int) < (r.length : Int) := by omega
    have hz : ((r.length : Int) == 0) = false := beq_eq_false_iff_ne.2 (by omega)
    by_cases hb1 : 1 < r.length ∧ c0 = 48
    · have HR := toHid (show valS M s = none by
        rw [hvs]
        split
        · rfl
        · rw [valU, if_pos (Or.inr ⟨hb1.1, by rw [List.head?_eq_getElem?, hc0, hb1.2]⟩)]; rfl)
      obtain ⟨h1, rfl⟩ := hb1
      have hr1 : (1 : Int) < (r.length : Int) := by omega
      clear hvs hr hmin hc0
      go_enter Tryz.func44, Tryz.ntmps44
      go_wp2
      refine bodyPost_ret (v := .tuple #[.int .i64 0, .int .u64 0, .bool false]) (by simp [results, Tryz.results44, go_sem]) rfl ⟨rfl, ?_⟩
      rw [show valS M _ = _ from HR]
    · by_cases hb2 : r = [48]
      · have HR := toHid (show valS M s = none by rw [hvs, if_pos hb2])
        subst hb2
        clear hvs hr hmin hc0 hget hb1
        have hrl2 : s.length = 2 := hrl
        have hx2 : (⟨s.toArray⟩ : ByteArray).extract 1 2 = ⟨#[48]⟩ := hx'
        clear hrl hx hx' hz
        go_enter Tryz.func44, Tryz.ntmps44
        go_wp2
        refine bodyPost_ret (v := .tuple #[.int .i64 0, .int .u64 0, .bool false]) (by simp [results, Tryz.results44, go_sem]) rfl ⟨rfl, ?_⟩
        rw [show valS M _ = _ from HR]
      · have hne : ¬ (r = [] ∨ (1 < r.length ∧ r.head? = some 48)) := by
          rintro (h | ⟨h1, h2⟩)
          · rw [h] at hr0; simp at hr0
          · rw [List.head?_eq_getElem?, hc0] at h2
            exact hb1 ⟨h1, by simpa using h2⟩
        have hvu : valU (M + 1) r = digF (M + 1) 0 r := by unfold valU; rw [if_neg hne]
        have HV : Hid (valS M s = Option.map (fun n : Nat => -(n : Int)) (digF (M + 1) 0 r)) := toHid (by rw [hvs, if_neg hb2, hvu])
        have HPOS : Hid (∀ n, digF (M + 1) 0 r = some n → 1 ≤ n) := toHid (fun n hn => by
          rw [← hvu] at hn
          obtain ⟨h1, _⟩ := (valU_iff _ _ _).1 hn
          rcases Nat.eq_zero_or_pos n with rfl | h
          · rw [Lib.decDigits_one (by omega)] at h1; exact absurd h1 hb2
          · exact h)
        have hb2' : (r == [48]) = false := beq_eq_false_iff_ne.2 hb2
        clear hvs hr hmin hc0 hvu hne hb2
        have hor : r.length = 1 ∨ 1 < r.length ∧ ¬ c0 = 48 := by
          by_cases h1 : r.length = 1
          · exact Or.inl h1
          · exact Or.inr ⟨by omega, fun e => hb1 ⟨by omega, e⟩⟩
        clear hb1
        rcases hor with h1 | ⟨h1, h2⟩
        · have hx2 : (⟨s.toArray⟩ : ByteArray).extract 1 2 = ⟨r.toArray⟩ := by rw [h1] at hx'; exact hx'
          go_enter Tryz.func44, Tryz.ntmps44
          go_wp2_with fail
          skip
          go_loopw [10, 11] (fun nv iv w' => ∃ (n i : Nat), nv = .int .u64 (n : Int) ∧ iv = .int .i64 (i : Int) ∧ n ≤ M + 1 ∧ i ≤ r.length ∧ Hid (digF (M + 1) 0 r = digF (M + 1) n (r.drop i)) ∧ w' = w) (fun _ iv _ => r.length - (intOf iv).toNat)
          case atStart => exact ⟨0, 0, rfl, rfl, by omega, by omega, rfl, rfl⟩
          case round =>
            obtain ⟨n, i, rfl, rfl, hn, hi, HD, rfl⟩ := hrel
            by_cases hlt : i < r.length
            · obtain ⟨ch, hch⟩ : ∃ ch, r[i]? = some ch := ⟨_, List.getElem?_eq_getElem hlt⟩
              have hgi : ∀ h, (⟨r.toArray⟩ : ByteArray)[i]'h = ch := fun h => by
                obtain ⟨h1, h2⟩ := List.getElem?_eq_some_iff.1 hch
                exact h2
              have HS := toHid ((show digF (M + 1) 0 r = _ from HD).trans (digF_step (M + 1) r i n ch hch))
              have hc8 : ch.toNat < 256 := UInt8.toNat_lt ch
              by_cases hdg : ch.toNat < 48 ∨ 57 < ch.toNat
              · have HN := toHid (show digF (M + 1) 0 r = none from (show digF (M + 1) 0 r = _ from HS).trans (by rw [if_pos hdg]))
                clear HD HS hch
                rcases hdg with hdg | hdg
                · have d1 : (ch.toNat : Int) < 48 := by omega
                  go_wp2
                  refine bodyPost_ret (v := .tuple #[.int .i64 0, .int .u64 0, .bool false]) (by simp [results, Tryz.results44, go_sem]) rfl ⟨rfl, ?_⟩
                  rw [show valS M s = _ from (show valS M s = _ from HV).trans (by rw [show digF (M + 1) 0 r = _ from HN]; try rfl)]
                  try rfl
                · have d1 : (48 : Int) ≤ (ch.toNat : Int) := by omega
                  have d2 : (57 : Int) < (ch.toNat : Int) := by omega
                  go_wp2
                  refine bodyPost_ret (v := .tuple #[.int .i64 0, .int .u64 0, .bool false]) (by simp [results, Tryz.results44, go_sem]) rfl ⟨rfl, ?_⟩
                  rw [show valS M s = _ from (show valS M s = _ from HV).trans (by rw [show digF (M + 1) 0 r = _ from HN]; try rfl)]
                  try rfl
              · have d1 : (48 : Int) ≤ (ch.toNat : Int) := by omega
                have d2 : (ch.toNat : Int) ≤ 57 := by omega
                by_cases hov : M + 1 < 10 * n + (ch.toNat - 48)
                · have HN := toHid (show digF (M + 1) 0 r = none from (show digF (M + 1) 0 r = _ from HS).trans (by rw [if_neg hdg, if_pos hov]))
                  have d3 : (((M + 1 : Nat) : Int) - ((ch.toNat : Int) - 48)) / 10 < (n : Int) := by omega
                  clear HD HS hch
                  go_wp2
                  refine bodyPost_ret (v := .tuple #[.int .i64 0, .int .u64 0, .bool false]) (by simp [results, Tryz.results44, go_sem]) rfl ⟨rfl, ?_⟩
                  rw [show valS M s = _ from (show valS M s = _ from HV).trans (by rw [show digF (M + 1) 0 r = _ from HN]; try rfl)]
                  try rfl
                · have HN := toHid (show digF (M + 1) 0 r = digF (M + 1) (10 * n + (ch.toNat - 48)) (r.drop (i + 1)) from (show digF (M + 1) 0 r = _ from HS).trans (by rw [if_neg hdg, if_neg hov]))
                  have d3 : (n : Int) ≤ (((M + 1 : Nat) : Int) - ((ch.toNat : Int) - 48)) / 10 := by omega
                  have d4 : (ch.toNat : Int) - 48 ≤ ((M + 1 : Nat) : Int) := by omega
                  clear HD HS hch
                  go_wp2
                  go_roundw
                  case rel => exact ⟨10 * n + (ch.toNat - 48), i + 1, by congr 1; omega, by go_num, by omega, by omega, HN, by trivial⟩
                  case measure => simp [intOf]; try omega
            · obtain rfl : i = r.length := by omega
              have HN := toHid (show digF (M + 1) 0 r = some n from (show digF (M + 1) 0 r = _ from HD).trans (by rw [List.drop_length]; rfl))
              clear HD
              go_wp2
              have hn1 : 1 ≤ n := (show ∀ n, digF (M + 1) 0 r = some n → 1 ≤ n from HPOS) n HN
              refine bodyPost_ret (v := .tuple #[.int .i64 (-(n : Int)), .int .u64 (n : Int), .bool true]) ?_ rfl ⟨rfl, ?_⟩
              · simp [results, Tryz.results44, go_sem]
                exact neg_back n hn1 (by omega)
              · rw [show valS M s = _ from (show valS M s = _ from HV).trans (by rw [show digF (M + 1) 0 r = _ from HN]; try rfl)]
                exact ⟨_, rfl⟩
        · have hn2 : (1 : Int) < (r.length : Int) := by omega
          have hc48 : ¬ (c0.toNat : Int) = 48 := fun e => h2 (UInt8.toNat_inj.1 (show c0.toNat = 48 by omega))
          have hb48 : ((c0.toNat : Int) == 48) = false := by simpa using hc48
          clear h2
          go_enter Tryz.func44, Tryz.ntmps44
          go_wp2_with fail
          skip
          go_loopw [10, 11] (fun nv iv w' => ∃ (n i : Nat), nv = .int .u64 (n : Int) ∧ iv = .int .i64 (i : Int) ∧ n ≤ M + 1 ∧ i ≤ r.length ∧ Hid (digF (M + 1) 0 r = digF (M + 1) n (r.drop i)) ∧ w' = w) (fun _ iv _ => r.length - (intOf iv).toNat)
          case atStart => exact ⟨0, 0, rfl, rfl, by omega, by omega, rfl, rfl⟩
          case round =>
            obtain ⟨n, i, rfl, rfl, hn, hi, HD, rfl⟩ := hrel
            by_cases hlt : i < r.length
            · obtain ⟨ch, hch⟩ : ∃ ch, r[i]? = some ch := ⟨_, List.getElem?_eq_getElem hlt⟩
              have hgi : ∀ h, (⟨r.toArray⟩ : ByteArray)[i]'h = ch := fun h => by
                obtain ⟨h1, h2⟩ := List.getElem?_eq_some_iff.1 hch
                exact h2
              have HS := toHid ((show digF (M + 1) 0 r = _ from HD).trans (digF_step (M + 1) r i n ch hch))
              have hc8 : ch.toNat < 256 := UInt8.toNat_lt ch
              by_cases hdg : ch.toNat < 48 ∨ 57 < ch.toNat
              · have HN := toHid (show digF (M + 1) 0 r = none from (show digF (M + 1) 0 r = _ from HS).trans (by rw [if_pos hdg]))
                clear HD HS hch
                rcases hdg with hdg | hdg
                · have d1 : (ch.toNat : Int) < 48 := by omega
                  go_wp2
                  refine bodyPost_ret (v := .tuple #[.int .i64 0, .int .u64 0, .bool false]) (by simp [results, Tryz.results44, go_sem]) rfl ⟨rfl, ?_⟩
                  rw [show valS M s = _ from (show valS M s = _ from HV).trans (by rw [show digF (M + 1) 0 r = _ from HN]; try rfl)]
                  try rfl
                · have d1 : (48 : Int) ≤ (ch.toNat : Int) := by omega
                  have d2 : (57 : Int) < (ch.toNat : Int) := by omega
                  go_wp2
                  refine bodyPost_ret (v := .tuple #[.int .i64 0, .int .u64 0, .bool false]) (by simp [results, Tryz.results44, go_sem]) rfl ⟨rfl, ?_⟩
                  rw [show valS M s = _ from (show valS M s = _ from HV).trans (by rw [show digF (M + 1) 0 r = _ from HN]; try rfl)]
                  try rfl
              · have d1 : (48 : Int) ≤ (ch.toNat : Int) := by omega
                have d2 : (ch.toNat : Int) ≤ 57 := by omega
                by_cases hov : M + 1 < 10 * n + (ch.toNat - 48)
                · have HN := toHid (show digF (M + 1) 0 r = none from (show digF (M + 1) 0 r = _ from HS).trans (by rw [if_neg hdg, if_pos hov]))
                  have d3 : (((M + 1 : Nat) : Int) - ((ch.toNat : Int) - 48)) / 10 < (n : Int) := by omega
                  clear HD HS hch
                  go_wp2
                  refine bodyPost_ret (v := .tuple #[.int .i64 0, .int .u64 0, .bool false]) (by simp [results, Tryz.results44, go_sem]) rfl ⟨rfl, ?_⟩
                  rw [show valS M s = _ from (show valS M s = _ from HV).trans (by rw [show digF (M + 1) 0 r = _ from HN]; try rfl)]
                  try rfl
                · have HN := toHid (show digF (M + 1) 0 r = digF (M + 1) (10 * n + (ch.toNat - 48)) (r.drop (i + 1)) from (show digF (M + 1) 0 r = _ from HS).trans (by rw [if_neg hdg, if_neg hov]))
                  have d3 : (n : Int) ≤ (((M + 1 : Nat) : Int) - ((ch.toNat : Int) - 48)) / 10 := by omega
                  have d4 : (ch.toNat : Int) - 48 ≤ ((M + 1 : Nat) : Int) := by omega
                  clear HD HS hch
                  go_wp2
                  go_roundw
                  case rel => exact ⟨10 * n + (ch.toNat - 48), i + 1, by congr 1; omega, by go_num, by omega, by omega, HN, by trivial⟩
                  case measure => simp [intOf]; try omega
            · obtain rfl : i = r.length := by omega
              have HN := toHid (show digF (M + 1) 0 r = some n from (show digF (M + 1) 0 r = _ from HD).trans (by rw [List.drop_length]; rfl))
              clear HD
              go_wp2
              have hn1 : 1 ≤ n := (show ∀ n, digF (M + 1) 0 r = some n → 1 ≤ n from HPOS) n HN
              refine bodyPost_ret (v := .tuple #[.int .i64 (-(n : Int)), .int .u64 (n : Int), .bool true]) ?_ rfl ⟨rfl, ?_⟩
              · simp [results, Tryz.results44, go_sem]
                exact neg_back n hn1 (by omega)
              · rw [show valS M s = _ from (show valS M s = _ from HV).trans (by rw [show digF (M + 1) 0 r = _ from HN]; try rfl)]
                exact ⟨_, rfl⟩
  · have hvs : valS M s = Option.map (fun n : Nat => (n : Int)) (valU M s) := by unfold valS; rw [if_neg hmin]
    by_cases hbad : s = [] ∨ (1 < s.length ∧ s.head? = some 48)
    · have HR := toHid (show valS M s = none by rw [hvs, valU, if_pos hbad]; rfl)
      rcases hbad with rfl | ⟨h1, h2⟩
      · clear hvs hmin
        go_enter Tryz.func44, Tryz.ntmps44
        go_wp2
        refine bodyPost_ret (v := .tuple #[.int .i64 0, .int .u64 0, .bool false]) (by simp [results, Tryz.results44, go_sem]) rfl ⟨rfl, ?_⟩
        rw [show valS M _ = _ from HR]
      · have hget : ∀ h, (⟨s.toArray⟩ : ByteArray)[0]'h = 48 := fun h => by
          cases s with
          | nil => simp at h1
          | cons c r => simp only [List.head?_cons, Option.some.injEq] at h2; exact h2
        have hn1 : (1 : Int) < (s.length : Int) := by omega
        have hz : ((s.length : Int) == 0) = false := beq_eq_false_iff_ne.2 (by omega)
        clear h2 hvs hmin
        go_enter Tryz.func44, Tryz.ntmps44
        go_wp2
        refine bodyPost_ret (v := .tuple #[.int .i64 0, .int .u64 0, .bool false]) (by simp [results, Tryz.results44, go_sem]) rfl ⟨rfl, ?_⟩
        rw [show valS M _ = _ from HR]
    · have hl0 : s ≠ [] := fun e => hbad (Or.inl e)
      have hl1 : 0 < s.length := List.length_pos_iff.2 hl0
      have HV : Hid (valS M s = Option.map (fun n : Nat => (n : Int)) (digF M 0 s)) := toHid (by rw [hvs, valU, if_neg hbad])
      obtain ⟨c0, hc0⟩ : ∃ c, s[0]? = some c := ⟨_, List.getElem?_eq_getElem hl1⟩
      have hget : ∀ h, (⟨s.toArray⟩ : ByteArray)[0]'h = c0 := fun h => by
        obtain ⟨h1, h2⟩ := List.getElem?_eq_some_iff.1 hc0
        exact h2
      have hz : ((s.length : Int) == 0) = false := beq_eq_false_iff_ne.2 (by omega)
      have hor : s.length = 1 ∨ 1 < s.length ∧ ¬ c0 = 48 ∧ ¬ c0 = 45 := by
        by_cases h1 : s.length = 1
        · exact Or.inl h1
        · refine Or.inr ⟨by omega, fun e => hbad (Or.inr ⟨by omega, ?_⟩), fun e => hmin ⟨by omega, ?_⟩⟩
          · rw [List.head?_eq_getElem?, hc0, e]
          · rw [List.head?_eq_getElem?, hc0, e]
      clear hbad hl0 hc0 hmin hvs
      rcases hor with h1 | ⟨h1, h2, h3⟩
      · have hn1 : ¬ (1 : Int) < (s.length : Int) := by omega
        go_enter Tryz.func44, Tryz.ntmps44
        go_wp2_with fail
        skip
        go_loopw [10, 11] (fun nv iv w' => ∃ (n i : Nat), nv = .int .u64 (n : Int) ∧ iv = .int .i64 (i : Int) ∧ n ≤ M ∧ i ≤ s.length ∧ Hid (digF (M) 0 s = digF (M) n (s.drop i)) ∧ w' = w) (fun _ iv _ => s.length - (intOf iv).toNat)
        case atStart => exact ⟨0, 0, rfl, rfl, by omega, by omega, rfl, rfl⟩
        case round =>
          obtain ⟨n, i, rfl, rfl, hn, hi, HD, rfl⟩ := hrel
          by_cases hlt : i < s.length
          · obtain ⟨ch, hch⟩ : ∃ ch, s[i]? = some ch := ⟨_, List.getElem?_eq_getElem hlt⟩
            have hgi : ∀ h, (⟨s.toArray⟩ : ByteArray)[i]'h = ch := fun h => by
              obtain ⟨h1, h2⟩ := List.getElem?_eq_some_iff.1 hch
              exact h2
            have HS := toHid ((show digF (M) 0 s = _ from HD).trans (digF_step (M) s i n ch hch))
            have hc8 : ch.toNat < 256 := UInt8.toNat_lt ch
            by_cases hdg : ch.toNat < 48 ∨ 57 < ch.toNat
            · have HN := toHid (show digF (M) 0 s = none from (show digF (M) 0 s = _ from HS).trans (by rw [if_pos hdg]))
              clear HD HS hch
              rcases hdg with hdg | hdg
              · have d1 : (ch.toNat : Int) < 48 := by omega
                go_wp2
                refine bodyPost_ret (v := .tuple #[.int .i64 0, .int .u64 0, .bool false]) (by simp [results, Tryz.results44, go_sem]) rfl ⟨rfl, ?_⟩
                rw [show valS M s = _ from (show valS M s = _ from HV).trans (by rw [show digF M 0 s = _ from HN]; try rfl)]
                try rfl
              · have d1 : (48 : Int) ≤ (ch.toNat : Int) := by omega
                have d2 : (57 : Int) < (ch.toNat : Int) := by omega
                go_wp2
                refine bodyPost_ret (v := .tuple #[.int .i64 0, .int .u64 0, .bool false]) (by simp [results, Tryz.results44, go_sem]) rfl ⟨rfl, ?_⟩
                rw [show valS M s = _ from (show valS M s = _ from HV).trans (by rw [show digF M 0 s = _ from HN]; try rfl)]
                try rfl
            · have d1 : (48 : Int) ≤ (ch.toNat : Int) := by omega
              have d2 : (ch.toNat : Int) ≤ 57 := by omega
              by_cases hov : M < 10 * n + (ch.toNat - 48)
              · have HN := toHid (show digF (M) 0 s = none from (show digF (M) 0 s = _ from HS).trans (by rw [if_neg hdg, if_pos hov]))
                have d3 : (((M : Nat) : Int) - ((ch.toNat : Int) - 48)) / 10 < (n : Int) := by omega
                clear HD HS hch
                go_wp2
                refine bodyPost_ret (v := .tuple #[.int .i64 0, .int .u64 0, .bool false]) (by simp [results, Tryz.results44, go_sem]) rfl ⟨rfl, ?_⟩
                rw [show valS M s = _ from (show valS M s = _ from HV).trans (by rw [show digF M 0 s = _ from HN]; try rfl)]
                try rfl
              · have HN := toHid (show digF (M) 0 s = digF (M) (10 * n + (ch.toNat - 48)) (s.drop (i + 1)) from (show digF (M) 0 s = _ from HS).trans (by rw [if_neg hdg, if_neg hov]))
                have d3 : (n : Int) ≤ (((M : Nat) : Int) - ((ch.toNat : Int) - 48)) / 10 := by omega
                have d4 : (ch.toNat : Int) - 48 ≤ ((M : Nat) : Int) := by omega
                clear HD HS hch
                go_wp2
                go_roundw
                case rel => exact ⟨10 * n + (ch.toNat - 48), i + 1, by congr 1; omega, by go_num, by omega, by omega, HN, by trivial⟩
                case measure => simp [intOf]; try omega
          · obtain rfl : i = s.length := by omega
            have HN := toHid (show digF (M) 0 s = some n from (show digF (M) 0 s = _ from HD).trans (by rw [List.drop_length]; rfl))
            clear HD
            go_wp2
            refine bodyPost_ret (v := .tuple #[.int .i64 (n : Int), .int .u64 (n : Int), .bool true]) (by simp [results, Tryz.results44, go_sem]) rfl ⟨rfl, ?_⟩
            rw [show valS M s = _ from (show valS M s = _ from HV).trans (by rw [show digF M 0 s = _ from HN]; try rfl)]
            exact ⟨_, rfl⟩
      · have hn1 : (1 : Int) < (s.length : Int) := by omega
        have hc48 : ¬ (c0.toNat : Int) = 48 := fun e => h2 (UInt8.toNat_inj.1 (show c0.toNat = 48 by omega))
        have hb48 : ((c0.toNat : Int) == 48) = false := by simpa using hc48
        have hc45 : ¬ (c0.toNat : Int) = 45 := fun e => h3 (UInt8.toNat_inj.1 (show c0.toNat = 45 by omega))
        have hb45 : ((c0.toNat : Int) == 45) = false := by simpa using hc45
        clear h2 h3
        go_enter Tryz.func44, Tryz.ntmps44
        go_wp2_with fail
        skip
        go_loopw [10, 11] (fun nv iv w' => ∃ (n i : Nat), nv = .int .u64 (n : Int) ∧ iv = .int .i64 (i : Int) ∧ n ≤ M ∧ i ≤ s.length ∧ Hid (digF (M) 0 s = digF (M) n (s.drop i)) ∧ w' = w) (fun _ iv _ => s.length - (intOf iv).toNat)
        case atStart => exact ⟨0, 0, rfl, rfl, by omega, by omega, rfl, rfl⟩
        case round =>
          obtain ⟨n, i, rfl, rfl, hn, hi, HD, rfl⟩ := hrel
          by_cases hlt : i < s.length
          · obtain ⟨ch, hch⟩ : ∃ ch, s[i]? = some ch := ⟨_, List.getElem?_eq_getElem hlt⟩
            have hgi : ∀ h, (⟨s.toArray⟩ : ByteArray)[i]'h = ch := fun h => by
              obtain ⟨h1, h2⟩ := List.getElem?_eq_some_iff.1 hch
              exact h2
            have HS := toHid ((show digF (M) 0 s = _ from HD).trans (digF_step (M) s i n ch hch))
            have hc8 : ch.toNat < 256 := UInt8.toNat_lt ch
            by_cases hdg : ch.toNat < 48 ∨ 57 < ch.toNat
            · have HN := toHid (show digF (M) 0 s = none from (show digF (M) 0 s = _ from HS).trans (by rw [if_pos hdg]))
              clear HD HS hch
              rcases hdg with hdg | hdg
              · have d1 : (ch.toNat : Int) < 48 := by omega
                go_wp2
                refine bodyPost_ret (v := .tuple #[.int .i64 0, .int .u64 0, .bool false]) (by simp [results, Tryz.results44, go_sem]) rfl ⟨rfl, ?_⟩
                rw [show valS M s = _ from (show valS M s = _ from HV).trans (by rw [show digF M 0 s = _ from HN]; try rfl)]
                try rfl
              · have d1 : (48 : Int) ≤ (ch.toNat : Int) := by omega
                have d2 : (57 : Int) < (ch.toNat : Int) := by omega
                go_wp2
                refine bodyPost_ret (v := .tuple #[.int .i64 0, .int .u64 0, .bool false]) (by simp [results, Tryz.results44, go_sem]) rfl ⟨rfl, ?_⟩
                rw [show valS M s = _ from (show valS M s = _ from HV).trans (by rw [show digF M 0 s = _ from HN]; try rfl)]
                try rfl
            · have d1 : (48 : Int) ≤ (ch.toNat : Int) := by omega
              have d2 : (ch.toNat : Int) ≤ 57 := by omega
              by_cases hov : M < 10 * n + (ch.toNat - 48)
              · have HN := toHid (show digF (M) 0 s = none from (show digF (M) 0 s = _ from HS).trans (by rw [if_neg hdg, if_pos hov]))
                have d3 : (((M : Nat) : Int) - ((ch.toNat : Int) - 48)) / 10 < (n : Int) := by omega
                clear HD HS hch
                go_wp2
                refine bodyPost_ret (v := .tuple #[.int .i64 0, .int .u64 0, .bool false]) (by simp [results, Tryz.results44, go_sem]) rfl ⟨rfl, ?_⟩
                rw [show valS M s = _ from (show valS M s = _ from HV).trans (by rw [show digF M 0 s = _ from HN]; try rfl)]
                try rfl
              · have HN := toHid (show digF (M) 0 s = digF (M) (10 * n + (ch.toNat - 48)) (s.drop (i + 1)) from (show digF (M) 0 s = _ from HS).trans (by rw [if_neg hdg, if_neg hov]))
                have d3 : (n : Int) ≤ (((M : Nat) : Int) - ((ch.toNat : Int) - 48)) / 10 := by omega
                have d4 : (ch.toNat : Int) - 48 ≤ ((M : Nat) : Int) := by omega
                clear HD HS hch
                go_wp2
                go_roundw
                case rel => exact ⟨10 * n + (ch.toNat - 48), i + 1, by congr 1; omega, by go_num, by omega, by omega, HN, by trivial⟩
                case measure => simp [intOf]; try omega
          · obtain rfl : i = s.length := by omega
            have HN := toHid (show digF (M) 0 s = some n from (show digF (M) 0 s = _ from HD).trans (by rw [List.drop_length]; rfl))
            clear HD
            go_wp2
            refine bodyPost_ret (v := .tuple #[.int .i64 (n : Int), .int .u64 (n : Int), .bool true]) (by simp [results, Tryz.results44, go_sem]) rfl ⟨rfl, ?_⟩
            rw [show valS M s = _ from (show valS M s = _ from HV).trans (by rw [show digF M 0 s = _ from HN]; try rfl)]
            exact ⟨_, rfl⟩
end Go.Proofs.YthlfnmjefpdjgaaGreatDoor
