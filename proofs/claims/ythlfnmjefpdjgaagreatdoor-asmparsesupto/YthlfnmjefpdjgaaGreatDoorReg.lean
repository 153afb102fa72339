/-
  What reg and signed answer.
-/
import Derived.Test.YthlfnmjefpdjgaaGreatDoorNat
namespace Go.Proofs.YthlfnmjefpdjgaaGreatDoor
open Go.RowKit

theorem regP_def (l : Bs) : regP l = if Lib.hasPrefix l [114] = true then (match natP (Lib.trimPrefix l [114]) with
  | some v => if v ≤ 10 then some v else none
  | none => none) else none := rfl
theorem sgnP_def (B : Nat) (l : Bs) : sgnP B l = match Lib.parseIntB B l with
  | .ok v => if Lib.itoa v = l then some v else none
  | _ => none := rfl
theorem trimPrefix_length (l p : Bs) : (Lib.trimPrefix l p).length ≤ l.length := by
  unfold Lib.trimPrefix
  split <;> simp

set_option maxHeartbeats 1000000 in
theorem reg_any (b : Nat) (ws : List Bs) (bad : Bool) (w : World) (hE : Env w) (h : WS w b ws bad) :
    Calls Tryz.prog 68 #[.pointer (some ⟨b, 0, none⟩)] w (ReadPost w b (tl ws) (bad || (regP (hd ws)).isNone) (.int .u8 ((regP (hd ws)).getD 0 : Nat))) := by
  go_enter Tryz.func68, Tryz.ntmps68
  go_wp2_with fail
  refine (next_any b ws bad w hE h).mono ?_
  rintro e w1 ⟨rfl, hW, ht1, hlen⟩
  have hE1 := hE.touch ht1 (by simpa using h.1)
  have HT := toHid ht1
  clear ht1
  have hlen2 := trimPrefix_length (hd ws) [114]
  go_wp2_with (first | (go_at_call 84; refine (Tryz.strings_CutPrefix _ _ _).mono ?_; rintro e w2 ⟨rfl, rfl⟩) | fail)
  refine (natural_any b (tl ws) bad (Lib.trimPrefix (hd ws) [114]) _ hE1 hW (by omega)).mono ?_
  rintro e w3 ⟨rfl, hW3, ht3⟩
  have HT3 := toHid (Touch.trans HT ht3 (by simp))
  clear ht3
  have HR := toHid (regP_def (hd ws))
  have f1 := hW3.frozen 1
  have c1 := hW3.cell1
  generalize hok : Lib.hasPrefix (hd ws) [114] = ok at *
  generalize hnp : natP (Lib.trimPrefix (hd ws) [114]) = n at *
  clear hok hnp
  cases ok with
  | false =>
    go_wp2
    go_ret
    have hR : regP (hd ws) = none := (show regP (hd ws) = _ from HR).trans (by simp)
    exact ⟨by rw [hR]; rfl, by rw [hR]; simpa using hW3.set_bad, (show Touch [b] w w3 from HT3).setCell _ _ (Or.inl (by simp))⟩
  | true =>
    cases n with
    | none =>
      go_wp2
      go_ret
      have hR : regP (hd ws) = none := (show regP (hd ws) = _ from HR).trans (by simp)
      exact ⟨by rw [hR]; rfl, by rw [hR]; simpa using hW3, HT3⟩
    | some v =>
      by_cases hv : v ≤ 10
      · have hlt : decide ((10 : Int) < (v : Int)) = false := by simp; omega
        have hwr : IntKind.u8.wrap (v : Int) = v := by rw [IntKind.wrap_u8]; omega
        go_wp2
        go_ret
        have hR : regP (hd ws) = some v := (show regP (hd ws) = _ from HR).trans (by simp [hv])
        exact ⟨by rw [hR]; simp, by rw [hR]; simpa using hW3, HT3⟩
      · have hlt : decide ((10 : Int) < (v : Int)) = true := by simp; omega
        go_wp2
        go_ret
        have hR : regP (hd ws) = none := (show regP (hd ws) = _ from HR).trans (by simp [hv])
        exact ⟨by rw [hR]; rfl, by rw [hR]; simpa using hW3.set_bad, (show Touch [b] w w3 from HT3).setCell _ _ (Or.inl (by simp))⟩

/-- ParseInt at a size, its three ends as one. -/
def PIPost (w : World) (B : Nat) (d : Bs) (e : Ending) (w' : World) : Prop := Touch [] w w' ∧ ((∃ v, Lib.parseIntB B d = .ok v ∧ e = .returned (.tuple #[.int .i64 v, .nilIface])) ∨
  (∃ v N, (∀ u, Lib.parseIntB B d ≠ .ok u) ∧ e = .returned (.tuple #[.int .i64 v, .iface 143 (.pointer (some ⟨N, 0, none⟩))])))
theorem parseInt32 (d : Bs) (w : World) (hE : Env w) (hd : d.length ≤ 1073741824) :
    Calls Tryz.prog 88 #[.string ⟨d.toArray⟩, .int .i64 10, .int .i64 32] w (PIPost w 32 d) := by
  cases hp : Lib.parseIntB 32 d with
  | ok v =>
    refine (Tryz.strconv_ParseInt_10_at32_ok ⟨d.toArray⟩ (by rw [mk_size]; omega) v hp w).mono ?_
    rintro e w1 ⟨rfl, hw⟩
    refine ⟨?_, Or.inl ⟨v, hp, rfl⟩⟩
    rcases hw with rfl | ⟨t, rfl⟩
    · exact Touch.refl _ _
    · exact touch_bytes _ _
  | «syntax» =>
    obtain ⟨tp, p, hv⟩ := hE.syn
    refine (Tryz.strconv_ParseInt_10_at32_syntax_var ⟨d.toArray⟩ (by rw [mk_size]; omega) hp tp p w hv).mono ?_
    rintro e w1 ⟨N, rfl, _, _, hb⟩
    exact ⟨below_touch hb, Or.inr ⟨_, N, fun u => by rw [hp]; simp, rfl⟩⟩
  | range =>
    obtain ⟨tp, p, hv⟩ := hE.ran
    refine (Tryz.strconv_ParseInt_10_at32_range_var ⟨d.toArray⟩ (by rw [mk_size]; omega) hp tp p w hv).mono ?_
    rintro e w1 ⟨N, rfl, _, _, hb⟩
    exact ⟨below_touch hb, Or.inr ⟨_, N, fun u => by rw [hp]; simp, rfl⟩⟩
theorem parseInt16 (d : Bs) (w : World) (hE : Env w) (hd : d.length ≤ 1073741824) :
    Calls Tryz.prog 88 #[.string ⟨d.toArray⟩, .int .i64 10, .int .i64 16] w (PIPost w 16 d) := by
  cases hp : Lib.parseIntB 16 d with
  | ok v =>
    refine (Tryz.strconv_ParseInt_10_at16_ok ⟨d.toArray⟩ (by rw [mk_size]; omega) v hp w).mono ?_
    rintro e w1 ⟨rfl, hw⟩
    refine ⟨?_, Or.inl ⟨v, hp, rfl⟩⟩
    rcases hw with rfl | ⟨t, rfl⟩
    · exact Touch.refl _ _
    · exact touch_bytes _ _
  | «syntax» =>
    obtain ⟨tp, p, hv⟩ := hE.syn
    refine (Tryz.strconv_ParseInt_10_at16_syntax_var ⟨d.toArray⟩ (by rw [mk_size]; omega) hp tp p w hv).mono ?_
    rintro e w1 ⟨N, rfl, _, _, hb⟩
    exact ⟨below_touch hb, Or.inr ⟨_, N, fun u => by rw [hp]; simp, rfl⟩⟩
  | range =>
    obtain ⟨tp, p, hv⟩ := hE.ran
    refine (Tryz.strconv_ParseInt_10_at16_range_var ⟨d.toArray⟩ (by rw [mk_size]; omega) hp tp p w hv).mono ?_
    rintro e w1 ⟨N, rfl, _, _, hb⟩
    exact ⟨below_touch hb, Or.inr ⟨_, N, fun u => by rw [hp]; simp, rfl⟩⟩

set_option maxHeartbeats 1000000 in
theorem signed_any (B : Nat) (hB : B ≤ 64) (hB1 : 1 ≤ B) (hpi : ∀ (d : Bs) (w : World), Env w → d.length ≤ 1073741824 → Calls Tryz.prog 88 #[.string ⟨d.toArray⟩, .int .i64 10, .int .i64 (B : Int)] w (PIPost w B d))
    (b : Nat) (ws : List Bs) (bad : Bool) (w : World) (hE : Env w) (h : WS w b ws bad) :
    Calls Tryz.prog 70 #[.pointer (some ⟨b, 0, none⟩), .int .i64 (B : Int)] w (ReadPost w b (tl ws) (bad || (sgnP B (hd ws)).isNone) (.int .i64 ((sgnP B (hd ws)).getD 0))) := by
  have HPI := toHid hpi
  clear hpi
  go_enter Tryz.func70, Tryz.ntmps70
  go_wp2_with fail
  refine (next_any b ws bad w hE h).mono ?_
  rintro e w1 ⟨rfl, hW, ht1, hlen⟩
  have hE1 := hE.touch ht1 (by simpa using h.1)
  have HT := toHid ht1
  clear ht1
  go_wp2_with fail
  refine ((show ∀ (d : Bs) (w : World), _ from HPI) (hd ws) w1 hE1 hlen).mono ?_
  rintro e w2 ⟨ht2, hcase⟩
  have hE2 := hE1.touch0 ht2
  have hW2 := hW.touch ht2 (by simp)
  have HT2 := toHid (Touch.trans HT ht2 (by simp))
  clear ht2 hW
  have HS := toHid (sgnP_def B (hd ws))
  rcases hcase with ⟨v, hp, rfl⟩ | ⟨v, N, hp, rfl⟩
  · have hbd := Lib.parseIntB_bounds hp
    have h63 : (2 : Nat) ^ (B - 1) ≤ 2 ^ 63 := Nat.pow_le_pow_right (by omega) (by omega)
    have e63 : (2 : Nat) ^ 63 = 9223372036854775808 := by decide
    have hv0 : -9223372036854775808 ≤ v := by omega
    have hv1 : v ≤ 9223372036854775807 := by omega
    have HP := toHid hp
    clear hp hbd h63 e63
    go_wp2_with fail
    refine (formatInt_any v hv0 hv1 w2 hE2).mono ?_
    rintro e w3 ⟨rfl, ht3⟩
    have hW3 := hW2.touch ht3 (by simp)
    have HT3 := toHid (Touch.trans HT2 ht3 (by simp))
    clear ht3
    have f1 := hW3.frozen 1
    have c1 := hW3.cell1
    by_cases he : Lib.itoa v = hd ws
    · have hbe : (Lib.itoa v == hd ws) = true := by simpa using he
      go_wp2
      go_ret
      have hS : sgnP B (hd ws) = some v := (show sgnP B (hd ws) = _ from HS).trans (by rw [show Lib.parseIntB B (hd ws) = _ from HP]; simp [he])
      exact ⟨by rw [hS]; rfl, by rw [hS]; simpa using hW3, HT3⟩
    · have hbe : (Lib.itoa v == hd ws) = false := by simpa using he
      go_wp2
      go_ret
      have hS : sgnP B (hd ws) = none := (show sgnP B (hd ws) = _ from HS).trans (by rw [show Lib.parseIntB B (hd ws) = _ from HP]; simp [he])
      exact ⟨by rw [hS]; rfl, by rw [hS]; simpa using hW3.set_bad, (show Touch [b] w w3 from HT3).setCell _ _ (Or.inl (by simp))⟩
  · have HP := toHid hp
    clear hp
    have f1 := hW2.frozen 1
    have c1 := hW2.cell1
    go_wp2
    go_ret
    have hp : ∀ u, Lib.parseIntB B (hd ws) ≠ .ok u := HP
    have hS : sgnP B (hd ws) = none := (show sgnP B (hd ws) = _ from HS).trans (by
      cases hq : Lib.parseIntB B (hd ws) with
      | ok u => exact absurd hq (hp u)
      | «syntax» => rfl
      | range => rfl)
    exact ⟨by rw [hS]; rfl, by rw [hS]; simpa using hW2.set_bad, (show Touch [b] w w2 from HT2).setCell _ _ (Or.inl (by simp))⟩
theorem signed32 (b : Nat) (ws : List Bs) (bad : Bool) (w : World) (hE : Env w) (h : WS w b ws bad) :
    Calls Tryz.prog 70 #[.pointer (some ⟨b, 0, none⟩), .int .i64 32] w (ReadPost w b (tl ws) (bad || (sgnP 32 (hd ws)).isNone) (.int .i64 ((sgnP 32 (hd ws)).getD 0))) :=
  signed_any 32 (by omega) (by omega) parseInt32 b ws bad w hE h
theorem signed16 (b : Nat) (ws : List Bs) (bad : Bool) (w : World) (hE : Env w) (h : WS w b ws bad) :
    Calls Tryz.prog 70 #[.pointer (some ⟨b, 0, none⟩), .int .i64 16] w (ReadPost w b (tl ws) (bad || (sgnP 16 (hd ws)).isNone) (.int .i64 ((sgnP 16 (hd ws)).getD 0))) :=
  signed_any 16 (by omega) (by omega) parseInt16 b ws bad w hE h
end Go.Proofs.YthlfnmjefpdjgaaGreatDoor
