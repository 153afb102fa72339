/-
  What natural, reg, signed and unsigned answer.
-/
import Derived.Test.YthlfnmjefpdjgaaGreatDoorFmtU
namespace Go.Proofs.YthlfnmjefpdjgaaGreatDoor
open Go.RowKit

/-- What a number's reader leaves: the answer, the words, and whether a word was bad. -/
def ReadPost (w : World) (b : Nat) (ws : List Bs) (bad : Bool) (v : Value) (e : Ending) (w' : World) : Prop := e = .returned v ∧ WS w' b ws bad ∧ Touch [b] w w'

theorem WS.set_bad {w : World} {b : Nat} {ws : List Bs} {bad : Bool} (h : WS w b ws bad) : WS (w.setCell ⟨b, 1, none⟩ (.bool true)) b ws true := by
  obtain ⟨h12, rest, hb, h2, h3⟩ := h
  exact ⟨h12, rest, hb.setCell 1 _, h2, h3⟩
theorem WS.frozen {w : World} {b : Nat} {ws : List Bs} {bad : Bool} (h : WS w b ws bad) (i : Nat) : w.frozen? ⟨b, i, none⟩ = false := by
  obtain ⟨h12, rest, hb, h2, h3⟩ := h
  exact hb.frozen i
theorem WS.cell1 {w : World} {b : Nat} {ws : List Bs} {bad : Bool} (h : WS w b ws bad) : w.cell? ⟨b, 1, none⟩ = some (.bool bad) := by
  obtain ⟨h12, rest, hb, h2, h3⟩ := h
  exact hb.cell rfl
theorem ba_eq (a b : Bs) : ((⟨a.toArray⟩ : ByteArray) = ⟨b.toArray⟩) = (a = b) := by simp
theorem touch_bytes (w : World) (s : ByteArray) : Touch [] w (Lib.bytesWorld w 5 s) := below_touch (Lib.bytesWorld_below _ _ _)

set_option maxHeartbeats 1000000 in
theorem natural_any (b : Nat) (ws : List Bs) (bad : Bool) (d : Bs) (w : World) (hE : Env w) (h : WS w b ws bad) (hd : d.length ≤ 1073741824) :
    Calls Tryz.prog 86 #[.pointer (some ⟨b, 0, none⟩), .string ⟨d.toArray⟩] w (ReadPost w b ws (bad || (natP d).isNone) (.int .u64 ((natP d).getD 0 : Nat))) := by
  cases hp : Lib.parseUintB 64 d with
  | ok u =>
    have hu := Lib.parseUintB_le hp
    have hu64 : u < 18446744073709551616 := by
      have e : (2 : Nat) ^ 64 = 18446744073709551616 := by decide
      omega
    have hN : natP d = if Lib.decDigits u = d then some u else none := by unfold natP; rw [hp]
    have HP := toHid (Tryz.strconv_ParseUint_10_at64_ok ⟨d.toArray⟩ (by rw [mk_size]; omega) u hp w)
    have HN := toHid hN
    clear hp hN hu
    go_enter Tryz.func86, Tryz.ntmps86
    go_wp2_with fail
    refine Calls.mono HP ?_
    rintro e w1 ⟨rfl, hw1⟩
    have ht1 : Touch [] w w1 := by
      rcases hw1 with rfl | rfl
      · exact Touch.refl _ _
      · exact touch_bytes _ _
    clear hw1
    have hE1 := hE.touch0 ht1
    go_wp2_with fail
    refine (formatUint_any u hu64 w1 hE1).mono ?_
    rintro e w2 ⟨rfl, ht2⟩
    have hW := (h.touch ht1 (by simp)).touch ht2 (by simp)
    have hT := toHid (ht1.trans ht2 (by simp))
    have f1 := hW.frozen 1
    have c1 := hW.cell1
    by_cases he : Lib.decDigits u = d
    · have hbe : (Lib.decDigits u == d) = true := by simpa using he
      go_wp2
      go_ret
      have hN : natP d = some u := (HN : natP d = _).trans (if_pos he)
      exact ⟨by rw [hN]; rfl, by rw [hN]; simpa using hW, (show Touch [] w w2 from hT).nil⟩
    · have hbe : (Lib.decDigits u == d) = false := by simpa using he
      go_wp2
      go_ret
      have hN : natP d = none := (HN : natP d = _).trans (if_neg he)
      exact ⟨by rw [hN]; rfl, by rw [hN]; simpa using hW.set_bad, (show Touch [] w w2 from hT).nil.setCell _ _ (Or.inl (by simp))⟩
  | «syntax» =>
    have hN : natP d = none := by unfold natP; rw [hp]
    obtain ⟨tp, p, hv⟩ := hE.syn
    have HP := toHid (Tryz.strconv_ParseUint_10_at64_syntax_var ⟨d.toArray⟩ (by rw [mk_size]; omega) hp tp p w hv)
    have HN := toHid hN
    clear hp hN
    go_enter Tryz.func86, Tryz.ntmps86
    go_wp2_with fail
    refine Calls.mono HP ?_
    rintro e w1 ⟨N, rfl, _, _, hb1⟩
    have ht1 : Touch [] w w1 := below_touch hb1
    have hW := h.touch ht1 (by simp)
    have f1 := hW.frozen 1
    have c1 := hW.cell1
    go_wp2
    go_ret
    have hN : natP d = none := HN
    exact ⟨by rw [hN]; rfl, by rw [hN]; simpa using hW.set_bad, ht1.nil.setCell _ _ (Or.inl (by simp))⟩
  | range =>
    have hN : natP d = none := by unfold natP; rw [hp]
    obtain ⟨tp, p, hv⟩ := hE.ran
    have HP := toHid (Tryz.strconv_ParseUint_10_at64_range_var ⟨d.toArray⟩ (by rw [mk_size]; omega) hp tp p w hv)
    have HN := toHid hN
    clear hp hN
    go_enter Tryz.func86, Tryz.ntmps86
    go_wp2_with fail
    refine Calls.mono HP ?_
    rintro e w1 ⟨N, rfl, _, _, hb1⟩
    have ht1 : Touch [] w w1 := below_touch hb1
    have hW := h.touch ht1 (by simp)
    have f1 := hW.frozen 1
    have c1 := hW.cell1
    go_wp2
    go_ret
    have hN : natP d = none := HN
    exact ⟨by rw [hN]; rfl, by rw [hN]; simpa using hW.set_bad, ht1.nil.setCell _ _ (Or.inl (by simp))⟩

set_option maxHeartbeats 1000000 in
theorem unsigned_any (b : Nat) (ws : List Bs) (bad : Bool) (w : World) (hE : Env w) (h : WS w b ws bad) :
    Calls Tryz.prog 72 #[.pointer (some ⟨b, 0, none⟩)] w (ReadPost w b (tl ws) (bad || (natP (hd ws)).isNone) (.int .u64 ((natP (hd ws)).getD 0 : Nat))) := by
  go_enter Tryz.func72, Tryz.ntmps72
  go_wp2_with fail
  refine (next_any b ws bad w hE h).mono ?_
  rintro e w1 ⟨rfl, hW, ht1, hlen⟩
  have hE1 := hE.touch ht1 (by simpa using h.1)
  have HT := toHid ht1
  go_wp2_with fail
  refine (natural_any b (tl ws) bad (hd ws) w1 hE1 hW hlen).mono ?_
  rintro e w2 ⟨rfl, hW2, ht2⟩
  go_wp2
  go_ret
  exact ⟨rfl, hW2, Touch.trans HT ht2 (by simp)⟩
end Go.Proofs.YthlfnmjefpdjgaaGreatDoor
