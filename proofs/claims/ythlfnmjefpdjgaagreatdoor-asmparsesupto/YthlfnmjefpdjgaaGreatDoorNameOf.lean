/-
  What nameOf answers: a line's first word.
-/
import Derived.Test.YthlfnmjefpdjgaaGreatDoorParse
import Derived.Test.YthlfnmjefpdjgaaGreatDoorPlain
namespace Go.Proofs.YthlfnmjefpdjgaaGreatDoor
open Go.RowKit

def at0 (l : List Bs) (k : Int) : Bs := (l[k.toNat]?).getD []
/-- The first word of a plain instruction's line. -/
def nameOfP (i : In) : Bs := if i.op % 8 = 0 then (if i.src = 0 then [108, 100, 100, 119] else [108, 100, 109, 97, 112]) else
  if i.op % 8 = 1 ∨ i.op % 8 = 2 ∨ i.op % 8 = 3 then at0 accN (i.op % 8 - 1) ++ at0 sizN (i.op / 8 % 4) else
  if i.op % 8 = 4 then at0 aluN (i.op / 16) ++ [51, 50] else if i.op % 8 = 7 then at0 aluN (i.op / 16) else
  if i.op % 8 = 6 then at0 jmpN (i.op / 16) ++ [51, 50] else if i.op = 133 ∧ i.src = 1 then [99, 97, 108, 108, 112] else at0 jmpN (i.op / 16)
theorem kind_bd_all : ∀ x : Fin 256, knownB x.val = true → ((x.val : Int) % 8 = 4 ∨ (x.val : Int) % 8 = 7 → (x.val : Int) / 16 ≤ 12) ∧ ((x.val : Int) % 8 = 5 ∨ (x.val : Int) % 8 = 6 → (x.val : Int) / 16 ≤ 13) := by decide +kernel
theorem kind_bd (x : Int) (h0 : 0 ≤ x) (h1 : x ≤ 255) (hk : knownB x = true) : (x % 8 = 4 ∨ x % 8 = 7 → x / 16 ≤ 12) ∧ (x % 8 = 5 ∨ x % 8 = 6 → x / 16 ≤ 13) := by
  obtain ⟨n, rfl⟩ := Int.eq_ofNat_of_zero_le h0
  exact kind_bd_all ⟨n, by omega⟩ hk

theorem ba_append (a b : Bs) : ((⟨a.toArray⟩ : ByteArray) ++ ⟨b.toArray⟩) = ⟨(a ++ b).toArray⟩ := by
  apply ByteArray.ext
  rw [ByteArray.data_append]
  simp
theorem and3_all : ∀ x : Fin 256, bits .and .u8 ((x.val : Int) / 8) 3 = (x.val : Int) / 8 % 4 := by decide +kernel
theorem and3 (x : Int) (h0 : 0 ≤ x) (h1 : x ≤ 255) : bits .and .u8 (x / 8) 3 = x / 8 % 4 := by
  obtain ⟨n, rfl⟩ := Int.eq_ofNat_of_zero_le h0
  exact and3_all ⟨n, by omega⟩
theorem names_len : (∀ s ∈ accN, s.length ≤ 4) ∧ (∀ s ∈ sizN, s.length ≤ 4) ∧ (∀ s ∈ aluN, s.length ≤ 4) ∧ (∀ s ∈ jmpN, s.length ≤ 4) := by decide

set_option maxRecDepth 100000 in
set_option maxHeartbeats 4000000 in
theorem nameOf_alu32 (i : In) (ok : i.Ok) (hk : knownB i.op = true) (w : World) (hE : Env w) (hc : i.op % 8 = 4) :
    Calls Tryz.prog 30 #[i.v] w fun e w' => e = .returned (.string ⟨(at0 aluN (i.op / 16) ++ [51, 50]).toArray⟩) ∧ Touch [] w w' := by
  have hbd := (kind_bd i.op ok.op0 ok.op1 hk).1 (Or.inl hc)
  obtain ⟨k, hq⟩ : ∃ k : Nat, i.op / 16 = k := ⟨(i.op / 16).toNat, by have := ok.op0; omega⟩
  obtain ⟨s, hs⟩ : ∃ s, aluN[k]? = some s := ⟨_, List.getElem?_eq_getElem (by simp [aluN]; omega)⟩
  have HA : Hid (at0 aluN (i.op / 16) = s) := toHid (by rw [hq]; simp [at0, hs])
  have hcell := (hE.touch0 ((Touch.refl [] w).alloc (.cells #[.int .u8 i.op, .int .u8 i.dst, .int .u8 i.src, .int .i16 i.off, .int .i32 i.imm] 41))).alu k s hs
  have hsl : ¬ 9223372036854775807 < List.length s + 2 := by have := names_len.2.2.1 s (List.mem_of_getElem? hs); omega
  unfold str at hcell
  have q0 := ok.op0
  have q1 := ok.op1
  simp only [In.v]
  go_enter Tryz.func30, Tryz.ntmps30
  go_wp2_with (first | (go_at_call 46; refine (kind_any i.op _ q0 q1).mono ?_; rintro e w1 ⟨rfl, rfl⟩) | (go_at_call 45; refine (class_any i.op _ q0 q1).mono ?_; rintro e w1 ⟨rfl, rfl⟩) | fail)
  go_ret
  exact ⟨by rw [show at0 aluN (i.op / 16) = s from HA]; exact congrArg (fun b => Ending.returned (.string b)) (ba_append s [51, 50]), (Touch.refl _ w).alloc _⟩

set_option maxRecDepth 100000 in
set_option maxHeartbeats 4000000 in
theorem nameOf_alu64 (i : In) (ok : i.Ok) (hk : knownB i.op = true) (w : World) (hE : Env w) (hc : i.op % 8 = 7) :
    Calls Tryz.prog 30 #[i.v] w fun e w' => e = .returned (.string ⟨(at0 aluN (i.op / 16)).toArray⟩) ∧ Touch [] w w' := by
  have hbd := (kind_bd i.op ok.op0 ok.op1 hk).1 (Or.inr hc)
  obtain ⟨k, hq⟩ : ∃ k : Nat, i.op / 16 = k := ⟨(i.op / 16).toNat, by have := ok.op0; omega⟩
  obtain ⟨s, hs⟩ : ∃ s, aluN[k]? = some s := ⟨_, List.getElem?_eq_getElem (by simp [aluN]; omega)⟩
  have HA : Hid (at0 aluN (i.op / 16) = s) := toHid (by rw [hq]; simp [at0, hs])
  have hcell := (hE.touch0 ((Touch.refl [] w).alloc (.cells #[.int .u8 i.op, .int .u8 i.dst, .int .u8 i.src, .int .i16 i.off, .int .i32 i.imm] 41))).alu k s hs
  have hsl : ¬ 9223372036854775807 < List.length s + 2 := by have := names_len.2.2.1 s (List.mem_of_getElem? hs); omega
  unfold str at hcell
  have q0 := ok.op0
  have q1 := ok.op1
  simp only [In.v]
  go_enter Tryz.func30, Tryz.ntmps30
  go_wp2_with (first | (go_at_call 46; refine (kind_any i.op _ q0 q1).mono ?_; rintro e w1 ⟨rfl, rfl⟩) | (go_at_call 45; refine (class_any i.op _ q0 q1).mono ?_; rintro e w1 ⟨rfl, rfl⟩) | fail)
  go_ret
  exact ⟨by rw [show at0 aluN (i.op / 16) = s from HA]; rfl, (Touch.refl _ w).alloc _⟩

set_option maxRecDepth 100000 in
set_option maxHeartbeats 4000000 in
theorem nameOf_jmp32 (i : In) (ok : i.Ok) (hk : knownB i.op = true) (w : World) (hE : Env w) (hc : i.op % 8 = 6) :
    Calls Tryz.prog 30 #[i.v] w fun e w' => e = .returned (.string ⟨(at0 jmpN (i.op / 16) ++ [51, 50]).toArray⟩) ∧ Touch [] w w' := by
  have hbd := (kind_bd i.op ok.op0 ok.op1 hk).2 (Or.inr hc)
  obtain ⟨k, hq⟩ : ∃ k : Nat, i.op / 16 = k := ⟨(i.op / 16).toNat, by have := ok.op0; omega⟩
  obtain ⟨s, hs⟩ : ∃ s, jmpN[k]? = some s := ⟨_, List.getElem?_eq_getElem (by simp [jmpN]; omega)⟩
  have HA : Hid (at0 jmpN (i.op / 16) = s) := toHid (by rw [hq]; simp [at0, hs])
  have hcell := (hE.touch0 ((Touch.refl [] w).alloc (.cells #[.int .u8 i.op, .int .u8 i.dst, .int .u8 i.src, .int .i16 i.off, .int .i32 i.imm] 41))).jmp k s hs
  have hsl : ¬ 9223372036854775807 < List.length s + 2 := by have := names_len.2.2.2 s (List.mem_of_getElem? hs); omega
  unfold str at hcell
  have q0 := ok.op0
  have q1 := ok.op1
  simp only [In.v]
  go_enter Tryz.func30, Tryz.ntmps30
  go_wp2_with (first | (go_at_call 46; refine (kind_any i.op _ q0 q1).mono ?_; rintro e w1 ⟨rfl, rfl⟩) | (go_at_call 45; refine (class_any i.op _ q0 q1).mono ?_; rintro e w1 ⟨rfl, rfl⟩) | fail)
  go_ret
  exact ⟨by rw [show at0 jmpN (i.op / 16) = s from HA]; exact congrArg (fun b => Ending.returned (.string b)) (ba_append s [51, 50]), (Touch.refl _ w).alloc _⟩

set_option maxRecDepth 100000 in
set_option maxHeartbeats 4000000 in
theorem nameOf_jmp (i : In) (ok : i.Ok) (hk : knownB i.op = true) (w : World) (hE : Env w) (hc : i.op % 8 = 5) (hnc : ¬ (i.op = 133 ∧ i.src = 1)) :
    Calls Tryz.prog 30 #[i.v] w fun e w' => e = .returned (.string ⟨(at0 jmpN (i.op / 16)).toArray⟩) ∧ Touch [] w w' := by
  have hbd := (kind_bd i.op ok.op0 ok.op1 hk).2 (Or.inl hc)
  obtain ⟨k, hq⟩ : ∃ k : Nat, i.op / 16 = k := ⟨(i.op / 16).toNat, by have := ok.op0; omega⟩
  obtain ⟨s, hs⟩ : ∃ s, jmpN[k]? = some s := ⟨_, List.getElem?_eq_getElem (by simp [jmpN]; omega)⟩
  have HA : Hid (at0 jmpN (i.op / 16) = s) := toHid (by rw [hq]; simp [at0, hs])
  have hcell := (hE.touch0 ((Touch.refl [] w).alloc (.cells #[.int .u8 i.op, .int .u8 i.dst, .int .u8 i.src, .int .i16 i.off, .int .i32 i.imm] 41))).jmp k s hs
  have hsl : ¬ 9223372036854775807 < List.length s + 2 := by have := names_len.2.2.2 s (List.mem_of_getElem? hs); omega
  unfold str at hcell
  have q0 := ok.op0
  have q1 := ok.op1
  simp only [In.v]
  by_cases h1 : i.op = 133
  · have hb2 : (i.src == 1) = false := by
      have : ¬ i.src = 1 := fun h => hnc ⟨h1, h⟩
      simpa using this
    obtain rfl : k = 8 := by omega
    rw [h1] at hcell
    clear hnc
    go_enter Tryz.func30, Tryz.ntmps30
    go_wp2_with (first | (go_at_call 46; refine (kind_any 133 _ (by omega) (by omega)).mono ?_; rintro e w1 ⟨rfl, rfl⟩) | (go_at_call 45; refine (class_any 133 _ (by omega) (by omega)).mono ?_; rintro e w1 ⟨rfl, rfl⟩) | fail)
    go_ret
    exact ⟨by rw [show at0 jmpN (i.op / 16) = s from HA]; rfl, (Touch.refl _ w).alloc _⟩
  clear hnc
  go_enter Tryz.func30, Tryz.ntmps30
  go_wp2_with (first | (go_at_call 46; refine (kind_any i.op _ q0 q1).mono ?_; rintro e w1 ⟨rfl, rfl⟩) | (go_at_call 45; refine (class_any i.op _ q0 q1).mono ?_; rintro e w1 ⟨rfl, rfl⟩) | fail)
  go_ret
  exact ⟨by rw [show at0 jmpN (i.op / 16) = s from HA]; rfl, (Touch.refl _ w).alloc _⟩

set_option maxRecDepth 100000 in
set_option maxHeartbeats 4000000 in
theorem nameOf_callp (i : In) (ok : i.Ok) (w : World) (h1 : i.op = 133) (h2 : i.src = 1) :
    Calls Tryz.prog 30 #[i.v] w fun e w' => e = .returned (.string ⟨#[99, 97, 108, 108, 112]⟩) ∧ Touch [] w w' := by
  have q0 := ok.op0
  have q1 := ok.op1
  simp only [In.v]
  go_enter Tryz.func30, Tryz.ntmps30
  go_wp2_with (first | (go_at_call 46; refine (kind_any 133 _ (by omega) (by omega)).mono ?_; rintro e w1 ⟨rfl, rfl⟩) | (go_at_call 45; refine (class_any 133 _ (by omega) (by omega)).mono ?_; rintro e w1 ⟨rfl, rfl⟩) | fail)
  go_ret
  exact ⟨rfl, (Touch.refl _ w).alloc _⟩

set_option maxRecDepth 100000 in
set_option maxHeartbeats 4000000 in
theorem nameOf_wide (i : In) (ok : i.Ok) (w : World) (hc : i.op % 8 = 0) :
    Calls Tryz.prog 30 #[i.v] w fun e w' => e = .returned (.string ⟨(if i.src = 0 then [108, 100, 100, 119] else [108, 100, 109, 97, 112] : Bs).toArray⟩) ∧ Touch [] w w' := by
  have q0 := ok.op0
  have q1 := ok.op1
  simp only [In.v]
  by_cases hs : i.src = 0
  · have hb : decide (i.src = 0) = true := by simpa using hs
    go_enter Tryz.func30, Tryz.ntmps30
    go_wp2_with (first | (go_at_call 46; refine (kind_any i.op _ q0 q1).mono ?_; rintro e w1 ⟨rfl, rfl⟩) | (go_at_call 45; refine (class_any i.op _ q0 q1).mono ?_; rintro e w1 ⟨rfl, rfl⟩) | fail)
    go_ret
    exact ⟨by simp, (Touch.refl _ w).alloc _⟩
  · have hb : decide (i.src = 0) = false := by simpa using hs
    go_enter Tryz.func30, Tryz.ntmps30
    go_wp2_with (first | (go_at_call 46; refine (kind_any i.op _ q0 q1).mono ?_; rintro e w1 ⟨rfl, rfl⟩) | (go_at_call 45; refine (class_any i.op _ q0 q1).mono ?_; rintro e w1 ⟨rfl, rfl⟩) | fail)
    go_ret
    exact ⟨by simp, (Touch.refl _ w).alloc _⟩

set_option maxRecDepth 100000 in
set_option maxHeartbeats 4000000 in
theorem nameOf_acc (c : Nat) (hc3 : c < 3) (i : In) (ok : i.Ok) (w : World) (hE : Env w) (hc : i.op % 8 = (c : Int) + 1) :
    Calls Tryz.prog 30 #[i.v] w fun e w' => e = .returned (.string ⟨(at0 accN (i.op % 8 - 1) ++ at0 sizN (i.op / 8 % 4)).toArray⟩) ∧ Touch [] w w' := by
  obtain ⟨s, hs⟩ : ∃ s, accN[c]? = some s := ⟨_, List.getElem?_eq_getElem (by simpa [accN] using hc3)⟩
  obtain ⟨k, hq⟩ : ∃ k : Nat, i.op / 8 % 4 = k := ⟨(i.op / 8 % 4).toNat, by have := ok.op0; omega⟩
  have hk4 : k < 4 := by omega
  obtain ⟨s2, hs2⟩ : ∃ s, sizN[k]? = some s := ⟨_, List.getElem?_eq_getElem (by simpa [sizN] using hk4)⟩
  have HA : Hid (at0 accN (i.op % 8 - 1) = s ∧ at0 sizN (i.op / 8 % 4) = s2) := toHid ⟨by rw [hc]; simp [at0, hs], by rw [hq]; simp [at0, hs2]⟩
  have hE2 := hE.touch0 ((Touch.refl [] w).alloc (.cells #[.int .u8 i.op, .int .u8 i.dst, .int .u8 i.src, .int .i16 i.off, .int .i32 i.imm] 41))
  have hcell := hE2.acc c s hs
  have hcell2 := hE2.siz k s2 hs2
  clear hE2
  have hsl : ¬ 9223372036854775807 < List.length s + List.length s2 := by have := names_len.1 s (List.mem_of_getElem? hs); have := names_len.2.1 s2 (List.mem_of_getElem? hs2); omega
  unfold str at hcell hcell2
  have hand : bits .and .u8 (i.op / 8) 3 = (k : Int) := (and3 i.op ok.op0 ok.op1).trans hq
  have q0 := ok.op0
  have q1 := ok.op1
  simp only [In.v]
  rcases (by omega : c = 0 ∨ c = 1 ∨ c = 2) with rfl | rfl | rfl
  all_goals
    go_enter Tryz.func30, Tryz.ntmps30
    go_wp2_with (first | (go_at_call 46; refine (kind_any i.op _ q0 q1).mono ?_; rintro e w1 ⟨rfl, rfl⟩) | (go_at_call 45; refine (class_any i.op _ q0 q1).mono ?_; rintro e w1 ⟨rfl, rfl⟩) | fail)
    go_quiet (fail)
    go_wp2
    go_ret
    exact ⟨by rw [(show _ ∧ _ from HA).1, (show _ ∧ _ from HA).2]; exact congrArg (fun b => Ending.returned (.string b)) (ba_append s s2), ((Touch.refl _ w).alloc _).drewN _⟩

theorem nameOf_any (i : In) (ok : i.Ok) (hk : knownB i.op = true) (w : World) (hE : Env w) :
    Calls Tryz.prog 30 #[i.v] w fun e w' => e = .returned (.string ⟨(nameOfP i).toArray⟩) ∧ Touch [] w w' := by
  have h0 := ok.op0
  have hc : i.op % 8 = 0 ∨ i.op % 8 = 1 ∨ i.op % 8 = 2 ∨ i.op % 8 = 3 ∨ i.op % 8 = 4 ∨ i.op % 8 = 5 ∨ i.op % 8 = 6 ∨ i.op % 8 = 7 := by omega
  unfold nameOfP
  rcases hc with hc | hc | hc | hc | hc | hc | hc | hc
  · rw [if_pos hc]
    exact nameOf_wide i ok w hc
  · rw [if_neg (by omega), if_pos (by omega)]
    exact nameOf_acc 0 (by omega) i ok w hE (by omega)
  · rw [if_neg (by omega), if_pos (by omega)]
    exact nameOf_acc 1 (by omega) i ok w hE (by omega)
  · rw [if_neg (by omega), if_pos (by omega)]
    exact nameOf_acc 2 (by omega) i ok w hE (by omega)
  · rw [if_neg (by omega), if_neg (by omega), if_pos hc]
    exact nameOf_alu32 i ok hk w hE hc
  · rw [if_neg (by omega), if_neg (by omega), if_neg (by omega), if_neg (by omega), if_neg (by omega)]
    by_cases h : i.op = 133 ∧ i.src = 1
    · rw [if_pos h]
      exact nameOf_callp i ok w h.1 h.2
    · rw [if_neg h]
      exact nameOf_jmp i ok hk w hE hc h
  · rw [if_neg (by omega), if_neg (by omega), if_neg (by omega), if_neg (by omega), if_pos hc]
    exact nameOf_jmp32 i ok hk w hE hc
  · rw [if_neg (by omega), if_neg (by omega), if_neg (by omega), if_pos hc]
    exact nameOf_alu64 i ok hk w hE hc
end Go.Proofs.YthlfnmjefpdjgaaGreatDoor
