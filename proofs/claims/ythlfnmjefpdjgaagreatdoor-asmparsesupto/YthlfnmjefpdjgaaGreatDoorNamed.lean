/-
  What named answers: what a name alone says of an instruction.
-/
import Derived.Test.YthlfnmjefpdjgaaGreatDoorAcc
namespace Go.Proofs.YthlfnmjefpdjgaaGreatDoor
open Go.RowKit

/-- What a name alone says: the operation and Src. -/
def nameP (name : Bs) : Option In := if name = [108, 100, 100, 119] then some ⟨24, 0, 0, 0, 0⟩ else if name = [108, 100, 109, 97, 112] then some ⟨24, 0, 1, 0, 0⟩ else if name = [99, 97, 108, 108, 112] then some ⟨133, 0, 1, 0, 0⟩ else
  match accP name with
  | some op => some ⟨op, 0, 0, 0, 0⟩
  | none => match kindP name with
    | some op => some ⟨op, 0, 0, 0, 0⟩
    | none => none

set_option maxRecDepth 100000 in
set_option maxHeartbeats 4000000 in
theorem named_any (name : Bs) (w : World) (hE : Env w) (hn : name.length ≤ 1073741824) :
    Calls Tryz.prog 41 #[.string ⟨name.toArray⟩] w fun e w' => e = .returned (.tuple #[((nameP name).getD In.zero).v, .bool (nameP name).isSome]) ∧ Touch [] w w' := by
  by_cases h1 : name = [108, 100, 100, 119]
  · have HN := toHid (show nameP name = some ⟨24, 0, 0, 0, 0⟩ by unfold nameP; rw [if_pos h1])
    subst h1
    go_enter Tryz.func41, Tryz.ntmps41
    go_wp2
    exact bodyPost_ret (v := .tuple #[.agg #[.int .u8 24, .int .u8 0, .int .u8 0, .int .i16 0, .int .i32 0], .bool true]) (by simp [results, Tryz.results41, go_sem]) rfl ⟨by rw [show nameP [108, 100, 100, 119] = _ from HN]; rfl, (Touch.refl _ w).alloc _⟩
  by_cases h2 : name = [108, 100, 109, 97, 112]
  · have HN := toHid (show nameP name = some ⟨24, 0, 1, 0, 0⟩ by unfold nameP; rw [if_neg h1, if_pos h2])
    subst h2
    go_enter Tryz.func41, Tryz.ntmps41
    go_wp2
    exact bodyPost_ret (v := .tuple #[.agg #[.int .u8 24, .int .u8 0, .int .u8 1, .int .i16 0, .int .i32 0], .bool true]) (by simp [results, Tryz.results41, go_sem]) rfl ⟨by rw [show nameP [108, 100, 109, 97, 112] = _ from HN]; rfl, (Touch.refl _ w).alloc _⟩
  by_cases h3 : name = [99, 97, 108, 108, 112]
  · have HN := toHid (show nameP name = some ⟨133, 0, 1, 0, 0⟩ by unfold nameP; rw [if_neg h1, if_neg h2, if_pos h3])
    subst h3
    go_enter Tryz.func41, Tryz.ntmps41
    go_wp2
    exact bodyPost_ret (v := .tuple #[.agg #[.int .u8 133, .int .u8 0, .int .u8 1, .int .i16 0, .int .i32 0], .bool true]) (by simp [results, Tryz.results41, go_sem]) rfl ⟨by rw [show nameP [99, 97, 108, 108, 112] = _ from HN]; rfl, (Touch.refl _ w).alloc _⟩
  have b1 : (name == [108, 100, 100, 119]) = false := by simpa using h1
  have b2 : (name == [108, 100, 109, 97, 112]) = false := by simpa using h2
  have b3 : (name == [99, 97, 108, 108, 112]) = false := by simpa using h3
  have hN : nameP name = match accP name with
    | some op => some ⟨op, 0, 0, 0, 0⟩
    | none => match kindP name with
      | some op => some ⟨op, 0, 0, 0, 0⟩
      | none => none := by unfold nameP; rw [if_neg h1, if_neg h2, if_neg h3]
  have HN := toHid hN
  clear hN h1 h2 h3
  have HE := toHid (hE.touch0 ((Touch.refl [] w).alloc (.cells #[.int .u8 0, .int .u8 0, .int .u8 0, .int .i16 0, .int .i32 0] 41)))
  go_enter Tryz.func41, Tryz.ntmps41
  go_wp2_with fail
  refine (access_any name _ HE).mono ?_
  rintro e w2 ⟨rfl, rfl⟩
  generalize hap : accP name = ap at *
  clear hap
  cases ap with
  | some op =>
    go_wp2
    exact bodyPost_ret (v := .tuple #[.agg #[.int .u8 op, .int .u8 0, .int .u8 0, .int .i16 0, .int .i32 0], .bool true]) (by simp [results, Tryz.results41, go_sem]) rfl ⟨by rw [show nameP name = _ from HN]; rfl, (Touch.refl _ w).alloc _⟩
  | none =>
    go_wp2_with fail
    refine (byKind_any name _ HE hn).mono ?_
    rintro e w2 ⟨rfl, rfl⟩
    generalize hkp : kindP name = kp at *
    clear hkp
    cases kp with
    | some op =>
      go_wp2
      exact bodyPost_ret (v := .tuple #[.agg #[.int .u8 op, .int .u8 0, .int .u8 0, .int .i16 0, .int .i32 0], .bool true]) (by simp [results, Tryz.results41, go_sem]) rfl ⟨by rw [show nameP name = _ from HN]; rfl, (Touch.refl _ w).alloc _⟩
    | none =>
      go_wp2
      exact bodyPost_ret (v := .tuple #[.agg #[.int .u8 0, .int .u8 0, .int .u8 0, .int .i16 0, .int .i32 0], .bool false]) (by simp [results, Tryz.results41, go_sem]) rfl ⟨by rw [show nameP name = _ from HN]; rfl, (Touch.refl _ w).alloc _⟩
end Go.Proofs.YthlfnmjefpdjgaaGreatDoor
