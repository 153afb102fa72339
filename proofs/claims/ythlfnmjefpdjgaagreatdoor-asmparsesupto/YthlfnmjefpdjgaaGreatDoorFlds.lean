/-
  What fieldsOf answers: which words stand behind a line's first.
-/
import Derived.Test.YthlfnmjefpdjgaaGreatDoorNamed
namespace Go.Proofs.YthlfnmjefpdjgaaGreatDoor
open Go.RowKit

def jumpF (op : Int) : List Nat := if op / 16 * 16 = 0 then [3] else if op / 16 * 16 = 128 then [4] else if op / 16 * 16 = 144 then [] else [0, 2, 3]
/-- The fields of an operation: 0 Dst, 1 Src, 2 operand, 3 Off, 4 Imm, 5 a number of 64 bits. -/
def fieldsP (op : Int) : List Nat := if op % 8 = 0 then [0, 5] else if op % 8 = 1 then [0, 1, 3] else if op % 8 = 2 then [0, 3, 4] else if op % 8 = 3 then [0, 3, 1] else
  if op % 8 = 4 ∨ op % 8 = 7 then (if op / 16 * 16 = 128 then [0] else [0, 2]) else jumpF op
/-- A slice of fields in memory. -/
def FldAt (w : World) (a : Option Addr) (fs : List Nat) : Prop := fs = [] ∧ a = none ∨ ∃ N, a = some ⟨N, 0, none⟩ ∧ Blk w N (fs.map fun f : Nat => .int .i64 (f : Int)) 70
def FldPost (w : World) (fs : List Nat) (e : Ending) (w' : World) : Prop := ∃ a, e = .returned (.slice a fs.length fs.length) ∧ FldAt w' a fs ∧ Touch [] w w' ∧ ∀ N, a = some ⟨N, 0, none⟩ → w.heap.size ≤ N
theorem FldAt.touch {S : List Nat} {w w' : World} {a : Option Addr} {fs : List Nat} (h : FldAt w a fs) (ht : Touch S w w') (hS : ∀ x ∈ S, w.heap.size ≤ x ∨ ∀ N, a = some ⟨N, 0, none⟩ → N ≠ x) : FldAt w' a fs := by
  rcases h with ⟨h1, h2⟩ | ⟨N, h1, h2⟩
  · exact Or.inl ⟨h1, h2⟩
  · refine Or.inr ⟨N, h1, ht.blk h2 (fun hm => ?_)⟩
    rcases hS N hm with h | h
    · have := h2.lt; omega
    · exact h N h1 rfl
theorem fld_new (w : World) (fs : List Nat) (arr : Array Value) (h : arr.toList = fs.map fun f : Nat => .int .i64 (f : Int)) : FldAt (w.alloc (.cells arr 70)) (some ⟨w.heap.size, 0, none⟩) fs :=
  Or.inr ⟨_, rfl, Blk.newA w arr _ 70 h⟩

set_option maxHeartbeats 2000000 in
theorem fieldsOfJump_any (op : Int) (w : World) (h0 : 0 ≤ op) (h1 : op ≤ 255) :
    Calls Tryz.prog 59 #[.int .u8 op] w (FldPost w (jumpF op)) := by
  by_cases e0 : op / 16 * 16 = 0
  · have hj : jumpF op = [3] := by unfold jumpF; rw [if_pos e0]
    go_enter Tryz.func59, Tryz.ntmps59
    go_wp2_with (first | (go_at_call 46; refine (kind_any op _ h0 h1).mono ?_; rintro e w1 ⟨rfl, rfl⟩) | fail)
    go_ret
    rw [hj]
    exact ⟨_, rfl, fld_new _ [3] _ rfl, (Touch.refl _ _).alloc _, fun N h => by cases h; exact Nat.le_refl _⟩
  by_cases e1 : op / 16 * 16 = 128
  · have hj : jumpF op = [4] := by unfold jumpF; rw [if_neg e0, if_pos e1]
    go_enter Tryz.func59, Tryz.ntmps59
    go_wp2_with (first | (go_at_call 46; refine (kind_any op _ h0 h1).mono ?_; rintro e w1 ⟨rfl, rfl⟩) | fail)
    go_ret
    rw [hj]
    exact ⟨_, rfl, fld_new _ [4] _ rfl, (Touch.refl _ _).alloc _, fun N h => by cases h; exact Nat.le_refl _⟩
  by_cases e2 : op / 16 * 16 = 144
  · have hj : jumpF op = [] := by unfold jumpF; rw [if_neg e0, if_neg e1, if_pos e2]
    go_enter Tryz.func59, Tryz.ntmps59
    go_wp2_with (first | (go_at_call 46; refine (kind_any op _ h0 h1).mono ?_; rintro e w1 ⟨rfl, rfl⟩) | fail)
    go_ret
    rw [hj]
    exact ⟨_, rfl, Or.inl ⟨rfl, rfl⟩, Touch.refl _ _, fun N h => by cases h⟩
  have hj : jumpF op = [0, 2, 3] := by unfold jumpF; rw [if_neg e0, if_neg e1, if_neg e2]
  go_enter Tryz.func59, Tryz.ntmps59
  go_wp2_with (first | (go_at_call 46; refine (kind_any op _ h0 h1).mono ?_; rintro e w1 ⟨rfl, rfl⟩) | fail)
  go_ret
  rw [hj]
  exact ⟨_, rfl, fld_new _ [0, 2, 3] _ rfl, (Touch.refl _ _).alloc _, fun N h => by cases h; exact Nat.le_refl _⟩

set_option maxHeartbeats 4000000 in
theorem fieldsOf_any (op : Int) (w : World) (h0 : 0 ≤ op) (h1 : op ≤ 255) :
    Calls Tryz.prog 31 #[.int .u8 op] w (FldPost w (fieldsP op)) := by
  have hc : op % 8 = 0 ∨ op % 8 = 1 ∨ op % 8 = 2 ∨ op % 8 = 3 ∨ op % 8 = 4 ∨ op % 8 = 7 ∨ op % 8 = 5 ∨ op % 8 = 6 := by omega
  rcases hc with hc | hc | hc | hc | hc | hc | hc | hc
  · have hj : fieldsP op = [0, 5] := by simp [fieldsP, hc]
    go_enter Tryz.func31, Tryz.ntmps31
    go_wp2_with (first | (go_at_call 45; refine (class_any op _ h0 h1).mono ?_; rintro e w1 ⟨rfl, rfl⟩) | fail)
    go_ret
    rw [hj]
    exact ⟨_, rfl, fld_new _ [0, 5] _ rfl, (Touch.refl _ _).alloc _, fun N h => by cases h; exact Nat.le_refl _⟩
  · have hj : fieldsP op = [0, 1, 3] := by simp [fieldsP, hc]
    go_enter Tryz.func31, Tryz.ntmps31
    go_wp2_with (first | (go_at_call 45; refine (class_any op _ h0 h1).mono ?_; rintro e w1 ⟨rfl, rfl⟩) | fail)
    go_ret
    rw [hj]
    exact ⟨_, rfl, fld_new _ [0, 1, 3] _ rfl, (Touch.refl _ _).alloc _, fun N h => by cases h; exact Nat.le_refl _⟩
  · have hj : fieldsP op = [0, 3, 4] := by simp [fieldsP, hc]
    go_enter Tryz.func31, Tryz.ntmps31
    go_wp2_with (first | (go_at_call 45; refine (class_any op _ h0 h1).mono ?_; rintro e w1 ⟨rfl, rfl⟩) | fail)
    go_ret
    rw [hj]
    exact ⟨_, rfl, fld_new _ [0, 3, 4] _ rfl, (Touch.refl _ _).alloc _, fun N h => by cases h; exact Nat.le_refl _⟩
  · have hj : fieldsP op = [0, 3, 1] := by simp [fieldsP, hc]
    go_enter Tryz.func31, Tryz.ntmps31
    go_wp2_with (first | (go_at_call 45; refine (class_any op _ h0 h1).mono ?_; rintro e w1 ⟨rfl, rfl⟩) | fail)
    go_ret
    rw [hj]
    exact ⟨_, rfl, fld_new _ [0, 3, 1] _ rfl, (Touch.refl _ _).alloc _, fun N h => by cases h; exact Nat.le_refl _⟩
  · by_cases hk : op / 16 * 16 = 128
    · have hj : fieldsP op = [0] := by simp [fieldsP, hc, hk]
      go_enter Tryz.func31, Tryz.ntmps31
      go_wp2_with (first | (go_at_call 45; refine (class_any op _ h0 h1).mono ?_; rintro e w1 ⟨rfl, rfl⟩) | (go_at_call 46; refine (kind_any op _ h0 h1).mono ?_; rintro e w1 ⟨rfl, rfl⟩) | fail)
      go_ret
      rw [hj]
      exact ⟨_, rfl, fld_new _ [0] _ rfl, (Touch.refl _ _).alloc _, fun N h => by cases h; exact Nat.le_refl _⟩
    · have hj : fieldsP op = [0, 2] := by simp [fieldsP, hc, hk]
      go_enter Tryz.func31, Tryz.ntmps31
      go_wp2_with (first | (go_at_call 45; refine (class_any op _ h0 h1).mono ?_; rintro e w1 ⟨rfl, rfl⟩) | (go_at_call 46; refine (kind_any op _ h0 h1).mono ?_; rintro e w1 ⟨rfl, rfl⟩) | fail)
      go_ret
      rw [hj]
      exact ⟨_, rfl, fld_new _ [0, 2] _ rfl, (Touch.refl _ _).alloc _, fun N h => by cases h; exact Nat.le_refl _⟩
  · by_cases hk : op / 16 * 16 = 128
    · have hj : fieldsP op = [0] := by simp [fieldsP, hc, hk]
      go_enter Tryz.func31, Tryz.ntmps31
      go_wp2_with (first | (go_at_call 45; refine (class_any op _ h0 h1).mono ?_; rintro e w1 ⟨rfl, rfl⟩) | (go_at_call 46; refine (kind_any op _ h0 h1).mono ?_; rintro e w1 ⟨rfl, rfl⟩) | fail)
      go_ret
      rw [hj]
      exact ⟨_, rfl, fld_new _ [0] _ rfl, (Touch.refl _ _).alloc _, fun N h => by cases h; exact Nat.le_refl _⟩
    · have hj : fieldsP op = [0, 2] := by simp [fieldsP, hc, hk]
      go_enter Tryz.func31, Tryz.ntmps31
      go_wp2_with (first | (go_at_call 45; refine (class_any op _ h0 h1).mono ?_; rintro e w1 ⟨rfl, rfl⟩) | (go_at_call 46; refine (kind_any op _ h0 h1).mono ?_; rintro e w1 ⟨rfl, rfl⟩) | fail)
      go_ret
      rw [hj]
      exact ⟨_, rfl, fld_new _ [0, 2] _ rfl, (Touch.refl _ _).alloc _, fun N h => by cases h; exact Nat.le_refl _⟩
  all_goals
    have hj : fieldsP op = jumpF op := by simp [fieldsP, hc]
    rw [hj]
    go_enter Tryz.func31, Tryz.ntmps31
    go_wp2_with (first | (go_at_call 45; refine (class_any op _ h0 h1).mono ?_; rintro e w1 ⟨rfl, rfl⟩) | fail)
    refine (fieldsOfJump_any op _ h0 h1).mono ?_
    rintro e w2 ⟨a, rfl, h2, h3⟩
    go_wp2
    go_ret
    exact ⟨a, rfl, h2, h3⟩
end Go.Proofs.YthlfnmjefpdjgaaGreatDoor
