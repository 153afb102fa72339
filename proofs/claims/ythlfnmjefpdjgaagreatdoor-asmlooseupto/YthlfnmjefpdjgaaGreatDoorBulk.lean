/-
  How long a slice may be whose reading is of a bounded bulk.
-/
import Derived.Test.YthlfnmjefpdjgaaGreatDoorRows
namespace Go.Proofs.YthlfnmjefpdjgaaGreatDoor

theorem bulk_pos {H : Type} : ∀ d : DataW H, 0 < Rows.uptoBulk d
  | .lit l => by cases l <;> simp [Rows.uptoBulk]
  | .nil => by simp [Rows.uptoBulk]
  | .ptr _ => by simp [Rows.uptoBulk]
  | .slice _ _ => by simp [Rows.uptoBulk]
  | .agg _ => by simp [Rows.uptoBulk]
  | .iface _ _ => by simp [Rows.uptoBulk]
  | .map _ => by simp [Rows.uptoBulk]
  | .held _ => by simp [Rows.uptoBulk]
theorem bulk_count {H : Type} : ∀ l : List (DataW H), l.length ≤ Rows.uptoBulkAll l
  | [] => Nat.zero_le _
  | d :: r => by
    have h1 := bulk_pos d
    have h2 := bulk_count r
    simp only [Rows.uptoBulkAll, List.length_cons]
    omega
theorem bulk_slice {H : Type} (a b : List (DataW H)) (n : Nat) (h : Rows.uptoBulk (.slice a b) ≤ n) : a.length + b.length ≤ n := by
  have h1 := bulk_count a
  have h2 := bulk_count b
  simp only [Rows.uptoBulk] at h
  omega
end Go.Proofs.YthlfnmjefpdjgaaGreatDoor
