/-
  What try answers is what its words say, and the other way round.
-/
import Derived.Test.YthlfnmjefpdjgaaGreatDoorTryB
import Derived.Test.YthlfnmjefpdjgaaGreatDoorRPrint
namespace Go.Proofs.YthlfnmjefpdjgaaGreatDoor
open Go.RowKit

theorem tryP_some (op src : Nat) (hop : op ≤ 255) (hk : knownB op = true) (hsrc : src ≤ 1) (name : Bs) (fs : List Bs) (L : List In) (h : tryP op src name fs = some L) : Grp L ∧ name :: fs = words (lineG L) := by
  unfold tryP at h
  cases hf : tryF op (usOf op) (ordOf op) fs (inOf op src) In.zero with
  | none => rw [hf] at h; cases h
  | some r =>
    obtain ⟨i, nx, rest⟩ := r
    rw [hf] at h
    cases rest with
    | cons y r => cases h
    | nil =>
      simp only at h
      obtain ⟨hg, hiop, hfs, hnx, _⟩ := tryF_good op src hop hk hsrc fs i nx hf
      split at h
      · rename_i hcond
        have hw := words_line i nx hg
        have hname : nameOfP i = name := by
          have := hcond.2
          rw [hw] at this
          simpa using this
        have hws : name :: fs = words (lineP i nx) := by rw [hw, hname, hiop, hfs]
        have hwd : wideB i.op = true ↔ i.op = 24 := by unfold wideB; simp
        by_cases h24 : (op : Int) = 24
        · rw [if_pos h24] at h
          cases h
          exact ⟨Or.inr ⟨i, nx, rfl, hg, hwd.2 (by rw [hiop]; exact h24), (hnx h24).1, (hnx h24).2⟩, hws⟩
        · rw [if_neg h24] at h
          cases h
          have hnw : wideB i.op = false := by
            cases hb : wideB i.op with
            | false => rfl
            | true => exact absurd (hiop.symm.trans (hwd.1 hb)) h24
          refine ⟨Or.inl ⟨i, rfl, hg, hnw⟩, ?_⟩
          rw [hws, lineG, line_nx i nx In.zero]
          intro h0
          have := (wide_class i.op hg.pl.ok.op0 hg.pl.ok.op1 hg.pl.known).2 h0
          rw [hnw] at this
          cases this
      · cases h
/-- What try answers, the lines' reading answers too. -/
theorem tryP_slots (op src : Nat) (hop : op ≤ 255) (hk : knownB op = true) (hsrc : src ≤ 1) (name : Bs) (fs : List Bs) (L : List In) (h : tryP op src name fs = some L) : slotsW (name :: fs) = some L := by
  obtain ⟨hg, hw⟩ := tryP_some op src hop hk hsrc name fs L h
  rw [hw]
  exact (slots_line L hg).1
end Go.Proofs.YthlfnmjefpdjgaaGreatDoor
