/-
  The reference memory: Add, any arguments.
-/
import Derived.Test.YtkfmhabplcikiaaMRAdd
namespace Go.Proofs.Ytkfmhabplcikiaa.Mem
open Go.RowKit

def raddE (all : List RReg) (base size perm : Int) : Int := if mayBeB base size perm = false then 2 else if rbusy all base size = true then 12 else 0

def RAddPost' (w : World) (s : RS) (base size perm : Int) (e : Ending) (w' : World) : Prop :=
  e = .returned (.tuple #[.int .i64 (if raddE s.all base size perm = 0 then (s.all.length : Int) else 0), .int .i64 (raddE s.all base size perm)]) ∧ Touch s.blocks w w' ∧ ∃ s', RefAt w' s' ∧ s'.m = s.m ∧ (∀ x ∈ s'.blocks, x ∈ s.blocks ∨ w.heap.size ≤ x) ∧
    (raddE s.all base size perm ≠ 0 → s'.all = s.all) ∧
    (raddE s.all base size perm = 0 → ∃ r, s'.all = s.all ++ [r] ∧ r.live = true ∧ r.base = base ∧ r.perm = perm ∧ r.bytes = List.replicate size.toNat 0 ∧ r.set = List.replicate size.toNat (decide (perm < 4)))

theorem radd_bad {w : World} {s : RS} (h : RefAt w s) (base size perm : Int) (_hb0 : 0 ≤ base) (_hb1 : base ≤ 18446744073709551615) (hm : mayBeB base size perm = false) :
    Calls Try.prog 9 #[.pointer (some ⟨s.m, 0, none⟩), .int .u64 base, .int .i64 size, .int .i64 perm] w (RAddPost' w s base size perm) := by
  have he : raddE s.all base size perm = 2 := by unfold raddE; rw [if_pos hm]
  have HF : Hid (RAddPost' w s base size perm (.returned (.tuple #[.int .i64 0, .int .i64 2])) w) :=
    ⟨by rw [he]; rfl, Touch.refl _ w, s, h, rfl, fun x hx => Or.inl hx, fun _ => rfl, fun hh => by rw [he] at hh; cases hh⟩
  unfold mayBeB at hm
  have hm := of_decide_eq_false hm
  clear he h
  by_cases h1 : size < 1
  · clear hm
    go_enter Try.func9, Try.ntmps9
    go_wp2
    go_ret2
    exact HF.out
  · by_cases h2 : 65536 < size
    · clear hm
      go_enter Try.func9, Try.ntmps9
      go_wp2
      go_ret2
      exact HF.out
    · by_cases h3 : perm < 0
      · clear hm
        go_enter Try.func9, Try.ntmps9
        go_wp2
        go_ret2
        exact HF.out
      · by_cases h4 : 7 < perm
        · clear hm
          go_enter Try.func9, Try.ntmps9
          go_wp2
          go_ret2
          exact HF.out
        · have hw0 : IntKind.u64.wrap (IntKind.u64.wrap (18446744073709551615 - IntKind.u64.wrap size) + 1) = 18446744073709551616 - size := by simp only [IntKind.wrap_u64]; omega
          have h5 : 18446744073709551616 - size < base := by omega
          clear hm
          go_enter Try.func9, Try.ntmps9
          go_wp2
          go_ret2
          exact HF.out

theorem radd_any {w : World} {s : RS} (h : RefAt w s) (base size perm : Int) (hb0 : 0 ≤ base) (hb1 : base ≤ 18446744073709551615) (hlen : s.all.length < 1000) :
    Calls Try.prog 9 #[.pointer (some ⟨s.m, 0, none⟩), .int .u64 base, .int .i64 size, .int .i64 perm] w (RAddPost' w s base size perm) := by
  cases hm : mayBeB base size perm with
  | false => exact radd_bad h base size perm hb0 hb1 hm
  | true =>
    have hb := of_decide_eq_true hm
    obtain ⟨z, rfl⟩ : ∃ z : Nat, size = z := ⟨size.toNat, by omega⟩
    refine (radd_good h base z perm hb0 (by omega) (by omega) (by omega) (by omega) (by omega) hlen).mono ?_
    rintro e w' (⟨hbz, rfl, hr, ht⟩ | ⟨hbz, rfl, ht, s', r, hr, hsm, hbl, hall, h1, h2, h3, h4, h5⟩)
    · have he : raddE s.all base z perm = 12 := by unfold raddE; rw [if_neg (by rw [hm]; decide), if_pos hbz]
      exact ⟨by rw [he]; rfl, ht.nil, s, hr, rfl, fun x hx => Or.inl hx, fun _ => rfl, fun hh => by rw [he] at hh; cases hh⟩
    · have he : raddE s.all base z perm = 0 := by unfold raddE; rw [if_neg (by rw [hm]; decide), if_neg (by rw [hbz]; decide)]
      exact ⟨by rw [he]; rfl, ht, s', hr, hsm, hbl, fun hh => absurd he hh, fun _ => ⟨r, hall, h1, h2, h3, by simpa using h4, by simpa using h5⟩⟩
end Go.Proofs.Ytkfmhabplcikiaa.Mem
