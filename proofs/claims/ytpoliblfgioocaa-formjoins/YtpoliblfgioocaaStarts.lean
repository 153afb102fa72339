/-
  Starts: by slot, whether an instruction begins there.
-/
import Derived.Test.YtpoliblfgioocaaBegin
namespace Go.Proofs.Ytpoliblfgioocaa
open Go.RowKit

/-- A row of n marks. -/
def marks (n : Nat) (p : Nat → Bool) : List Value := (List.range n).map fun j => Value.bool (p j)
theorem marks_len (n : Nat) (p : Nat → Bool) : (marks n p).length = n := by simp [marks]
theorem marks_get {n j : Nat} {p : Nat → Bool} (h : j < n) : (marks n p)[j]? = some (.bool (p j)) := by
  simp [marks, h]
theorem marks_none (n : Nat) : List.replicate n (Value.bool false) = marks n (fun _ => false) := by
  simp [marks, List.map_const']
theorem marks_set {n k : Nat} (p q : Nat → Bool) (hk : q k = true) (h : ∀ j, j ≠ k → q j = p j) : (marks n p).set k (.bool true) = marks n q := by
  apply List.ext_getElem?
  intro i
  by_cases hi : i < n
  · rw [marks_get hi, List.getElem?_set]
    by_cases hik : k = i
    · subst hik
      simp [marks_len, hi, hk]
    · rw [if_neg hik, marks_get hi, h i (fun e => hik e.symm)]
  · rw [List.getElem?_eq_none (by simp [marks_len]; omega), List.getElem?_eq_none (by simp [marks_len]; omega)]
theorem marks_congr {n : Nat} {p q : Nat → Bool} (h : ∀ j, p j = q j) : marks n p = marks n q := by
  simp only [marks, h]
def inB (l : List Nat) (j : Nat) : Bool := decide (j ∈ l)
def startsB (f : Nat → In) (n : Nat) : Nat → Bool := inB (begL f n)

set_option maxHeartbeats 2000000 in
set_option maxRecDepth 100000 in
theorem starts_any (sa : Option Addr) (n c : Nat) (f : Nat → In) (w : World) (h : ListAt w sa n f) (hn : n ≤ 17592186044415) :
    Calls Try.prog 10 #[.slice sa n c] w fun e w' => e = .returned (.slice (some ⟨w.heap.size, 0, none⟩) n n) ∧ Blk w' w.heap.size (marks n (startsB f n)) 4 ∧ Touch [] w w' := by
  have HS := toHid h
  clear h
  have hmk := run_make_blk (P := Try.prog) Try.underlying33 info4 rfl n (by omega) (by omega) .i64
  have HB := toHid (show Blk (w.alloc (.cells (Array.replicate n (Value.bool false)) 4)) w.heap.size (marks n fun _ => false) 4 from Blk.newA w _ _ 4 (by rw [← marks_none]; simp))
  have HT := toHid ((Touch.refl [] w).alloc (.cells (Array.replicate n (Value.bool false)) 4))
  go_enter Try.func10, Try.ntmps10
  go_wp2_with fail
  clear hmk
  generalize World.alloc _ _ = w1 at *
  go_loopw [4] (fun t w' => ∃ (k : Nat) (l : List Nat), k ≤ n ∧ t = .int .i64 k ∧ Hid (begL f n = l ++ begFrom f n k ∧ Blk w' w.heap.size (marks n (inB l)) 4 ∧ Touch [] w w')) (fun t _ => n - (intOf t).toNat)
  case atStart => exact ⟨0, [], by omega, rfl, toHid ⟨rfl, by rw [marks_congr (q := fun _ => false) (fun j => by simp [inB])]; exact HB.out, HT.out⟩⟩
  case round =>
    clear HB HT
    obtain ⟨k, l, hk, rfl, HI⟩ := hrel
    by_cases hlt : k < n
    · have HR := toHid ((HS.out.touch HI.out.2.2 (by simp)).plain c k hlt (by omega))
      by_cases he : errP f n k = 0
      · rw [plain_eq hlt he] at HR
        have hl := plain_len hlt he
        have l1 : 1 ≤ lenP f n k := hl.2.1
        have l2 : k + lenP f n k ≤ n := hl.2.2
        have HB : Hid (begL f n = (l ++ [k]) ++ begFrom f n (k + lenP f n k)) := toHid (by
          rw [HI.out.1, beg_step hlt he]
          simp)
        clear hl
        generalize lenP f n k = m at *
        go_wp2_with fail
        refine Calls.mono HR.out ?_
        rintro e w2 ⟨rfl, ht2⟩
        have HT2 := toHid (HI.out.2.2.trans ht2 (by simp))
        have hb2 := ht2.blk HI.out.2.1 (by simp)
        have hc := hb2.cell (marks_get hlt)
        have hfz := hb2.frozen k
        have HN : Hid (Blk (w2.setCell ⟨w.heap.size, k, none⟩ (.bool true)) w.heap.size (marks n (inB (l ++ [k]))) 4) := toHid (by
          have := hb2.setCell k (.bool true)
          rwa [marks_set (q := inB (l ++ [k])) _ (by simp [inB]) (fun j hj => by simp [inB, hj])] at this)
        have HT3 := toHid (HT2.out.setCell ⟨w.heap.size, k, none⟩ (.bool true) (Or.inr (Nat.le_refl _)))
        clear ht2 hb2
        go_wp2
        go_roundw
        case rel => exact ⟨k + m, l ++ [k], by omega, by go_num, toHid ⟨HB.out, HN.out, HT3.out⟩⟩
        case measure => simp [intOf]; omega
      · have HB : Hid (begL f n = l) := toHid (by rw [HI.out.1, beg_stop (fun h => he h.2)]; simp)
        have he2 : ((plainOf f n k).2 != 0) = true := by simpa [errP] using he
        generalize plainOf f n k = pr at *
        go_wp2_with fail
        refine Calls.mono HR.out ?_
        rintro e w2 ⟨rfl, ht2⟩
        have HT2 := toHid (HI.out.2.2.trans ht2 (by simp))
        have HO := toHid (ht2.blk HI.out.2.1 (by simp))
        clear ht2 HR
        go_wp2
        go_ret
        exact ⟨rfl, by rw [startsB, HB.out]; exact HO.out, HT2.out⟩
    · have HB : Hid (begL f n = l) := toHid (by rw [HI.out.1, beg_stop (fun h => hlt h.1)]; simp)
      go_wp2
      go_ret
      exact ⟨rfl, by rw [startsB, HB.out]; exact HI.out.2.1, HI.out.2.2⟩
end Go.Proofs.Ytpoliblfgioocaa
