/-
  The reference's Begin: the slots at which instructions begin.
-/
import Derived.Test.YtpoliblfgioocaaSlots
namespace Go.Proofs.Ytpoliblfgioocaa
open Go.RowKit

theorem info3 : (Try.prog.info? 3).map (fun i => (i.zero, i.size, i.bytes)) = some (some (.int .i64 0), 1, 8) := by kernel_rfl
theorem info4 : (Try.prog.info? 4).map (fun i => (i.zero, i.size, i.bytes)) = some (some (.bool false), 1, 1) := by kernel_rfl

/-- A list of numbers of a call's own. -/
def OwnN (w0 w : World) (v : Value) (l : List Nat) : Prop := ∃ g cap, v = slV g l.length cap ∧ NumsAt w g cap l ∧ ∀ b, g = some b → w0.heap.size ≤ b
theorem OwnN.nil (w0 w : World) : OwnN w0 w (.slice none 0 0) [] := ⟨none, 0, rfl, ⟨rfl, Nat.le_refl _, by unfold maxLen; omega, rfl⟩, fun b hb => by cases hb⟩
theorem OwnN.touch {w0 w w' : World} {v : Value} {l : List Nat} (h : OwnN w0 w v l) (ht : Touch [] w w') : OwnN w0 w' v l := by
  obtain ⟨g, cap, h1, h2, h3⟩ := h
  exact ⟨g, cap, h1, h2.touch ht (by simp), h3⟩
theorem OwnN.down {w0 w1 w : World} {v : Value} {l : List Nat} (h : OwnN w1 w v l) (hs : w0.heap.size ≤ w1.heap.size) : OwnN w0 w v l := by
  obtain ⟨g, cap, h1, h2, h3⟩ := h
  exact ⟨g, cap, h1, h2, fun b hb => Nat.le_trans hs (h3 b hb)⟩
/-- One number appended. -/
theorem OwnN.push {w0 w : World} {v : Value} {l : List Nat} (h : OwnN w0 w v l) (ht : Touch [] w0 w) (x : Nat) (hl : l.length + 1 ≤ 17592186044416) :
    ∃ v' w', (Builtin.append_ #[35, 35] 35 #[v, .slice (some ⟨w.heap.size, 0, none⟩) 1 1]).run Try.prog (w.alloc (.cells #[.int .i64 (x : Int)] 3)) = .ok v' w' ∧ OwnN w0 w' v' (l ++ [x]) ∧ Touch [] w0 w' := by
  have hN := Blk.newA w #[.int .i64 (x : Int)] _ 3 rfl
  have hta : Touch [] w (w.alloc (.cells #[.int .i64 (x : Int)] 3)) := (Touch.refl _ w).alloc _
  obtain ⟨g, cap, rfl, hrow, hg⟩ := h.touch hta
  obtain ⟨i, hi, hz, hs, hb⟩ := info_of info3
  obtain ⟨g', cap', w', hr, h2, h3, h4, _⟩ := run_append_row (P := Try.prog) (w.alloc (.cells #[.int .i64 (x : Int)] 3)) 35 35 3 i (.int .i64 0) 1 Try.underlying35 hi hz hs rfl (by omega) g l.length cap _ hrow ⟨w.heap.size, 0, none⟩ 1 1 [.int .i64 (x : Int)] rfl
    (fun j u hj => by
      rw [Addr.add_lit]
      have : j = 0 := by have := (List.getElem?_eq_some_iff.1 hj).1; simp at this; exact this
      subst this
      exact hN.cell hj) (fun u hu => by
      simp only [List.mem_singleton] at hu
      subst hu
      rfl) (by rw [hb]; omega) (by omega)
  have ht2 := ht.trans hta (by simp)
  have hsz := ht2.size
  refine ⟨_, w', hr, ⟨g', cap', by simp, by simpa [NumsAt] using h2, fun b hb => ?_⟩, ht2.trans h3 (fun y hy => Or.inr (hg y (by simpa using hy)))⟩
  rcases h4 with rfl | rfl
  · exact hg b hb
  · injection hb with hb
    omega

theorem beg_len (f : Nat → In) (n : Nat) {l : List Nat} {k : Nat} (h : begL f n = l ++ begFrom f n k) : l.length ≤ n := by
  have h1 := begL_pair f n
  have h2 : (begL f n).length ≤ n := by
    have : ∀ (l : List Nat) (m : Nat), l.Pairwise (· < ·) → (∀ x ∈ l, m ≤ x ∧ x < n) → l.length ≤ n - m := by
      intro l
      induction l with
      | nil => intro m _ _; simp
      | cons a l ih =>
        intro m hp hb
        have hp2 := List.pairwise_cons.1 hp
        have ha := hb a (by simp)
        have := ih (a + 1) hp2.2 (fun x hx => ⟨hp2.1 x hx, (hb x (by simp [hx])).2⟩)
        simp only [List.length_cons]
        omega
    simpa using this (begL f n) 0 h1 (fun x hx => ⟨by omega, begL_lt hx⟩)
  rw [h] at h2
  simp at h2
  omega
theorem begL_len (f : Nat → In) (n : Nat) : (begL f n).length ≤ n := by
  refine beg_len f n (l := begL f n) (k := n) ?_
  rw [beg_stop (by omega)]
  simp

set_option maxHeartbeats 2000000 in
set_option maxRecDepth 100000 in
theorem begin_any (sa : Option Addr) (n c : Nat) (f : Nat → In) (w : World) (h : ListAt w sa n f) (hn : n ≤ 17592186044415) :
    Calls Try.prog 12 #[.slice sa n c] w fun e w' => (∃ v, e = .returned v ∧ OwnN w w' v (begL f n)) ∧ Touch [] w w' := by
  have HS := toHid h
  clear h
  go_enter Try.func12, Try.ntmps12
  go_wp2
  go_loopw [3, 4] (fun o t w' => ∃ (k : Nat) (l : List Nat), k ≤ n ∧ t = .int .i64 k ∧ Hid (begL f n = l ++ begFrom f n k ∧ OwnN w w' o l ∧ Touch [] w w')) (fun _ t _ => n - (intOf t).toNat)
  case atStart => exact ⟨0, [], by omega, rfl, toHid ⟨rfl, OwnN.nil _ _, Touch.refl _ _⟩⟩
  case round =>
    obtain ⟨k, l, hk, rfl, HI⟩ := hrel
    by_cases hlt : k < n
    · have HR := toHid ((HS.out.touch HI.out.2.2 (by simp)).rplain c k hlt (by omega))
      by_cases he : errP f n k = 0
      · rw [plain_eq hlt he] at HR
        have hl := plain_len hlt he
        have l1 : 1 ≤ lenP f n k := hl.2.1
        have l2 : k + lenP f n k ≤ n := hl.2.2
        have HB : Hid (begL f n = (l ++ [k]) ++ begFrom f n (k + lenP f n k)) := toHid (by
          rw [HI.out.1, beg_step hlt he]
          simp)
        have hlen := beg_len f n HB.out
        simp only [List.length_append, List.length_cons, List.length_nil] at hlen
        clear hl
        generalize lenP f n k = m at *
        go_wp2_with fail
        refine Calls.mono HR.out ?_
        rintro e w2 ⟨rfl, ht2⟩
        have HT2 := toHid (HI.out.2.2.trans ht2 (by simp))
        obtain ⟨v', w', hr, ho, ht⟩ := (HI.out.2.1.touch ht2).push HT2.out k (by omega)
        have HRR := toHid hr
        have HO := toHid (And.intro ho ht)
        clear hr ho ht ht2 HR
        go_wp2_with (at_builtin; refine Lib.wpList_append_run _ rfl _ _ _ _ rfl _ _ rfl rfl _ _ HRR.out ?_)
        exact ⟨⟨k + m, l ++ [k], by omega, by go_num, toHid ⟨HB.out, HO.out⟩⟩, by simp [intOf]; omega⟩
      · have HB : Hid (begL f n = l) := toHid (by rw [HI.out.1, beg_stop (fun h => he h.2)]; simp)
        have he2 : ((plainOf f n k).2 != 0) = true := by simpa [errP] using he
        generalize plainOf f n k = pr at *
        go_wp2_with fail
        refine Calls.mono HR.out ?_
        rintro e w2 ⟨rfl, ht2⟩
        have HT2 := toHid (HI.out.2.2.trans ht2 (by simp))
        have HO := toHid (HI.out.2.1.touch ht2)
        clear ht2 HR
        go_wp2
        go_ret
        exact ⟨⟨_, rfl, by rw [HB.out]; exact HO.out⟩, HT2.out⟩
    · have HB : Hid (begL f n = l) := toHid (by rw [HI.out.1, beg_stop (fun h => hlt h.1)]; simp)
      go_wp2
      go_ret
      exact ⟨⟨_, rfl, by rw [HB.out]; exact HI.out.2.1⟩, HI.out.2.2⟩
end Go.Proofs.Ytpoliblfgioocaa
