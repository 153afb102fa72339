/-
  The document's own Plain answers the same.
-/
import Derived.Test.YtpoliblfgioocaaPlain
import Derived.Deep.CutRange
namespace Go.Proofs.Ytpoliblfgioocaa
open Go.RowKit

set_option maxHeartbeats 1000000 in
theorem rplain_out (sa : Option Addr) (n c : Nat) (at_ : Int) (w : World) (h : at_ < 0 ∨ (n : Int) ≤ at_) :
    Calls Try.prog 23 #[.slice sa n c, .int .i64 at_] w fun e w' => e = .returned (.tuple #[.int .i64 0, .int .i64 2]) ∧ w' = w := by
  by_cases h0 : at_ < 0
  · go_enter Try.func23, Try.ntmps23
    go_wp2
    exact bodyPost_ret (v := .tuple #[.int .i64 0, .int .i64 2]) (by simp [results, Try.results23, go_sem]) rfl ⟨rfl, rfl⟩
  · have h1 : (n : Int) ≤ at_ := by omega
    go_enter Try.func23, Try.ntmps23
    go_wp2
    exact bodyPost_ret (v := .tuple #[.int .i64 0, .int .i64 2]) (by simp [results, Try.results23, go_sem]) rfl ⟨rfl, rfl⟩

/-- The first half of what is asked. -/
def bad1B (i : In) (d s o m : Bool) : Bool := decide (d = true ∧ 10 < i.dst ∨ d = false ∧ i.dst ≠ 0 ∨ s = true ∧ 10 < i.src ∨ s = false ∧ i.src ≠ 0 ∨ o = false ∧ i.off ≠ 0 ∨ m = false ∧ i.imm ≠ 0)
theorem bad1_mk {i : In} {d s o m b : Bool} (h : b = true ↔ (d = true ∧ 10 < i.dst ∨ d = false ∧ i.dst ≠ 0 ∨ s = true ∧ 10 < i.src ∨ s = false ∧ i.src ≠ 0 ∨ o = false ∧ i.off ≠ 0 ∨ m = false ∧ i.imm ≠ 0)) : b = bad1B i d s o m := by
  unfold bad1B
  rw [Bool.eq_iff_iff, h, decide_eq_true_iff]
theorem rbad_parts (i : In) : badB i = (bad1B i (usesOf i.op).d (usesOf i.op).s (usesOf i.op).o (usesOf i.op).i || decide ((i.op = 133 ∨ i.op = 24) ∧ 1 < i.src)) := by
  unfold badB bad1B
  rw [Bool.eq_iff_iff]
  simp only [decide_eq_true_iff, Bool.or_eq_true]

theorem tail_cases (j : In) : (tailB j = true ∧ j.op = 0 ∧ j.dst = 0 ∧ j.src = 0 ∧ j.off = 0) ∨ (tailB j = false ∧ (¬ j.op = 0 ∨ j.op = 0 ∧ ¬ j.dst = 0 ∨ j.op = 0 ∧ j.dst = 0 ∧ ¬ j.src = 0 ∨ j.op = 0 ∧ j.dst = 0 ∧ j.src = 0 ∧ ¬ j.off = 0)) := by
  unfold tailB
  by_cases t : j.op = 0 ∧ j.dst = 0 ∧ j.src = 0 ∧ j.off = 0
  · exact Or.inl ⟨decide_eq_true t, t⟩
  · exact Or.inr ⟨decide_eq_false t, by omega⟩

set_option maxHeartbeats 8000000 in
set_option maxRecDepth 100000 in
theorem rplain_in (b off n c k : Nat) (f : Nat → In) (w : World) (hk : k < n) (hn : n ≤ 9223372036854775807) (_hb : b < w.heap.size) (ok : (f k).Ok)
    (c0 : w.cell? ⟨b, off + k * 5, none⟩ = some (.int .u8 (f k).op)) (c1 : w.cell? ⟨b, off + k * 5 + 1, none⟩ = some (.int .u8 (f k).dst)) (c2 : w.cell? ⟨b, off + k * 5 + 2, none⟩ = some (.int .u8 (f k).src))
    (c3 : w.cell? ⟨b, off + k * 5 + 3, none⟩ = some (.int .i16 (f k).off)) (c4 : w.cell? ⟨b, off + k * 5 + 4, none⟩ = some (.int .i32 (f k).imm))
    (e : k + 1 < n → w.cell? ⟨b, off + (k + 1) * 5, none⟩ = some (.int .u8 (f (k + 1)).op) ∧ w.cell? ⟨b, off + (k + 1) * 5 + 1, none⟩ = some (.int .u8 (f (k + 1)).dst) ∧ w.cell? ⟨b, off + (k + 1) * 5 + 2, none⟩ = some (.int .u8 (f (k + 1)).src) ∧
      w.cell? ⟨b, off + (k + 1) * 5 + 3, none⟩ = some (.int .i16 (f (k + 1)).off) ∧ w.cell? ⟨b, off + (k + 1) * 5 + 4, none⟩ = some (.int .i32 (f (k + 1)).imm)) :
    Calls Try.prog 23 #[.slice (some ⟨b, off, none⟩) n c, .int .i64 k] w fun e w' => e = .returned (.tuple #[.int .i64 (plainOf f n k).1, .int .i64 (plainOf f n k).2]) ∧ Touch [] w w' := by
  generalize hpr : plainOf f n k = pr
  unfold plainOf at hpr
  have HE := toHid e
  clear e
  have q0 := ok.op0
  have q1 := ok.op1
  generalize hi : f k = i at *
  cases hkn : knownB i.op with
  | false =>
    rw [if_pos hkn] at hpr
    subst hpr
    go_enter Try.func23, Try.ntmps23
    go_wp2_with (go_at_call 35; refine (rknown_any _ _ q0 q1).mono ?_; rintro e w' ⟨rfl, rfl⟩)
    exact bodyPost_ret (v := .tuple #[.int .i64 0, .int .i64 41]) (by simp [results, Try.results23, go_sem]) rfl ⟨rfl, (Touch.refl _ w).alloc _⟩
  | true =>
    rw [if_neg (by simp [hkn]), rbad_parts] at hpr
    have HP := toHid hpr
    have HU := toHid (ruses_any i.op (w.alloc (.cells #[.int .u8 i.op, .int .u8 i.dst, .int .u8 i.src, .int .i16 i.off, .int .i32 i.imm] 31)) q0 q1)
    generalize hu : usesOf i.op = u at *
    clear hpr hu
    simp only [Us.v] at HU
    generalize u.d = ud at *
    generalize u.s = us at *
    generalize u.o = uo at *
    generalize u.i = ui at *
    go_enter Try.func23, Try.ntmps23
    go_upto_region 7 with (first | (go_at_call 35; refine (rknown_any _ _ q0 q1).mono ?_; rintro e w' ⟨rfl, rfl⟩) | (go_at_call 36; refine HU.out.mono ?_; rintro e w2 ⟨rfl, ht2⟩))
    have hA := ht2.blk (Blk.newA w #[.int .u8 i.op, .int .u8 i.dst, .int .u8 i.src, .int .i16 i.off, .int .i32 i.imm] _ 31 rfl) (by simp)
    have hA := hA.alloc (.cells #[.bool ud, .bool us, .bool uo, .bool ui] 53)
    have hU := Blk.newA w2 #[.bool ud, .bool us, .bool uo, .bool ui] _ 53 rfl
    have HT := toHid ((((Touch.refl [] w).alloc (.cells #[.int .u8 i.op, .int .u8 i.dst, .int .u8 i.src, .int .i16 i.off, .int .i32 i.imm] 31)).trans ht2 (by simp)).alloc (.cells #[.bool ud, .bool us, .bool uo, .bool ui] 53))
    clear ht2 HU c0 c1 c2 c3 c4
    generalize w2.alloc (.cells #[.bool ud, .bool us, .bool uo, .bool ui] 53) = W at *
    generalize w2.heap.size = M at *
    generalize w.heap.size = N at *
    have d0 : W.cell? ⟨N, 0, none⟩ = some (.int .u8 i.op) := hA.cell rfl
    have d1 : W.cell? ⟨N, 1, none⟩ = some (.int .u8 i.dst) := hA.cell rfl
    have d2 : W.cell? ⟨N, 2, none⟩ = some (.int .u8 i.src) := hA.cell rfl
    have d3 : W.cell? ⟨N, 3, none⟩ = some (.int .i16 i.off) := hA.cell rfl
    have d4 : W.cell? ⟨N, 4, none⟩ = some (.int .i32 i.imm) := hA.cell rfl
    have m0 : W.cell? ⟨M, 0, none⟩ = some (.bool ud) := hU.cell rfl
    have m1 : W.cell? ⟨M, 1, none⟩ = some (.bool us) := hU.cell rfl
    have m2 : W.cell? ⟨M, 2, none⟩ = some (.bool uo) := hU.cell rfl
    have m3 : W.cell? ⟨M, 3, none⟩ = some (.bool ui) := hU.cell rfl
    clear hA hU
    go_cut [85] from 17 to 85 (fun t wx => t = .bool (bad1B i ud us uo ui) ∧ wx = W)
    case first =>
      clear HP HE
      go_wp2
      all_goals
        go_meet
        refine ⟨congrArg Value.bool (bad1_mk ?_), rfl⟩
        clear d0 d1 d2 d3 d4 m0 m1 m2 m3
        cases ud <;> cases us <;> cases uo <;> cases ui <;> first | contradiction | (simp; done) | (simp; omega)
    case rest =>
      obtain ⟨rfl, rfl⟩ := hcut
      have hpr := HP.out
      cases hb1 : bad1B i ud us uo ui with
      | true =>
        have HR : Hid (pr = (0, 42)) := by rw [← hpr, hb1, Bool.true_or, if_pos rfl]; rfl
        clear hpr HP
        go_wp2
        exact bodyPost_ret (v := .tuple #[.int .i64 0, .int .i64 42]) (by simp [results, Try.results23, go_sem]) rfl ⟨by rw [HR.out], HT.out⟩
      | false =>
        rw [hb1, Bool.false_or] at hpr
        by_cases hs : (i.op = 133 ∨ i.op = 24) ∧ 1 < i.src
        · have HR : Hid (pr = (0, 42)) := by rw [← hpr, if_pos (decide_eq_true hs)]; rfl
          clear hpr HP
          obtain ⟨ho | ho, hs⟩ := hs
          all_goals
            go_wp2
            exact bodyPost_ret (v := .tuple #[.int .i64 0, .int .i64 42]) (by simp [results, Try.results23, go_sem]) rfl ⟨by rw [HR.out], HT.out⟩
        · rw [if_neg (by simpa using hs)] at hpr
          by_cases ho : i.op = 24
          · have hs' : ¬ 1 < i.src := fun h => hs ⟨Or.inr ho, h⟩
            rw [if_neg (by unfold wideB; simp [ho])] at hpr
            clear hs HP
            by_cases hl : k + 1 = n
            · have hl' : (k : Int) = (n : Int) - 1 := by omega
              have HR : Hid (pr = (0, 42)) := by rw [← hpr, if_pos hl]; rfl
              clear hpr hl
              go_wp2
              exact bodyPost_ret (v := .tuple #[.int .i64 0, .int .i64 42]) (by simp [results, Try.results23, go_sem]) rfl ⟨by rw [HR.out], HT.out⟩
            · rw [if_neg hl] at hpr
              obtain ⟨e0, e1, e2, e3, e4⟩ := HE.out (by omega)
              have hl' : ¬ (k : Int) = (n : Int) - 1 := by omega
              have hl2 : (k : Int) + 1 < n := by omega
              clear hl HE
              generalize f (k + 1) = j at *
              replace e0 := HT.out.cell e0 (by simp)
              replace e1 := HT.out.cell e1 (by simp)
              replace e2 := HT.out.cell e2 (by simp)
              replace e3 := HT.out.cell e3 (by simp)
              replace e4 := HT.out.cell e4 (by simp)
              rcases tail_cases j with ⟨ht1, t0, t1, t2, t3⟩ | ⟨ht1, ht2⟩
              · have HR : Hid (pr = (2, 0)) := by rw [← hpr, if_neg (by simp [ht1])]; rfl
                clear hpr ht1
                go_wp2
                exact bodyPost_ret (v := .tuple #[.int .i64 2, .int .i64 0]) (by simp [results, Try.results23, go_sem]) rfl ⟨by rw [HR.out], HT.out.alloc _⟩
              · have HR : Hid (pr = (0, 42)) := by rw [← hpr, if_pos ht1]; rfl
                clear hpr ht1
                rcases ht2 with t0 | ⟨t0, t1⟩ | ⟨t0, t1, t2⟩ | ⟨t0, t1, t2, t3⟩
                all_goals
                  go_wp2
                  exact bodyPost_ret (v := .tuple #[.int .i64 0, .int .i64 42]) (by simp [results, Try.results23, go_sem]) rfl ⟨by rw [HR.out], HT.out.alloc _⟩
          · have HR : Hid (pr = (1, 0)) := by rw [← hpr, if_pos (by unfold wideB; simp [ho])]; rfl
            have hs' : ¬ (i.op = 133 ∧ 1 < i.src) := fun h => hs ⟨Or.inl h.1, h.2⟩
            clear hs HP hpr
            by_cases ho3 : i.op = 133
            · have hs2 : ¬ 1 < i.src := fun h => hs' ⟨ho3, h⟩
              clear hs'
              go_wp2
              exact bodyPost_ret (v := .tuple #[.int .i64 1, .int .i64 0]) (by simp [results, Try.results23, go_sem]) rfl ⟨by rw [HR.out], HT.out⟩
            · clear hs'
              go_wp2
              exact bodyPost_ret (v := .tuple #[.int .i64 1, .int .i64 0]) (by simp [results, Try.results23, go_sem]) rfl ⟨by rw [HR.out], HT.out⟩
end Go.Proofs.Ytpoliblfgioocaa
