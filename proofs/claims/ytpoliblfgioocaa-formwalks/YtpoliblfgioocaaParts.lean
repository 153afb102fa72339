/-
  parts: where the parts begin.
-/
import Derived.Test.YtpoliblfgioocaaTarget
namespace Go.Proofs.Ytpoliblfgioocaa
open Go.RowKit

/-- Which slots the calls ahead of k lead to. -/
def calledB (f : Nat → In) (n k : Nat) (t : Nat) : Bool := decide (∃ j ∈ begL f n, j < k ∧ partB (f j) = true ∧ tgtP f n j = some t)
theorem called_zero (f : Nat → In) (n t : Nat) : calledB f n 0 t = false := by simp [calledB]
theorem called_skip {f : Nat → In} {n k : Nat} (h : ∀ t, ¬ (k ∈ begL f n ∧ partB (f k) = true ∧ tgtP f n k = some t)) (t : Nat) : calledB f n (k + 1) t = calledB f n k t := by
  unfold calledB
  rw [decide_eq_decide]
  constructor
  · rintro ⟨j, h1, h2, h3, h4⟩
    have : j ≠ k := fun e => h t (by subst e; exact ⟨h1, h3, h4⟩)
    exact ⟨j, h1, by omega, h3, h4⟩
  · rintro ⟨j, h1, h2, h3, h4⟩
    exact ⟨j, h1, by omega, h3, h4⟩
theorem called_hit {f : Nat → In} {n k u : Nat} (h1 : k ∈ begL f n) (h2 : partB (f k) = true) (h3 : tgtP f n k = some u) : calledB f n (k + 1) u = true ∧ ∀ t, t ≠ u → calledB f n (k + 1) t = calledB f n k t := by
  refine ⟨decide_eq_true ⟨k, h1, by omega, h2, h3⟩, fun t ht => ?_⟩
  unfold calledB
  rw [decide_eq_decide]
  constructor
  · rintro ⟨j, g1, g2, g3, g4⟩
    have : j ≠ k := fun e => by
      subst e
      rw [h3] at g4
      injection g4 with g4
      exact ht g4.symm
    exact ⟨j, g1, by omega, g3, g4⟩
  · rintro ⟨j, g1, g2, g3, g4⟩
    exact ⟨j, g1, by omega, g3, g4⟩
theorem isPart_called (f : Nat → In) (n t : Nat) : isPartB f n t = (decide (t = 0) || calledB f n n t) := by
  unfold isPartB calledB
  rw [Bool.eq_iff_iff]
  simp only [decide_eq_true_eq, Bool.or_eq_true]
  constructor
  · rintro (h | ⟨k, h1, h2, h3⟩)
    · exact Or.inl h
    · exact Or.inr ⟨k, h1, begL_lt h1, h2, h3⟩
  · rintro (h | ⟨k, h1, _, h2, h3⟩)
    · exact Or.inl h
    · exact Or.inr ⟨k, h1, h2, h3⟩

set_option maxHeartbeats 3200000 in
set_option maxRecDepth 100000 in
theorem parts_any (sa : Option Addr) (n c B cc : Nat) (f : Nat → In) (w : World) (h : ListAt w sa n f) (hn : n ≤ 17592186044415) (hB : Blk w B (marks n (startsB f n)) 4) :
    Calls Try.prog 20 #[.slice sa n c, .slice (some ⟨B, 0, none⟩) n cc] w fun e w' => (∃ v, e = .returned v ∧ OwnN w w' v (partsL f n)) ∧ Touch [] w w' := by
  have HS := toHid h
  have HB := toHid hB
  clear h hB
  have hmk := run_make_blk (P := Try.prog) Try.underlying33 info4 rfl n (by omega) (by omega) .i64
  have HM := toHid (show Blk (w.alloc (.cells (Array.replicate n (Value.bool false)) 4)) w.heap.size (marks n fun _ => false) 4 from Blk.newA w _ _ 4 (by rw [← marks_none]; simp))
  have HT := toHid ((Touch.refl [] w).alloc (.cells (Array.replicate n (Value.bool false)) 4))
  go_enter Try.func20, Try.ntmps20
  go_wp2_with fail
  clear hmk
  generalize World.alloc _ _ = w1 at *
  go_loopw [17] (fun t w' => ∃ (k : Nat), k ≤ n ∧ t = .int .i64 k ∧ Hid (Blk w' w.heap.size (marks n (calledB f n k)) 4 ∧ Touch [] w w')) (fun t _ => n - (intOf t).toNat)
  case atStart => exact ⟨0, by omega, rfl, toHid ⟨by rw [marks_congr (q := fun _ => false) (called_zero f n)]; exact HM.out, HT.out⟩⟩
  case round =>
    clear HM HT
    obtain ⟨k, hk, rfl, HI⟩ := hrel
    by_cases hlt : k < n
    · have z1 : (k : Int) < (n : Int) := by omega
      have hs := (HI.out.2.blk HB.out (by simp)).cell (marks_get hlt)
      have HL := toHid (HS.out.touch HI.out.2 (by simp))
      obtain ⟨b, off, rfl, hS⟩ := HL.out.slots hlt
      have ok := hS.ok k hlt
      obtain ⟨c0, c1, c2, c3, c4⟩ := hS.at_ k hlt
      clear hS
      have HP := toHid (fun w => isPartCall_any (f k) w ok)
      cases hb : startsB f n k
      · rw [hb] at hs
        have hnb : ¬ k ∈ begL f n := by simpa [startsB, inB] using hb
        have HN : Hid (Blk wr w.heap.size (marks n (calledB f n (k + 1))) 4) := toHid (by rw [marks_congr (called_skip (fun t h => hnb h.1))]; exact HI.out.1)
        clear hb hnb
        generalize f k = i at *
        go_wp2
        go_roundw
        case rel => exact ⟨k + 1, by omega, by go_num, toHid ⟨HN.out, HI.out.2⟩⟩
        case measure => simp [intOf]; omega
      · rw [hb] at hs
        have hbg : k ∈ begL f n := by simpa [startsB, inB] using hb
        clear hb
        cases hp : partB (f k)
        · rw [hp] at HP
          have HN : Hid (∀ w', Blk w' w.heap.size (marks n (calledB f n k)) 4 → Blk w' w.heap.size (marks n (calledB f n (k + 1))) 4) := toHid (fun w' hw => by rw [marks_congr (called_skip (fun t h => by rw [hp] at h; cases h.2.1))]; exact hw)
          clear hp hbg
          simp only [In.v] at HP
          generalize f k = i at *
          go_wp2_with fail
          refine Calls.mono (HP.out _) ?_
          rintro e w2 ⟨rfl, ht2⟩
          have HT2 := toHid (And.intro (HN.out _ (ht2.blk HI.out.1 (by simp))) (HI.out.2.trans ht2 (by simp)))
          clear ht2 hs c0 c1 c2 c3 c4
          go_wp2
          go_roundw
          case rel => exact ⟨k + 1, by omega, by go_num, HT2⟩
          case measure => simp [intOf]; omega
        · rw [hp] at HP
          simp only [In.v] at HP
          have HTG := toHid (fun (w2 : World) (ht : Touch [] wr w2) => target_any (some ⟨b, off, none⟩) n c k f w2 (HL.out.touch ht (by simp)) hlt hn)
          cases htg : tgtP f n k with
          | none =>
            rw [htg] at HTG
            have HN : Hid (∀ w', Blk w' w.heap.size (marks n (calledB f n k)) 4 → Blk w' w.heap.size (marks n (calledB f n (k + 1))) 4) := toHid (fun w' hw => by rw [marks_congr (called_skip (fun t h => by rw [htg] at h; cases h.2.2))]; exact hw)
            clear hp hbg htg
            generalize f k = i at *
            go_wp2_with fail
            refine Calls.mono (HP.out _) ?_
            rintro e w2 ⟨rfl, ht2⟩
            have HT2 := toHid (And.intro (ht2.blk HI.out.1 (by simp)) (HI.out.2.trans ht2 (by simp)))
            have HG := toHid (HTG.out w2 ht2)
            clear ht2 hs c0 c1 c2 c3 c4
            go_wp2_with fail
            refine Calls.mono HG.out ?_
            rintro e w3 ⟨rfl, ht3⟩
            simp only [tgtV]
            have HT3 := toHid (And.intro (HN.out _ (ht3.blk HT2.out.1 (by simp))) (HT2.out.2.trans ht3 (by simp)))
            clear ht3
            go_wp2
            go_roundw
            case rel => exact ⟨k + 1, by omega, by go_num, HT3⟩
            case measure => simp [intOf]; omega
          | some u =>
            rw [htg] at HTG
            have hu := (tgt_lt htg).1
            have hh := called_hit hbg hp htg
            have HN : Hid (∀ w', Blk w' w.heap.size (marks n (calledB f n k)) 4 → Blk (w'.setCell ⟨w.heap.size, u, none⟩ (.bool true)) w.heap.size (marks n (calledB f n (k + 1))) 4) := toHid (fun w' hw => by
              have := hw.setCell u (.bool true)
              rwa [marks_set (q := calledB f n (k + 1)) _ hh.1 hh.2] at this)
            clear hp hbg htg hh
            generalize f k = i at *
            go_wp2_with fail
            refine Calls.mono (HP.out _) ?_
            rintro e w2 ⟨rfl, ht2⟩
            have HT2 := toHid (And.intro (ht2.blk HI.out.1 (by simp)) (HI.out.2.trans ht2 (by simp)))
            have HG := toHid (HTG.out w2 ht2)
            clear ht2 hs c0 c1 c2 c3 c4
            go_wp2_with fail
            refine Calls.mono HG.out ?_
            rintro e w3 ⟨rfl, ht3⟩
            simp only [tgtV]
            have hb3 := ht3.blk HT2.out.1 (by simp)
            have hc := hb3.cell (marks_get hu)
            have hfz := hb3.frozen u
            have HT3 := toHid (And.intro (HN.out _ hb3) ((HT2.out.2.trans ht3 (by simp)).setCell ⟨w.heap.size, u, none⟩ (.bool true) (Or.inr (Nat.le_refl _))))
            have z2 : (u : Int) < (n : Int) := by omega
            clear ht3 hb3
            go_wp2
            go_roundw
            case rel => exact ⟨k + 1, by omega, by go_num, HT3⟩
            case measure => simp [intOf]; omega
    · obtain rfl : k = n := by omega
      generalize wr = wb at *
      go_wp2_with fail
      have HW := HI
      clear HI
      go_loopw [9, 46] (fun o t w' => ∃ (j : Nat), j ≤ k ∧ t = .int .i64 j ∧ Hid (OwnN wb w' o ((List.range j).filter (isPartB f k)) ∧ Touch [] wb w')) (fun _ t _ => k - (intOf t).toNat)
      case atStart => exact ⟨0, by omega, rfl, toHid ⟨OwnN.nil _ _, Touch.refl _ _⟩⟩
      case round =>
        obtain ⟨j, hj, rfl, HI⟩ := hrel
        by_cases hlt : j < k
        · have z1 : (j : Int) < (k : Int) := by omega
          have hs := (HI.out.2.blk HW.out.1 (by simp)).cell (marks_get hlt)
          have hip := isPart_called f k j
          have hr : (List.range (j + 1)).filter (isPartB f k) = (List.range j).filter (isPartB f k) ++ if isPartB f k j = true then [j] else [] := by
            rw [List.range_succ, List.filter_append]
            congr 1
            simp only [List.filter_cons, List.filter_nil]
          have hlen : ((List.range j).filter (isPartB f k)).length ≤ j := by
            have := List.length_filter_le (isPartB f k) (List.range j)
            simpa using this
          cases hp : isPartB f k j
          · rw [hp] at hip hr
            have hj0 : ¬ j = 0 := by simp at hip; exact hip.1
            have hcl : calledB f k k j = false := by simp at hip; exact hip.2
            rw [hcl] at hs
            have b0 : ((j : Int) == 0) = false := by simp; omega
            have HN : Hid (OwnN wb wr u9 ((List.range (j + 1)).filter (isPartB f k))) := toHid (by rw [hr]; simpa using HI.out.1)
            clear hip hr hcl hp hj0
            go_wp2
            go_roundw
            case rel => exact ⟨j + 1, by omega, by go_num, toHid ⟨HN.out, HI.out.2⟩⟩
            case measure => simp [intOf]; omega
          · rw [hp] at hip hr
            obtain ⟨v', w', happ, ho, ht⟩ := HI.out.1.push HI.out.2 j (by omega)
            have HRR := toHid happ
            have HO : Hid (OwnN wb w' v' ((List.range (j + 1)).filter (isPartB f k)) ∧ Touch [] wb w') := toHid ⟨by rw [hr]; simpa using ho, ht⟩
            clear happ ho ht hr hp
            by_cases hj0 : j = 0
            · subst hj0
              clear hip
              go_wp2_with (at_builtin; refine Lib.wpList_append_run _ rfl _ _ _ _ rfl _ _ rfl rfl _ _ HRR.out ?_)
              exact ⟨⟨1, by omega, rfl, HO⟩, by simp [intOf]; omega⟩
            · have hcl : calledB f k k j = true := by simpa [hj0] using hip
              rw [hcl] at hs
              have b0 : ((j : Int) == 0) = false := by simp; omega
              clear hip hcl
              go_wp2_with (at_builtin; refine Lib.wpList_append_run _ rfl _ _ _ _ rfl _ _ rfl rfl _ _ HRR.out ?_)
              exact ⟨⟨j + 1, by omega, by go_num, HO⟩, by simp [intOf]; omega⟩
        · obtain rfl : j = k := by omega
          go_wp2
          go_ret
          exact ⟨⟨_, rfl, HI.out.1.down HW.out.2.size⟩, HW.out.2.trans HI.out.2 (by simp)⟩
end Go.Proofs.Ytpoliblfgioocaa
