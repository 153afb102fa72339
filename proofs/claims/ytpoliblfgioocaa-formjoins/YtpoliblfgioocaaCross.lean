/-
  crossJump, openEnd: the first jump out of its part, the first part that could run past its end.
-/
import Derived.Test.YtpoliblfgioocaaFaults
import Derived.Test.YtpoliblfgioocaaFinder
namespace Go.Proofs.Ytpoliblfgioocaa
open Go.RowKit

def crossC (f : Nat → In) (n k : Nat) : Bool := jumpB (f k) && match tgtP f n k with
  | none => false
  | some t => decide (pidx (partsL f n) t ≠ pidx (partsL f n) k)
def endC (f : Nat → In) (ps : List Nat) (last : Nat) : List Nat → Option Nat
  | [] => if closeB (f last) = true then none else some last
  | a :: l => if pidx ps a ≠ pidx ps last ∧ closeB (f last) = false then some last else endC f ps a l

set_option maxHeartbeats 3200000 in
set_option maxRecDepth 100000 in
theorem crossJump_any (sa : Option Addr) (n c B cc N : Nat) (f : Nat → In) (w : World) (h : ListAt w sa n f) (hn : n ≤ 17592186044415) (hB : Blk w B (marks n (startsB f n)) 4) (hF : FindAt w N (partsL f n)) :
    Calls Try.prog 21 #[.slice sa n c, .slice (some ⟨B, 0, none⟩) n cc, partOfV N] w fun e w' => e = .returned (tgtV (firstL (crossC f n) (begL f n))) ∧ Touch [] w w' := by
  have HS := toHid h
  have HB := toHid hB
  have HPF := toHid (fun (x : Int) (w2 : World) (ht : Touch [] w w2) => partOf_any N (partsL f n) x w2 (by have := parts_len f n; omega) (hF.touch ht) (parts_pair f n))
  clear h hB hF
  unfold partOfV
  go_enter Try.func21, Try.ntmps21
  go_wp2_with fail
  go_loopw [14] (fun t w' => ∃ (k : Nat), k ≤ n ∧ t = .int .i64 k ∧ Hid ((∀ j ∈ begL f n, j < k → crossC f n j = false) ∧ Touch [] w w')) (fun t _ => n - (intOf t).toNat)
  case atStart => exact ⟨0, by omega, rfl, toHid ⟨fun j _ hj => by omega, Touch.refl _ _⟩⟩
  case round =>
    obtain ⟨k, hk, rfl, HI⟩ := hrel
    by_cases hlt : k < n
    · have z1 : (k : Int) < (n : Int) := by omega
      have HB2 := toHid (HI.out.2.blk HB.out (by simp))
      have hs := HB2.out.cell (marks_get hlt)
      have HL := toHid (HS.out.touch HI.out.2 (by simp))
      obtain ⟨b, off, rfl, hS⟩ := HL.out.slots hlt
      have ok := hS.ok k hlt
      obtain ⟨c0, c1, c2, c3, c4⟩ := hS.at_ k hlt
      clear hS
      cases hb : startsB f n k
      · rw [hb] at hs
        have hnb : ¬ k ∈ begL f n := by simpa [startsB, inB] using hb
        have HN := toHid (step_skip HI.out.1 (fun h => absurd h hnb))
        clear hb hnb ok
        generalize f k = i at *
        go_wp2
        go_roundw
        case rel => exact ⟨k + 1, by omega, by go_num, toHid ⟨HN.out, HI.out.2⟩⟩
        case measure => simp [intOf]; omega
      · rw [hb] at hs
        have hbg : k ∈ begL f n := by simpa [startsB, inB] using hb
        clear hb
        have HP := toHid (fun w => isJump_any (f k) w ok)
        cases hp : jumpB (f k)
        · rw [hp] at HP
          have HN := toHid (step_skip HI.out.1 (fun _ => show crossC f n k = false by simp [crossC, hp]))
          clear hp hbg ok
          simp only [In.v] at HP
          generalize f k = i at *
          go_wp2_with fail
          refine Calls.mono (HP.out _) ?_
          rintro e w2 ⟨rfl, ht2⟩
          have HT2 := toHid (And.intro HN.out (HI.out.2.trans ht2 (by simp)))
          clear ht2 hs c0 c1 c2 c3 c4
          go_wp2
          go_roundw
          case rel => exact ⟨k + 1, by omega, by go_num, HT2⟩
          case measure => simp [intOf]; omega
        · rw [hp] at HP
          simp only [In.v] at HP
          have HTG := toHid (fun (w2 : World) (ht : Touch [] wr w2) => target_any (some ⟨b, off, none⟩) n c k f w2 (HL.out.touch ht (by simp)) hlt hn)
          cases htg : tgtP f n k with
          | none =>
            rw [htg] at HTG
            have HN := toHid (step_skip HI.out.1 (fun _ => show crossC f n k = false by simp [crossC, htg]))
            clear hp hbg htg ok
            generalize f k = i at *
            go_wp2_with fail
            refine Calls.mono (HP.out _) ?_
            rintro e w2 ⟨rfl, ht2⟩
            have HT2 := toHid (HI.out.2.trans ht2 (by simp))
            have HG := toHid (HTG.out w2 ht2)
            clear ht2 hs c0 c1 c2 c3 c4
            go_wp2_with fail
            refine Calls.mono HG.out ?_
            rintro e w3 ⟨rfl, ht3⟩
            simp only [tgtV]
            have HT3 := toHid (And.intro HN.out (HT2.out.trans ht3 (by simp)))
            clear ht3
            go_wp2
            go_roundw
            case rel => exact ⟨k + 1, by omega, by go_num, HT3⟩
            case measure => simp [intOf]; omega
          | some u =>
            rw [htg] at HTG
            have hcr : crossC f n k = decide (pidx (partsL f n) u ≠ pidx (partsL f n) k) := by simp [crossC, hp, htg]
            have H1 := toHid (HPF.out (u : Int))
            have H2 := toHid (HPF.out (k : Int))
            by_cases hne : pidx (partsL f n) u = pidx (partsL f n) k
            · have HN := toHid (step_skip HI.out.1 (fun _ => hcr.trans (by simp [hne])))
              rw [hne] at H1
              clear hp hbg htg ok hcr hne
              generalize pidx (partsL f n) k = q at *
              generalize f k = i at *
              go_wp2_with fail
              refine Calls.mono (HP.out _) ?_
              rintro e w2 ⟨rfl, ht2⟩
              have HT2 := toHid (HI.out.2.trans ht2 (by simp))
              have HG := toHid (HTG.out w2 ht2)
              clear ht2 hs c0 c1 c2 c3 c4
              go_wp2_with fail
              refine Calls.mono HG.out ?_
              rintro e w3 ⟨rfl, ht3⟩
              simp only [tgtV]
              have HT3 := toHid (HT2.out.trans ht3 (by simp))
              clear ht3
              go_wp2_with fail
              refine Calls.mono (H1.out w3 HT3.out) ?_
              rintro e w4 ⟨rfl, rfl⟩
              go_wp2_with fail
              refine Calls.mono (H2.out _ HT3.out) ?_
              rintro e w5 ⟨rfl, rfl⟩
              go_wp2
              go_roundw
              case rel => exact ⟨k + 1, by omega, by go_num, toHid ⟨HN.out, HT3.out⟩⟩
              case measure => simp [intOf]; omega
            · have HN : Hid (firstL (crossC f n) (begL f n) = some k) := toHid (find_at (begL_pair f n) hbg (hcr.trans (by simp [hne])) HI.out.1)
              have hne2 : (pidx (partsL f n) u != pidx (partsL f n) k) = true := by simpa using hne
              clear hp hbg htg ok hcr hne
              generalize pidx (partsL f n) k = q at *
              generalize pidx (partsL f n) u = q2 at *
              generalize f k = i at *
              go_wp2_with fail
              refine Calls.mono (HP.out _) ?_
              rintro e w2 ⟨rfl, ht2⟩
              have HT2 := toHid (HI.out.2.trans ht2 (by simp))
              have HG := toHid (HTG.out w2 ht2)
              clear ht2 hs c0 c1 c2 c3 c4
              go_wp2_with fail
              refine Calls.mono HG.out ?_
              rintro e w3 ⟨rfl, ht3⟩
              simp only [tgtV]
              have HT3 := toHid (HT2.out.trans ht3 (by simp))
              clear ht3
              go_wp2_with fail
              refine Calls.mono (H1.out w3 HT3.out) ?_
              rintro e w4 ⟨rfl, rfl⟩
              go_wp2_with fail
              refine Calls.mono (H2.out _ HT3.out) ?_
              rintro e w5 ⟨rfl, rfl⟩
              go_wp2
              go_ret2
              exact ⟨by rw [HN.out]; rfl, HT3.out⟩
    · have HN : Hid (firstL (crossC f n) (begL f n) = none) := toHid (find_none (fun j hj => HI.out.1 j hj (by have := begL_lt hj; omega)))
      go_wp2
      go_ret2
      exact ⟨by rw [HN.out]; rfl, HI.out.2⟩

theorem rest_in {l : List Nat} {k : Nat} (hs : l.Pairwise (· < ·)) (h : k ∈ l) : l.filter (fun j => decide (k ≤ j)) = k :: l.filter (fun j => decide (k + 1 ≤ j)) := by
  induction l with
  | nil => cases h
  | cons a l ih =>
    have hs2 := List.pairwise_cons.1 hs
    rcases List.mem_cons.1 h with rfl | h'
    · rw [List.filter_cons, if_pos (by simp), List.filter_cons, if_neg (by simp)]
      congr 1
      apply List.filter_congr
      intro x hx
      have := hs2.1 x hx
      rw [decide_eq_decide]
      omega
    · have := hs2.1 k h'
      rw [List.filter_cons, if_neg (by simp; omega), List.filter_cons, if_neg (by simp; omega)]
      exact ih hs2.2 h'
theorem rest_out {l : List Nat} {k : Nat} (h : ¬ k ∈ l) : l.filter (fun j => decide (k ≤ j)) = l.filter (fun j => decide (k + 1 ≤ j)) := by
  apply List.filter_congr
  intro x hx
  have : x ≠ k := fun e => h (e ▸ hx)
  rw [decide_eq_decide]
  omega

set_option maxHeartbeats 3200000 in
set_option maxRecDepth 100000 in
theorem openEnd_any (sa : Option Addr) (n c B cc N : Nat) (f : Nat → In) (w : World) (h : ListAt w sa n f) (hpos : 0 < n) (hn : n ≤ 17592186044415) (hB : Blk w B (marks n (startsB f n)) 4) (hF : FindAt w N (partsL f n)) :
    Calls Try.prog 22 #[.slice sa n c, .slice (some ⟨B, 0, none⟩) n cc, partOfV N] w fun e w' => e = .returned (tgtV (endC f (partsL f n) 0 (begL f n))) ∧ Touch [] w w' := by
  have HS := toHid h
  have HB := toHid hB
  have HPF := toHid (fun (x : Int) (w2 : World) (ht : Touch [] w w2) => partOf_any N (partsL f n) x w2 (by have := parts_len f n; omega) (hF.touch ht) (parts_pair f n))
  clear h hB hF
  unfold partOfV
  generalize hps : partsL f n = ps at *
  clear hps
  go_enter Try.func22, Try.ntmps22
  go_wp2_with fail
  go_loopw [8, 13] (fun v t w' => ∃ (k last : Nat), k ≤ n ∧ last < n ∧ v = .int .i64 last ∧ t = .int .i64 k ∧ Hid (endC f ps 0 (begL f n) = endC f ps last ((begL f n).filter fun j => decide (k ≤ j)) ∧ Touch [] w w')) (fun _ t _ => n - (intOf t).toNat)
  case atStart => exact ⟨0, 0, by omega, hpos, rfl, rfl, toHid ⟨by rw [List.filter_eq_self.2 (by simp)], Touch.refl _ _⟩⟩
  case round =>
    obtain ⟨k, last, hk, hla, rfl, rfl, HI⟩ := hrel
    have zl : (last : Int) < (n : Int) := by omega
    by_cases hlt : k < n
    · have z1 : (k : Int) < (n : Int) := by omega
      have HB2 := toHid (HI.out.2.blk HB.out (by simp))
      have hs := HB2.out.cell (marks_get hlt)
      have HL := toHid (HS.out.touch HI.out.2 (by simp))
      obtain ⟨b, off, rfl, hS⟩ := HL.out.slots hlt
      have ok := hS.ok last hla
      obtain ⟨c0, c1, c2, c3, c4⟩ := hS.at_ last hla
      clear hS
      cases hb : startsB f n k
      · rw [hb] at hs
        have hnb : ¬ k ∈ begL f n := by simpa [startsB, inB] using hb
        have HN : Hid (endC f ps 0 (begL f n) = endC f ps last ((begL f n).filter fun j => decide (k + 1 ≤ j))) := toHid (by rw [HI.out.1, rest_out hnb])
        clear hb hnb ok c0 c1 c2 c3 c4
        go_wp2
        go_roundw
        case rel => exact ⟨k + 1, last, by omega, hla, rfl, by go_num, toHid ⟨HN.out, HI.out.2⟩⟩
        case measure => simp [intOf]; omega
      · rw [hb] at hs
        have hbg : k ∈ begL f n := by simpa [startsB, inB] using hb
        clear hb
        have HE : Hid (endC f ps 0 (begL f n) = if pidx ps k ≠ pidx ps last ∧ closeB (f last) = false then some last else endC f ps k ((begL f n).filter fun j => decide (k + 1 ≤ j))) := toHid (by
          rw [HI.out.1, rest_in (begL_pair f n) hbg]
          rfl)
        have HP := toHid (fun w => closes_any (f last) w ok)
        have H1 := toHid (HPF.out (k : Int))
        have H2 := toHid (HPF.out (last : Int))
        simp only [In.v] at HP
        by_cases hne : pidx ps k = pidx ps last
        · have HN : Hid (endC f ps 0 (begL f n) = endC f ps k ((begL f n).filter fun j => decide (k + 1 ≤ j))) := toHid (by rw [HE.out, if_neg (fun h => h.1 hne)])
          rw [hne] at H1
          clear hbg ok hne HE
          generalize pidx ps last = q at *
          generalize f last = i at *
          go_wp2_with fail
          refine Calls.mono (H1.out _ HI.out.2) ?_
          rintro e w4 ⟨rfl, rfl⟩
          go_wp2_with fail
          refine Calls.mono (H2.out _ HI.out.2) ?_
          rintro e w5 ⟨rfl, rfl⟩
          go_wp2
          go_roundw
          case rel => exact ⟨k + 1, k, by omega, hlt, rfl, by go_num, toHid ⟨HN.out, HI.out.2⟩⟩
          case measure => simp [intOf]; omega
        · have hne2 : (pidx ps k != pidx ps last) = true := by simpa using hne
          cases hc : closeB (f last)
          · have HN : Hid (endC f ps 0 (begL f n) = some last) := toHid (by rw [HE.out, if_pos ⟨hne, hc⟩])
            rw [hc] at HP
            clear hbg ok hne HE hc
            generalize pidx ps last = q at *
            generalize pidx ps k = q2 at *
            generalize f last = i at *
            go_wp2_with fail
            refine Calls.mono (H1.out _ HI.out.2) ?_
            rintro e w4 ⟨rfl, rfl⟩
            go_wp2_with fail
            refine Calls.mono (H2.out _ HI.out.2) ?_
            rintro e w5 ⟨rfl, rfl⟩
            go_wp2_with fail
            refine Calls.mono (HP.out _) ?_
            rintro e w6 ⟨rfl, ht6⟩
            have HT6 := toHid (HI.out.2.trans ht6 (by simp))
            clear ht6
            go_wp2
            go_ret2
            exact ⟨by rw [HN.out]; rfl, HT6.out⟩
          · have HN : Hid (endC f ps 0 (begL f n) = endC f ps k ((begL f n).filter fun j => decide (k + 1 ≤ j))) := toHid (by rw [HE.out, if_neg (fun h => by rw [hc] at h; cases h.2)])
            rw [hc] at HP
            clear hbg ok hne HE hc
            generalize pidx ps last = q at *
            generalize pidx ps k = q2 at *
            generalize f last = i at *
            go_wp2_with fail
            refine Calls.mono (H1.out _ HI.out.2) ?_
            rintro e w4 ⟨rfl, rfl⟩
            go_wp2_with fail
            refine Calls.mono (H2.out _ HI.out.2) ?_
            rintro e w5 ⟨rfl, rfl⟩
            go_wp2_with fail
            refine Calls.mono (HP.out _) ?_
            rintro e w6 ⟨rfl, ht6⟩
            have HT6 := toHid (And.intro HN.out (HI.out.2.trans ht6 (by simp)))
            clear ht6 hs c0 c1 c2 c3 c4
            go_wp2
            go_roundw
            case rel => exact ⟨k + 1, k, by omega, hlt, rfl, by go_num, HT6⟩
            case measure => simp [intOf]; omega
    · have HL := toHid (HS.out.touch HI.out.2 (by simp))
      obtain ⟨b, off, rfl, hS⟩ := HL.out.slots hla
      have ok := hS.ok last hla
      obtain ⟨c0, c1, c2, c3, c4⟩ := hS.at_ last hla
      clear hS
      have HE : Hid (endC f ps 0 (begL f n) = if closeB (f last) = true then none else some last) := toHid (by
        rw [HI.out.1, List.filter_eq_nil_iff.2 (fun j hj => by have := begL_lt hj; simp; omega)]
        rfl)
      have HP := toHid (fun w => closes_any (f last) w ok)
      simp only [In.v] at HP
      cases hc : closeB (f last)
      · rw [hc] at HP HE
        clear ok hc
        generalize f last = i at *
        go_wp2_with fail
        refine Calls.mono (HP.out _) ?_
        rintro e w6 ⟨rfl, ht6⟩
        have HT6 := toHid (HI.out.2.trans ht6 (by simp))
        clear ht6
        go_wp2
        go_ret2
        exact ⟨by rw [HE.out]; rfl, HT6.out⟩
      · rw [hc] at HP HE
        clear ok hc
        generalize f last = i at *
        go_wp2_with fail
        refine Calls.mono (HP.out _) ?_
        rintro e w6 ⟨rfl, ht6⟩
        have HT6 := toHid (HI.out.2.trans ht6 (by simp))
        clear ht6
        go_wp2
        go_ret2
        exact ⟨by rw [HE.out]; rfl, HT6.out⟩
end Go.Proofs.Ytpoliblfgioocaa
