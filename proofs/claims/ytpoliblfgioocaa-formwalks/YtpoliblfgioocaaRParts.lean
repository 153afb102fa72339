/-
  The reference's Parts.
-/
import Derived.Test.YtpoliblfgioocaaStarts
namespace Go.Proofs.Ytpoliblfgioocaa
open Go.RowKit

def hitB (f : Nat → In) (t k : Nat) : Bool := match toP (f k) k with
  | none => false
  | some u => decide (u = (t : Int)) && decide ((f k).op = 133)
theorem hit_iff {f : Nat → In} {n t k : Nat} (ht : t < n) : hitB f t k = true ↔ partB (f k) = true ∧ tgtP f n k = some t := by
  unfold hitB
  cases h : toP (f k) k with
  | none =>
    simp only [Bool.false_eq_true, false_iff]
    rintro ⟨_, h2⟩
    rw [(tgt_lt h2).2] at h
    cases h
  | some u =>
    have h1 := to_isPart h
    simp only [Bool.and_eq_true, decide_eq_true_eq]
    rw [h1]
    constructor
    · rintro ⟨rfl, hp⟩
      exact ⟨hp, tgt_of h ht⟩
    · rintro ⟨hp, h2⟩
      have := (tgt_lt h2).2
      rw [h] at this
      injection this with this
      exact ⟨this, hp⟩
theorem isPart_any {f : Nat → In} {n t : Nat} (ht : t < n) : isPartB f n t = (decide (t = 0) || (begL f n).any (hitB f t)) := by
  unfold isPartB
  rw [Bool.eq_iff_iff]
  simp only [decide_eq_true_eq, Bool.or_eq_true, List.any_eq_true]
  constructor
  · rintro (h | ⟨k, h1, h2⟩)
    · exact Or.inl h
    · exact Or.inr ⟨k, h1, (hit_iff ht).2 h2⟩
  · rintro (h | ⟨k, h1, h2⟩)
    · exact Or.inl h
    · exact Or.inr ⟨k, h1, (hit_iff ht).1 h2⟩
theorem any_take {l : List Nat} {j y : Nat} {p : Nat → Bool} (h : l[j]? = some y) : (l.take (j + 1)).any p = ((l.take j).any p || p y) := by
  rw [List.take_add_one, h]
  simp

set_option maxHeartbeats 3200000 in
set_option maxRecDepth 100000 in
theorem rparts_any (sa : Option Addr) (n c : Nat) (f : Nat → In) (w : World) (h : ListAt w sa n f) (hn : n ≤ 17592186044415) :
    Calls Try.prog 13 #[.slice sa n c] w fun e w' => (∃ v, e = .returned v ∧ OwnN w w' v (partsL f n)) ∧ Touch [] w w' := by
  have HS := toHid h
  clear h
  go_enter Try.func13, Try.ntmps13
  go_wp2_with fail
  refine Calls.mono (begin_any sa n c f w HS.out hn) ?_
  rintro e wb ⟨⟨v, rfl, g, cap, rfl, hN, _⟩, htb⟩
  have HTB := toHid htb
  have HLB := toHid (HS.out.touch htb (by simp))
  have HNB := toHid hN
  have hbl := begL_len f n
  clear htb hN HS
  generalize hbeg : begL f n = l at *
  have HBG := toHid hbeg
  clear hbeg
  simp only [slV]
  go_wp2_with fail
  go_loopw [3, 15] (fun o t w' => ∃ (j : Nat), j ≤ n ∧ t = .int .i64 j ∧ Hid (OwnN wb w' o ((List.range j).filter (isPartB f n)) ∧ Touch [] wb w')) (fun _ t _ => n - (intOf t).toNat)
  case atStart => exact ⟨0, by omega, rfl, toHid ⟨OwnN.nil _ _, Touch.refl _ _⟩⟩
  case round =>
    obtain ⟨j, hj, rfl, HI⟩ := hrel
    by_cases hlt : j < n
    · have z1 : (j : Int) < (n : Int) := by omega
      generalize wr = wc at *
      have hjz : ((j : Int) == 0) = decide (j = 0) := by
        rw [Bool.eq_iff_iff]
        simp
      go_wp2_with fail
      go_loopw [6, 22] (fun o t w' => ∃ (m : Nat), m ≤ l.length ∧ t = .int .i64 m ∧ o = .bool (decide (j = 0) || (l.take m).any (hitB f j)) ∧ Hid (Touch [] wc w')) (fun _ t _ => l.length - (intOf t).toNat)
      case atStart => exact ⟨0, by omega, rfl, by simp, toHid (Touch.refl _ _)⟩
      case round =>
        obtain ⟨m, hm, rfl, rfl, HM⟩ := hrel
        by_cases hml : m < l.length
        · have z2 : (m : Int) < (l.length : Int) := by omega
          obtain ⟨y, hy⟩ : ∃ y, l[m]? = some y := ⟨_, List.getElem?_eq_getElem hml⟩
          have hyn : y < n := by
            have := List.mem_of_getElem? hy
            rw [← HBG.out] at this
            exact begL_lt this
          have z3 : (y : Int) < (n : Int) := by omega
          have HTW := toHid (HI.out.2.trans HM.out (by simp))
          cases g with
          | none =>
            have := HNB.out.none
            rw [this] at hml
            simp at hml
          | some bb =>
            have hcy := (HNB.out.touch HTW.out (by simp)).cell hy
            have HL := toHid (HLB.out.touch HTW.out (by simp))
            have HTO := toHid (HL.out.to c y hyn (by omega))
            obtain ⟨b, off, rfl, hS⟩ := HL.out.slots hyn
            have HA := toHid (hS.at_ y hyn)
            clear hS
            simp only [Option.map_some]
            have HX : Hid ((decide (j = 0) || (l.take (m + 1)).any (hitB f j)) = ((decide (j = 0) || (l.take m).any (hitB f j)) || hitB f j y)) := toHid (by rw [any_take hy, Bool.or_assoc])
            obtain ⟨q2, hq2⟩ : ∃ q, q = (decide (j = 0) || (l.take (m + 1)).any (hitB f j)) := ⟨_, rfl⟩
            rw [← hq2] at HX
            have HQ2 := toHid hq2
            clear hq2
            generalize (decide (j = 0) || (l.take m).any (hitB f j)) = q1 at *
            have hh : hitB f j y = match toP (f y) y with
              | none => false
              | some u => decide (u = (j : Int)) && decide ((f y).op = 133) := rfl
            generalize hitB f j y = q3 at *
            go_wp2_with fail
            refine Calls.mono HTO.out ?_
            unfold ToPost
            cases hto : toP (f y) y with
            | none =>
              rw [hto] at hh
              rintro e w2 ⟨ht2, rfl⟩
              have HT2 := toHid (HM.out.trans ht2 (by simp))
              obtain ⟨c0, c1, c2, c3, c4⟩ := HA.out.touch ht2 (by simp)
              clear ht2 hto
              have hq : q2 = q1 := by rw [HX.out, hh]; simp
              subst hq
              clear hh HX c1 c2 c3 c4
              generalize f y = i at *
              cases q2
              all_goals go_wp2
              all_goals go_roundw
              all_goals first | exact ⟨m + 1, by omega, by go_num, by rw [← HQ2.out], HT2⟩ | (simp [intOf]; omega)
            | some u =>
              rw [hto] at hh
              rintro e w2 ⟨ht2, rfl⟩
              have HT2 := toHid (HM.out.trans ht2 (by simp))
              obtain ⟨c0, c1, c2, c3, c4⟩ := HA.out.touch ht2 (by simp)
              clear ht2 hto c1 c2 c3 c4
              generalize f y = i at *
              cases q1
              · by_cases hu : u = (j : Int)
                · have bu : (u == (j : Int)) = true := by simpa using hu
                  by_cases ho : i.op = 133
                  · have bo : (i.op == 133) = true := by simpa using ho
                    have hq : q2 = true := by rw [HX.out, hh]; simp [hu, ho]
                    subst hq
                    clear hh HX hu ho
                    go_wp2
                    go_roundw
                    case rel => exact ⟨m + 1, by omega, by go_num, by rw [← HQ2.out], HT2⟩
                    case measure => simp [intOf]; omega
                  · have bo : (i.op == 133) = false := by simpa using ho
                    have hq : q2 = false := by rw [HX.out, hh]; simp [ho]
                    subst hq
                    clear hh HX hu ho
                    go_wp2
                    go_roundw
                    case rel => exact ⟨m + 1, by omega, by go_num, by rw [← HQ2.out], HT2⟩
                    case measure => simp [intOf]; omega
                · have bu : (u == (j : Int)) = false := by simpa using hu
                  have hq : q2 = false := by rw [HX.out, hh]; simp [hu]
                  subst hq
                  clear hh HX hu
                  go_wp2
                  go_roundw
                  case rel => exact ⟨m + 1, by omega, by go_num, by rw [← HQ2.out], HT2⟩
                  case measure => simp [intOf]; omega
              · have hq : q2 = true := by rw [HX.out]; simp
                subst hq
                clear hh HX
                go_wp2
                go_roundw
                case rel => exact ⟨m + 1, by omega, by go_num, by rw [← HQ2.out], HT2⟩
                case measure => simp [intOf]; omega
        · obtain rfl : m = l.length := by omega
          have hfull : (decide (j = 0) || (l.take l.length).any (hitB f j)) = isPartB f n j := by
            rw [List.take_length, isPart_any hlt, HBG.out]
          rw [hfull]
          have hr : (List.range (j + 1)).filter (isPartB f n) = (List.range j).filter (isPartB f n) ++ if isPartB f n j = true then [j] else [] := by
            rw [List.range_succ, List.filter_append]
            congr 1
            simp only [List.filter_cons, List.filter_nil]
          have hlen : ((List.range j).filter (isPartB f n)).length ≤ j := by
            have := List.length_filter_le (isPartB f n) (List.range j)
            simpa using this
          have HOW := toHid (HI.out.1.touch HM.out)
          have HTW := toHid (HI.out.2.trans HM.out (by simp))
          clear hfull HI HM
          cases hp : isPartB f n j
          · rw [hp] at hr
            have HN : Hid (OwnN wb wr u3 ((List.range (j + 1)).filter (isPartB f n))) := toHid (by rw [hr]; simpa using HOW.out)
            clear hr hp
            go_wp2
            exact ⟨⟨j + 1, by omega, by go_num, toHid ⟨HN.out, HTW.out⟩⟩, by simp [intOf]; omega⟩
          · rw [hp] at hr
            obtain ⟨v', w', happ, ho, ht⟩ := HOW.out.push HTW.out j (by omega)
            have HRR := toHid happ
            have HO : Hid (OwnN wb w' v' ((List.range (j + 1)).filter (isPartB f n)) ∧ Touch [] wb w') := toHid ⟨by rw [hr]; simpa using ho, ht⟩
            clear happ ho ht hr hp
            go_wp2_with (at_builtin; refine Lib.wpList_append_run _ rfl _ _ _ _ rfl _ _ rfl rfl _ _ HRR.out ?_)
            exact ⟨⟨j + 1, by omega, by go_num, HO⟩, by simp [intOf]; omega⟩
    · obtain rfl : j = n := by omega
      go_wp2
      go_ret
      exact ⟨⟨_, rfl, HI.out.1.down HTB.out.size⟩, HTB.out.trans HI.out.2 (by simp)⟩
end Go.Proofs.Ytpoliblfgioocaa
