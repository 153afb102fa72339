/-
  The reference's Check.
-/
import Derived.Test.YtpoliblfgioocaaRParts
import Derived.Test.YtpoliblfgioocaaRWrong
import Derived.Test.YtpoliblfgioocaaCheck
namespace Go.Proofs.Ytpoliblfgioocaa
open Go.RowKit

def refEnd (f : Nat → In) (ps : List Nat) : List Nat → Option Nat
  | [] => none
  | [a] => if closeB (f a) = true then none else some a
  | a :: b :: t => if ofP ps b = ofP ps a then refEnd f ps (b :: t) else if closeB (f a) = true then refEnd f ps (b :: t) else some a
theorem refEnd_eq (f : Nat → In) (ps : List Nat) : ∀ (l : List Nat) (a : Nat), refEnd f ps (a :: l) = endFrom f ps a l
  | [], a => rfl
  | b :: t, a => by
    rw [refEnd, endFrom, refEnd_eq f ps t b]
    by_cases h1 : ofP ps b = ofP ps a
    · rw [if_pos h1, if_neg (fun h => h.1 h1)]
    · rw [if_neg h1]
      cases hc : closeB (f a)
      · rw [if_neg (by simp), if_pos ⟨h1, rfl⟩]
      · rw [if_pos rfl, if_neg (by simp)]
theorem wrong_head {f : Nat → In} {n : Nat} (hn : 0 < n) (h : wrongL f n = none) : ∃ t, begL f n = 0 :: t := by
  by_cases he : errP f n 0 = 0
  · exact ⟨_, beg_step hn he⟩
  · rw [wrongL, wrong_err hn he] at h
    cases h
theorem end_ref {f : Nat → In} {ps : List Nat} {l : List Nat} (h : ∃ t, l = 0 :: t) : endFrom f ps 0 l = refEnd f ps l := by
  obtain ⟨t, rfl⟩ := h
  rw [refEnd_eq, endFrom, if_neg (fun h => h.1 rfl)]
theorem find_take {l : List Nat} {p : Nat → Bool} {m y : Nat} (hy : l[m]? = some y) (hp : p y = true) (h : ∀ x ∈ l.take m, p x = false) : l.find? p = some y := by
  obtain ⟨hm, rfl⟩ := List.getElem?_eq_some_iff.1 hy
  conv => lhs; rw [← List.take_append_drop m l]
  rw [List.find?_append, find_none h, List.drop_eq_getElem_cons hm, List.find?_cons, hp]
  rfl
theorem take_skip {l : List Nat} {p : Nat → Bool} {m y : Nat} (hy : l[m]? = some y) (hp : p y = false) (h : ∀ x ∈ l.take m, p x = false) : ∀ x ∈ l.take (m + 1), p x = false := by
  intro x hx
  rw [List.take_add_one, hy] at hx
  simp only [Option.toList_some, List.mem_append, List.mem_singleton] at hx
  rcases hx with hx | rfl
  · exact h x hx
  · exact hp

/-- The third and the fourth loop, and all that is behind them: what the reference answers. -/
def tailP (f : Nat → In) (n : Nat) : Nat × Int := match firstL (strayB f n) (begL f n) with
    | some k => (k, 43)
    | none => match firstL (crossB f n) (begL f n) with
      | some k => (k, 43)
      | none => match refEnd f (partsL f n) (begL f n) with
        | some k => (k, 44)
        | none => (0, 0)
theorem check_tail {f : Nat → In} {n : Nat} (h : ¬ (n = 0 ∨ 256 < n)) (hw : wrongL f n = none) : checkP f n = tailP f n := by
  have := end_ref (f := f) (ps := partsL f n) (wrong_head (by omega) hw)
  unfold checkP tailP
  rw [if_neg h, hw, ← this]
  rfl

set_option maxHeartbeats 6400000 in
set_option maxRecDepth 100000 in
theorem rcheck_any (sa : Option Addr) (n c : Nat) (f : Nat → In) (w : World) (h : ListAt w sa n f) (hn : n ≤ 17592186044415) :
    Calls Try.prog 9 #[.slice sa n c] w fun e w' => e = .returned (checkV (checkP f n)) ∧ Touch [] w w' := by
  have HS := toHid h
  clear h
  by_cases h0 : n = 0
  · subst h0
    have HR : Hid (checkP f 0 = (0, 40)) := toHid (by rw [checkP, if_pos (Or.inl rfl)])
    go_enter Try.func9, Try.ntmps9
    go_wp2
    go_ret2
    exact ⟨by rw [HR.out]; rfl, Touch.refl _ _⟩
  · have z0 : ¬ (n : Int) < 1 := by omega
    by_cases h1 : 256 < n
    · have HR : Hid (checkP f n = (0, 40)) := toHid (by rw [checkP, if_pos (Or.inr h1)])
      have z1 : (256 : Int) < (n : Int) := by omega
      go_enter Try.func9, Try.ntmps9
      go_wp2
      go_ret2
      exact ⟨by rw [HR.out]; rfl, Touch.refl _ _⟩
    · have z1 : ¬ (256 : Int) < (n : Int) := by omega
      have HC : Hid (∀ r, wrongL f n = some r → checkP f n = r) := toHid (fun r hr => by rw [checkP, if_neg (by omega), hr])
      go_enter Try.func9, Try.ntmps9
      go_wp2_with fail
      go_loopw [4] (fun t w' => ∃ (k : Nat), k ≤ n ∧ t = .int .i64 k ∧ Hid (wrongL f n = wrongFrom f n k ∧ Touch [] w w')) (fun t _ => n - (intOf t).toNat)
      case atStart => exact ⟨0, by omega, rfl, toHid ⟨rfl, Touch.refl _ _⟩⟩
      case round =>
        obtain ⟨k, hk, rfl, HI⟩ := hrel
        by_cases hlt : k < n
        · have HL := toHid (HS.out.touch HI.out.2 (by simp))
          have HR := toHid (HL.out.rplain c k hlt (by omega))
          have z2 : (k : Int) < (n : Int) := by omega
          by_cases he : errP f n k = 0
          · rw [plain_eq hlt he] at HR
            have hl := plain_len hlt he
            have l1 : 1 ≤ lenP f n k := hl.2.1
            have l2 : k + lenP f n k ≤ n := hl.2.2
            clear hl
            cases hf : forbidB (f k)
            · have HW : Hid (wrongL f n = wrongFrom f n (k + lenP f n k)) := toHid (by rw [HI.out.1, wrong_step hlt he hf])
              generalize lenP f n k = m at *
              obtain ⟨b, off, rfl, hS⟩ := HL.out.slots hlt
              have HF := toHid (fun w => rwrong_any (f k) w (hS.ok k hlt))
              rw [hf] at HF
              have HA := toHid (hS.at_ k hlt)
              clear hS hf he
              generalize f k = i at *
              simp only [In.v] at HF
              go_wp2_with fail
              refine Calls.mono HR.out ?_
              rintro e w2 ⟨rfl, ht2⟩
              have HT2 := toHid (HI.out.2.trans ht2 (by simp))
              obtain ⟨c0, c1, c2, c3, c4⟩ := HA.out.touch ht2 (by simp)
              clear ht2 HR
              go_wp2_with fail
              refine Calls.mono (HF.out _) ?_
              rintro e w3 ⟨rfl, ht3⟩
              have HT3 := toHid (HT2.out.trans ht3 (by simp))
              clear ht3 c0 c1 c2 c3 c4
              go_wp2
              go_roundw
              case rel => exact ⟨k + m, by omega, by go_num, toHid ⟨HW.out, HT3.out⟩⟩
              case measure => simp [intOf]; omega
            · have HW : Hid (checkP f n = (k, 42)) := toHid (HC.out _ (by rw [HI.out.1, wrong_forbid hlt he hf]))
              generalize lenP f n k = m at *
              obtain ⟨b, off, rfl, hS⟩ := HL.out.slots hlt
              have HF := toHid (fun w => rwrong_any (f k) w (hS.ok k hlt))
              rw [hf] at HF
              have HA := toHid (hS.at_ k hlt)
              clear hS hf he
              generalize f k = i at *
              simp only [In.v] at HF
              go_wp2_with fail
              refine Calls.mono HR.out ?_
              rintro e w2 ⟨rfl, ht2⟩
              have HT2 := toHid (HI.out.2.trans ht2 (by simp))
              obtain ⟨c0, c1, c2, c3, c4⟩ := HA.out.touch ht2 (by simp)
              clear ht2 HR
              go_wp2_with fail
              refine Calls.mono (HF.out _) ?_
              rintro e w3 ⟨rfl, ht3⟩
              have HT3 := toHid (HT2.out.trans ht3 (by simp))
              clear ht3 c0 c1 c2 c3 c4
              go_wp2
              go_ret2
              exact ⟨by rw [HW.out]; rfl, HT3.out⟩
          · have HW : Hid (checkP f n = (k, (plainOf f n k).2)) := toHid (HC.out _ (by rw [HI.out.1, wrong_err hlt he]; rfl))
            have he2 : ((plainOf f n k).2 != 0) = true := by simpa [errP] using he
            clear he
            generalize plainOf f n k = pr at *
            go_wp2_with fail
            refine Calls.mono HR.out ?_
            rintro e w2 ⟨rfl, ht2⟩
            have HT2 := toHid (HI.out.2.trans ht2 (by simp))
            clear ht2 HR
            go_wp2
            go_ret2
            exact ⟨by rw [HW.out]; rfl, HT2.out⟩
        · obtain rfl : k = n := by omega
          have hw : wrongL f k = none := by rw [HI.out.1, wrong_end hlt]
          have HW : Hid (checkP f k = tailP f k) := toHid (check_tail (by omega) hw)
          have hhead := wrong_head (by omega) hw
          have hT0 := HI.out.2
          have HLA := toHid (HS.out.touch hT0 (by simp))
          have HTA := toHid hT0
          clear HI HC hT0
          generalize wr = wa at *
          go_wp2_with fail
          refine Calls.mono (begin_any sa k c f wa HLA.out hn) ?_
          rintro e wb ⟨⟨v, rfl, g, cap, rfl, hN, _⟩, htb⟩
          have HTB := toHid (HTA.out.trans htb (by simp))
          have HLB := toHid (HLA.out.touch htb (by simp))
          have HNB := toHid hN
          clear htb hN
          go_wp2_with fail
          refine Calls.mono (rparts_any sa k c f wb HLB.out hn) ?_
          rintro e wc ⟨⟨v, rfl, g2, cap2, rfl, hN, _⟩, htc⟩
          have HTC := toHid (HTB.out.trans htc (by simp))
          have HLC := toHid (HLB.out.touch htc (by simp))
          have HNC := toHid (HNB.out.touch htc (by simp))
          have HPC := toHid hN
          have hbl := begL_len f k
          have hpl := parts_len f k
          clear htc hN HTB HLB HNB HTA HLA HS
          have HLT : Hid (∀ x ∈ begL f k, x < k) := toHid (fun x hx => begL_lt hx)
          have HTP : Hid (checkP f k = match firstL (strayB f k) (begL f k) with
            | some x => (x, 43)
            | none => match firstL (crossB f k) (begL f k) with
              | some x => (x, 43)
              | none => match refEnd f (partsL f k) (begL f k) with
                | some x => (x, 44)
                | none => (0, 0)) := toHid HW.out
          have HSD : Hid (∀ y, strayB f k y = match toP (f y) y with
            | none => false
            | some t => !decide (∃ z ∈ begL f k, (z : Int) = t)) := toHid (fun y => rfl)
          have HCD : Hid (∀ y, crossB f k y = (jumpB (f y) && match toP (f y) y with
            | none => false
            | some t => decide (ofP (partsL f k) t ≠ ofP (partsL f k) y))) := toHid (fun y => rfl)
          obtain ⟨tl, htl⟩ := hhead
          have hne : 0 < (begL f k).length := by rw [htl]; simp
          clear htl HW
          generalize strayB f k = sP at *
          generalize crossB f k = cP at *
          generalize partsL f k = ps at *
          generalize begL f k = l at *
          cases g with
          | none =>
            have := HNC.out.none
            rw [this] at hne
            simp at hne
          | some bb =>
            simp only [slV, Option.map_some]
            go_wp2_with fail
            go_loopw [56] (fun t w' => ∃ (m : Nat), m ≤ l.length ∧ t = .int .i64 m ∧ Hid ((∀ x ∈ l.take m, sP x = false) ∧ Touch [] wc w')) (fun t _ => l.length - (intOf t).toNat)
            case atStart => exact ⟨0, by omega, rfl, toHid ⟨by simp, Touch.refl _ _⟩⟩
            case round =>
              obtain ⟨m, hm, rfl, HI⟩ := hrel
              by_cases hml : m < l.length
              · have z2 : (m : Int) < (l.length : Int) := by omega
                obtain ⟨y, hy⟩ : ∃ y, l[m]? = some y := ⟨_, List.getElem?_eq_getElem hml⟩
                have hyn := HLT.out y (List.mem_of_getElem? hy)
                have HNW := toHid (HNC.out.touch HI.out.2 (by simp))
                have hcy := HNW.out.cell hy
                have HTO := toHid ((HLC.out.touch HI.out.2 (by simp)).to c y hyn (by omega))
                have hsd := HSD.out y
                go_wp2_with fail
                refine Calls.mono HTO.out ?_
                unfold ToPost
                cases hto : toP (f y) y with
                | none =>
                  rw [hto] at hsd
                  have HN := toHid (take_skip hy hsd HI.out.1)
                  rintro e w2 ⟨ht2, rfl⟩
                  have HT2 := toHid (And.intro HN.out (HI.out.2.trans ht2 (by simp)))
                  clear ht2 hto hsd hy hcy
                  go_wp2
                  go_roundw
                  case rel => exact ⟨m + 1, by omega, by go_num, HT2⟩
                  case measure => simp [intOf]; omega
                | some u =>
                  rw [hto] at hsd
                  replace hsd : sP y = !decide (∃ z ∈ l, (z : Int) = u) := hsd
                  rintro e w2 ⟨ht2, rfl⟩
                  have HT2 := toHid (HI.out.2.trans ht2 (by simp))
                  have HIN := toHid (in_any (some bb) cap l u w2 (by omega) (HNW.out.touch ht2 (by simp)))
                  simp only [slV, Option.map_some] at HIN
                  cases hd : decide (∃ z ∈ l, (z : Int) = u)
                  · rw [hd] at HIN hsd
                    have HN : Hid (checkP f k = (y, 43)) := toHid (by rw [HTP.out, firstL, find_take hy hsd HI.out.1])
                    clear ht2 hto hsd hy hcy hd
                    go_wp2_with fail
                    refine Calls.mono HIN.out ?_
                    rintro e w3 ⟨rfl, rfl⟩
                    go_wp2
                    go_ret2
                    exact ⟨by rw [HN.out]; rfl, HTC.out.trans HT2.out (by simp)⟩
                  · rw [hd] at HIN hsd
                    have HN := toHid (take_skip hy hsd HI.out.1)
                    clear ht2 hto hsd hy hcy hd
                    go_wp2_with fail
                    refine Calls.mono HIN.out ?_
                    rintro e w3 ⟨rfl, rfl⟩
                    go_wp2
                    go_roundw
                    case rel => exact ⟨m + 1, by omega, by go_num, toHid ⟨HN.out, HT2.out⟩⟩
                    case measure => simp [intOf]; omega
              · obtain rfl : m = l.length := by omega
                have hns : firstL sP l = none := find_none (fun x hx => HI.out.1 x (by rw [List.take_length]; exact hx))
                rw [hns] at HTP
                have HTP3 : Hid (checkP f k = match firstL cP l with
                  | some x => (x, 43)
                  | none => match refEnd f ps l with
                    | some x => (x, 44)
                    | none => (0, 0)) := toHid HTP.out
                have HT3 := toHid HI.out.2
                clear hns HTP HI HSD hml
                generalize wr = wd at *
                have HLD := toHid (HLC.out.touch HT3.out (by simp))
                have HND := toHid (HNC.out.touch HT3.out (by simp))
                have HPD := toHid (HPC.out.touch HT3.out (by simp))
                have HTD := toHid (HTC.out.trans HT3.out (by simp))
                clear HLC HNC HPC HTC HT3
                go_wp2_with fail
                go_loopw [77] (fun t w' => ∃ (m : Nat), m ≤ l.length ∧ t = .int .i64 m ∧ Hid ((∀ x ∈ l.take m, cP x = false) ∧ Touch [] wd w')) (fun t _ => l.length - (intOf t).toNat)
                case atStart => exact ⟨0, by omega, rfl, toHid ⟨by simp, Touch.refl _ _⟩⟩
                case round =>
                  obtain ⟨m, hm, rfl, HI⟩ := hrel
                  by_cases hml : m < l.length
                  · have z2 : (m : Int) < (l.length : Int) := by omega
                    obtain ⟨y, hy⟩ : ∃ y, l[m]? = some y := ⟨_, List.getElem?_eq_getElem hml⟩
                    have hyn := HLT.out y (List.mem_of_getElem? hy)
                    have z3 : (y : Int) < (k : Int) := by omega
                    have HNW := toHid (HND.out.touch HI.out.2 (by simp))
                    have hcy := HNW.out.cell hy
                    have HLW := toHid (HLD.out.touch HI.out.2 (by simp))
                    have HTO := toHid (HLW.out.to c y hyn (by omega))
                    obtain ⟨b, off, rfl, hS⟩ := HLW.out.slots hyn
                    have HA := toHid (hS.at_ y hyn)
                    clear hS
                    have hsd := HCD.out y
                    go_wp2_with fail
                    refine Calls.mono HTO.out ?_
                    unfold ToPost
                    cases hto : toP (f y) y with
                    | none =>
                      rw [hto] at hsd
                      have HN := toHid (take_skip hy (hsd.trans (by simp)) HI.out.1)
                      rintro e w2 ⟨ht2, rfl⟩
                      have HT2 := toHid (And.intro HN.out (HI.out.2.trans ht2 (by simp)))
                      clear ht2 hto hsd hy hcy
                      go_wp2
                      go_roundw
                      case rel => exact ⟨m + 1, by omega, by go_num, HT2⟩
                      case measure => simp [intOf]; omega
                    | some u =>
                      have hjp := to_isJump hto
                      rw [hto] at hsd
                      replace hsd : cP y = (jumpB (f y) && decide (ofP ps u ≠ ofP ps y)) := hsd
                      rintro e w2 ⟨ht2, rfl⟩
                      have HT2 := toHid (HI.out.2.trans ht2 (by simp))
                      obtain ⟨c0, c1, c2, c3, c4⟩ := HA.out.touch ht2 (by simp)
                      have HO1 := toHid (of_any g2 cap2 ps u w2 (by omega) (HPD.out.touch HT2.out (by simp)))
                      have HO2 := toHid (of_any g2 cap2 ps y w2 (by omega) (HPD.out.touch HT2.out (by simp)))
                      simp only [slV] at HO1 HO2
                      clear ht2 hto c1 c2 c3 c4
                      by_cases ho : (f y).op = 133
                      · have bo : ((f y).op != 133) = false := by simpa using ho
                        have hj : jumpB (f y) = false := by
                          cases hj : jumpB (f y)
                          · rfl
                          · exact absurd ho (hjp.2 hj)
                        have HN := toHid (take_skip hy (hsd.trans (by simp [hj])) HI.out.1)
                        clear hsd hy hcy hjp hj ho
                        generalize f y = i at *
                        go_wp2
                        go_roundw
                        case rel => exact ⟨m + 1, by omega, by go_num, toHid ⟨HN.out, HT2.out⟩⟩
                        case measure => simp [intOf]; omega
                      · have bo : ((f y).op != 133) = true := by simpa using ho
                        have hj : jumpB (f y) = true := hjp.1 ho
                        rw [hj, Bool.true_and] at hsd
                        clear hjp hj ho
                        generalize f y = i at *
                        by_cases heq : ofP ps u = ofP ps y
                        · have HN := toHid (take_skip hy (hsd.trans (by simp [heq])) HI.out.1)
                          have beq : (((ofP ps u : Nat) : Int) != ((ofP ps y : Nat) : Int)) = false := by simp [heq]
                          clear hsd hy hcy
                          rw [heq] at HO1 beq
                          clear heq
                          generalize ofP ps y = q at *
                          go_wp2_with fail
                          refine Calls.mono HO1.out ?_
                          rintro e w3 ⟨rfl, rfl⟩
                          go_wp2_with fail
                          refine Calls.mono HO2.out ?_
                          rintro e w3 ⟨rfl, rfl⟩
                          go_wp2
                          go_roundw
                          case rel => exact ⟨m + 1, by omega, by go_num, toHid ⟨HN.out, HT2.out⟩⟩
                          case measure => simp [intOf]; omega
                        · have HN : Hid (checkP f k = (y, 43)) := toHid (by rw [HTP3.out, firstL, find_take hy (hsd.trans (by simp [heq])) HI.out.1])
                          have bne : (((ofP ps u : Nat) : Int) != ((ofP ps y : Nat) : Int)) = true := by
                            simp only [bne_iff_ne, ne_eq]
                            omega
                          clear hsd hy hcy heq
                          generalize ofP ps y = q at *
                          generalize ofP ps u = q2 at *
                          go_wp2_with fail
                          refine Calls.mono HO1.out ?_
                          rintro e w3 ⟨rfl, rfl⟩
                          go_wp2_with fail
                          refine Calls.mono HO2.out ?_
                          rintro e w3 ⟨rfl, rfl⟩
                          go_wp2
                          go_ret2
                          exact ⟨by rw [HN.out]; rfl, HTD.out.trans HT2.out (by simp)⟩
                  · obtain rfl : m = l.length := by omega
                    have hns : firstL cP l = none := find_none (fun x hx => HI.out.1 x (by rw [List.take_length]; exact hx))
                    rw [hns] at HTP3
                    have HTP4 : Hid (checkP f k = match refEnd f ps l with
                      | some x => (x, 44)
                      | none => (0, 0)) := toHid HTP3.out
                    have HT3 := toHid HI.out.2
                    clear hns HTP3 HI HCD hml
                    generalize wr = we at *
                    have HLE := toHid (HLD.out.touch HT3.out (by simp))
                    have HNE := toHid (HND.out.touch HT3.out (by simp))
                    have HPE := toHid (HPD.out.touch HT3.out (by simp))
                    have HTE := toHid (HTD.out.trans HT3.out (by simp))
                    clear HLD HND HPD HTD HT3
                    go_wp2_with fail
                    go_loopw [109] (fun t w' => ∃ (m : Nat), m ≤ l.length ∧ t = .int .i64 m ∧ Hid (refEnd f ps l = refEnd f ps (l.drop m) ∧ w' = we)) (fun t _ => l.length - (intOf t).toNat)
                    case atStart => exact ⟨0, by omega, rfl, toHid ⟨rfl, rfl⟩⟩
                    case round =>
                      obtain ⟨m, hm, rfl, HI⟩ := hrel
                      obtain ⟨hre, rfl⟩ := HI.out
                      clear HI
                      by_cases hml : m < l.length
                      · have z2 : (m : Int) < (l.length : Int) := by omega
                        obtain ⟨y, hy⟩ : ∃ y, l[m]? = some y := ⟨_, List.getElem?_eq_getElem hml⟩
                        have hyn := HLT.out y (List.mem_of_getElem? hy)
                        have z3 : (y : Int) < (k : Int) := by omega
                        have hcy := HNE.out.cell hy
                        obtain ⟨b, off, rfl, hS⟩ := HLE.out.slots hyn
                        obtain ⟨c0, c1, c2, c3, c4⟩ := hS.at_ y hyn
                        clear hS c1 c2 c3 c4
                        have hdy : l.drop m = y :: l.drop (m + 1) := by
                          obtain ⟨h1, rfl⟩ := List.getElem?_eq_some_iff.1 hy
                          exact List.drop_eq_getElem_cons h1
                        by_cases hm1 : m + 1 < l.length
                        · have z4 : (m : Int) + 1 < (l.length : Int) := by omega
                          obtain ⟨z, hz⟩ : ∃ z, l[m + 1]? = some z := ⟨_, List.getElem?_eq_getElem hm1⟩
                          have hcz := HNE.out.cell hz
                          have hdz : l.drop (m + 1) = z :: l.drop (m + 2) := by
                            obtain ⟨h1, rfl⟩ := List.getElem?_eq_some_iff.1 hz
                            exact List.drop_eq_getElem_cons h1
                          have hre2 : refEnd f ps l = if ofP ps z = ofP ps y then refEnd f ps (l.drop (m + 1)) else if closeB (f y) = true then refEnd f ps (l.drop (m + 1)) else some y := by
                            rw [hre, hdy, hdz]
                            rfl
                          have HO1 := toHid (of_any g2 cap2 ps z wr (by omega) HPE.out)
                          have HO2 := toHid (of_any g2 cap2 ps y wr (by omega) HPE.out)
                          simp only [slV] at HO1 HO2
                          clear hdy hdz hz
                          by_cases heq : ofP ps z = ofP ps y
                          · have HN : Hid (refEnd f ps l = refEnd f ps (l.drop (m + 1))) := toHid (by rw [hre2, if_pos heq])
                            have beq : (((ofP ps z : Nat) : Int) == ((ofP ps y : Nat) : Int)) = true := by simp [heq]
                            rw [heq] at HO1 beq
                            clear heq hre hre2 hy
                            generalize ofP ps y = q at *
                            generalize f y = i at *
                            go_wp2_with fail
                            refine Calls.mono HO1.out ?_
                            rintro e w3 ⟨rfl, rfl⟩
                            go_wp2_with fail
                            refine Calls.mono HO2.out ?_
                            rintro e w3 ⟨rfl, rfl⟩
                            go_wp2
                            go_roundw
                            case rel => exact ⟨m + 1, by omega, by go_num, toHid ⟨HN.out, trivial⟩⟩
                            case measure => simp [intOf]; omega
                          · have bne : (((ofP ps z : Nat) : Int) == ((ofP ps y : Nat) : Int)) = false := by
                              simp only [beq_eq_false_iff_ne, ne_eq]
                              omega
                            rw [if_neg heq] at hre2
                            clear heq
                            generalize ofP ps y = q at *
                            generalize ofP ps z = q2 at *
                            cases hcl : closeB (f y)
                            · have HN : Hid (checkP f k = (y, 44)) := toHid (by rw [HTP4.out, hre2, hcl]; rfl)
                              have ho : ¬ ((f y).op = 149 ∨ (f y).op = 5) := by simpa [closeB] using hcl
                              have b1 : ((f y).op != 149) = true := by simp; omega
                              have b2 : ((f y).op != 5) = true := by simp; omega
                              clear hcl ho hre hre2 hy
                              generalize f y = i at *
                              go_wp2_with fail
                              refine Calls.mono HO1.out ?_
                              rintro e w3 ⟨rfl, rfl⟩
                              go_wp2_with fail
                              refine Calls.mono HO2.out ?_
                              rintro e w3 ⟨rfl, rfl⟩
                              go_wp2
                              go_ret2
                              exact ⟨by rw [HN.out]; rfl, HTE.out⟩
                            · have HN : Hid (refEnd f ps l = refEnd f ps (l.drop (m + 1))) := toHid (by rw [hre2, hcl]; rfl)
                              have ho : (f y).op = 149 ∨ (f y).op = 5 := by simpa [closeB] using hcl
                              clear hcl hre hre2 hy
                              generalize f y = i at *
                              rcases ho with ho | ho
                              · have b1 : (i.op != 149) = false := by simpa using ho
                                clear ho
                                go_wp2_with fail
                                refine Calls.mono HO1.out ?_
                                rintro e w3 ⟨rfl, rfl⟩
                                go_wp2_with fail
                                refine Calls.mono HO2.out ?_
                                rintro e w3 ⟨rfl, rfl⟩
                                go_wp2
                                go_roundw
                                case rel => exact ⟨m + 1, by omega, by go_num, toHid ⟨HN.out, trivial⟩⟩
                                case measure => simp [intOf]; omega
                              · have b1 : (i.op != 149) = true := by simp; omega
                                have b2 : (i.op != 5) = false := by simpa using ho
                                clear ho
                                go_wp2_with fail
                                refine Calls.mono HO1.out ?_
                                rintro e w3 ⟨rfl, rfl⟩
                                go_wp2_with fail
                                refine Calls.mono HO2.out ?_
                                rintro e w3 ⟨rfl, rfl⟩
                                go_wp2
                                go_roundw
                                case rel => exact ⟨m + 1, by omega, by go_num, toHid ⟨HN.out, trivial⟩⟩
                                case measure => simp [intOf]; omega
                        · have z4 : ¬ (m : Int) + 1 < (l.length : Int) := by omega
                          have hre2 : refEnd f ps l = if closeB (f y) = true then none else some y := by
                            rw [hre, hdy, List.drop_eq_nil_iff.2 (by omega)]
                            rfl
                          clear hdy
                          cases hcl : closeB (f y)
                          · have HN : Hid (checkP f k = (y, 44)) := toHid (by rw [HTP4.out, hre2, hcl]; rfl)
                            have ho : ¬ ((f y).op = 149 ∨ (f y).op = 5) := by simpa [closeB] using hcl
                            have b1 : ((f y).op != 149) = true := by simp; omega
                            have b2 : ((f y).op != 5) = true := by simp; omega
                            clear hcl ho hre hre2 hy
                            generalize f y = i at *
                            go_wp2
                            go_ret2
                            exact ⟨by rw [HN.out]; rfl, HTE.out⟩
                          · have HN : Hid (refEnd f ps l = refEnd f ps (l.drop (m + 1))) := toHid (by rw [hre2, hcl, List.drop_eq_nil_iff.2 (by omega)]; rfl)
                            have ho : (f y).op = 149 ∨ (f y).op = 5 := by simpa [closeB] using hcl
                            clear hcl hre hre2 hy
                            generalize f y = i at *
                            rcases ho with ho | ho
                            · have b1 : (i.op != 149) = false := by simpa using ho
                              clear ho
                              go_wp2
                              go_roundw
                              case rel => exact ⟨m + 1, by omega, by go_num, toHid ⟨HN.out, trivial⟩⟩
                              case measure => simp [intOf]; omega
                            · have b1 : (i.op != 149) = true := by simp; omega
                              have b2 : (i.op != 5) = false := by simpa using ho
                              clear ho
                              go_wp2
                              go_roundw
                              case rel => exact ⟨m + 1, by omega, by go_num, toHid ⟨HN.out, trivial⟩⟩
                              case measure => simp [intOf]; omega
                      · have HN : Hid (checkP f k = (0, 0)) := toHid (by rw [HTP4.out, hre, List.drop_eq_nil_iff.2 (by omega)]; rfl)
                        clear hre
                        go_wp2
                        go_ret2
                        exact ⟨by rw [HN.out]; rfl, HTE.out⟩
end Go.Proofs.Ytpoliblfgioocaa
