/-
  wrongInst, strayJump: the first instruction that is wrong by itself, the first that leads nowhere.
-/
import Derived.Test.YtpoliblfgioocaaForbid
import Derived.Test.YtpoliblfgioocaaSearch
namespace Go.Proofs.Ytpoliblfgioocaa
open Go.RowKit

def wrongV : Option (Nat × Int) → Value
  | none => .tuple #[.int .i64 0, .int .i64 0]
  | some r => .tuple #[.int .i64 (r.1 : Int), .int .i64 r.2]
set_option maxHeartbeats 2000000 in
set_option maxRecDepth 100000 in
theorem wrongInst_any (sa : Option Addr) (n c : Nat) (f : Nat → In) (w : World) (h : ListAt w sa n f) (hn : n ≤ 17592186044415) :
    Calls Try.prog 17 #[.slice sa n c] w fun e w' => e = .returned (wrongV (wrongL f n)) ∧ Touch [] w w' := by
  have HS := toHid h
  clear h
  go_enter Try.func17, Try.ntmps17
  go_wp2_with fail
  go_loopw [4] (fun t w' => ∃ (k : Nat), k ≤ n ∧ t = .int .i64 k ∧ Hid (wrongL f n = wrongFrom f n k ∧ Touch [] w w')) (fun t _ => n - (intOf t).toNat)
  case atStart => exact ⟨0, by omega, rfl, toHid ⟨rfl, Touch.refl _ _⟩⟩
  case round =>
    obtain ⟨k, hk, rfl, HI⟩ := hrel
    by_cases hlt : k < n
    · have HL := toHid (HS.out.touch HI.out.2 (by simp))
      have HR := toHid (HL.out.plain c k hlt (by omega))
      have z1 : (k : Int) < (n : Int) := by omega
      by_cases he : errP f n k = 0
      · rw [plain_eq hlt he] at HR
        have hl := plain_len hlt he
        have l1 : 1 ≤ lenP f n k := hl.2.1
        have l2 : k + lenP f n k ≤ n := hl.2.2
        clear hl
        cases hf : forbidB (f k)
        · have HW : Hid (wrongL f n = wrongFrom f n (k + lenP f n k)) := toHid (by rw [HI.out.1, wrong_step hlt he hf])
          generalize lenP f n k = m at *
          obtain ⟨b, off, rfl, hS⟩ := HL.out.slots hlt
          have HF := toHid (fun w => isForbidden_any (f k) w (hS.ok k hlt))
          rw [hf] at HF
          have HA := toHid (hS.at_ k hlt)
          clear hS hf he
          generalize f k = i at *
          simp only [In.v] at HF
          go_wp2_with fail
          refine Calls.mono HR.out ?_
          rintro e w2 ⟨rfl, ht2⟩
          have HT2 := toHid (HI.out.2.trans ht2 (by simp))
          obtain ⟨c0, c1, c2, c3, c4⟩ := HA.out.touch ht2 (by simp)
          clear ht2 HR
          go_wp2_with fail
          refine Calls.mono (HF.out _) ?_
          rintro e w3 ⟨rfl, ht3⟩
          have HT3 := toHid (HT2.out.trans ht3 (by simp))
          clear ht3 c0 c1 c2 c3 c4
          go_wp2
          go_roundw
          case rel => exact ⟨k + m, by omega, by go_num, toHid ⟨HW.out, HT3.out⟩⟩
          case measure => simp [intOf]; omega
        · have HW : Hid (wrongL f n = some (k, 42)) := toHid (by rw [HI.out.1, wrong_forbid hlt he hf])
          generalize lenP f n k = m at *
          obtain ⟨b, off, rfl, hS⟩ := HL.out.slots hlt
          have HF := toHid (fun w => isForbidden_any (f k) w (hS.ok k hlt))
          rw [hf] at HF
          have HA := toHid (hS.at_ k hlt)
          clear hS hf he
          generalize f k = i at *
          simp only [In.v] at HF
          go_wp2_with fail
          refine Calls.mono HR.out ?_
          rintro e w2 ⟨rfl, ht2⟩
          have HT2 := toHid (HI.out.2.trans ht2 (by simp))
          obtain ⟨c0, c1, c2, c3, c4⟩ := HA.out.touch ht2 (by simp)
          clear ht2 HR
          go_wp2_with fail
          refine Calls.mono (HF.out _) ?_
          rintro e w3 ⟨rfl, ht3⟩
          have HT3 := toHid (HT2.out.trans ht3 (by simp))
          clear ht3 c0 c1 c2 c3 c4
          go_wp2
          go_ret2
          exact ⟨by rw [HW.out]; rfl, HT3.out⟩
      · have HW : Hid (wrongL f n = some (k, (plainOf f n k).2)) := toHid (by rw [HI.out.1, wrong_err hlt he]; rfl)
        have he2 : ((plainOf f n k).2 != 0) = true := by simpa [errP] using he
        have he3 : ((plainOf f n k).2 == 0) = false := by simpa [errP] using he
        clear he
        generalize plainOf f n k = pr at *
        go_wp2_with fail
        refine Calls.mono HR.out ?_
        rintro e w2 ⟨rfl, ht2⟩
        have HT2 := toHid (HI.out.2.trans ht2 (by simp))
        clear ht2 HR
        go_wp2
        go_ret2
        exact ⟨by rw [HW.out]; rfl, HT2.out⟩
    · have HW : Hid (wrongL f n = none) := toHid (by rw [HI.out.1, wrong_end hlt])
      go_wp2
      go_ret2
      exact ⟨by rw [HW.out]; rfl, HI.out.2⟩

theorem find_at {l : List Nat} {p : Nat → Bool} {k : Nat} (hs : l.Pairwise (· < ·)) (hk : k ∈ l) (hp : p k = true) (h : ∀ j ∈ l, j < k → p j = false) : l.find? p = some k := by
  induction l with
  | nil => cases hk
  | cons a l ih =>
    have hs2 := List.pairwise_cons.1 hs
    rcases List.mem_cons.1 hk with rfl | hk'
    · rw [List.find?_cons, hp]
    · have hak := hs2.1 k hk'
      rw [List.find?_cons, h a (by simp) hak]
      exact ih hs2.2 hk' (fun j hj hjk => h j (by simp [hj]) hjk)
theorem find_none {l : List Nat} {p : Nat → Bool} (h : ∀ j ∈ l, p j = false) : l.find? p = none := by
  rw [List.find?_eq_none]
  intro x hx
  rw [h x hx]
  simp
theorem step_skip {l : List Nat} {p : Nat → Bool} {k : Nat} (h : ∀ j ∈ l, j < k → p j = false) (hk : k ∈ l → p k = false) : ∀ j ∈ l, j < k + 1 → p j = false := by
  intro j hj hjk
  by_cases he : j = k
  · subst he
    exact hk hj
  · exact h j hj (by omega)
theorem stray_none {f : Nat → In} {n k : Nat} (h : toP (f k) k = none) : strayB f n k = false := by simp [strayB, h]
theorem stray_tgt {f : Nat → In} {n k : Nat} (h : (toP (f k) k).isSome = true) : strayB f n k = match tgtP f n k with
    | none => true
    | some t => !startsB f n t := by
  obtain ⟨t, ht⟩ := Option.isSome_iff_exists.1 h
  cases htg : tgtP f n k with
  | none =>
    simp only [strayB, ht, Bool.not_eq_true', decide_eq_false_iff_not]
    rintro ⟨y, hy, rfl⟩
    rw [tgt_of ht (begL_lt hy)] at htg
    cases htg
  | some u =>
    have := (tgt_lt htg).2
    rw [ht] at this
    injection this with this
    subst this
    simp only [strayB, ht, startsB, inB, Bool.not_eq_eq_eq_not, Bool.not_not, decide_eq_decide]
    constructor
    · rintro ⟨y, hy, e⟩
      have : y = u := by omega
      subst this
      exact hy
    · intro h
      exact ⟨u, h, rfl⟩

set_option maxHeartbeats 3200000 in
set_option maxRecDepth 100000 in
theorem strayJump_any (sa : Option Addr) (n c B cc : Nat) (f : Nat → In) (w : World) (h : ListAt w sa n f) (hn : n ≤ 17592186044415) (hB : Blk w B (marks n (startsB f n)) 4) :
    Calls Try.prog 18 #[.slice sa n c, .slice (some ⟨B, 0, none⟩) n cc] w fun e w' => e = .returned (tgtV (firstL (strayB f n) (begL f n))) ∧ Touch [] w w' := by
  have HS := toHid h
  have HB := toHid hB
  clear h hB
  go_enter Try.func18, Try.ntmps18
  go_wp2_with fail
  go_loopw [12] (fun t w' => ∃ (k : Nat), k ≤ n ∧ t = .int .i64 k ∧ Hid ((∀ j ∈ begL f n, j < k → strayB f n j = false) ∧ Touch [] w w')) (fun t _ => n - (intOf t).toNat)
  case atStart => exact ⟨0, by omega, rfl, toHid ⟨fun j _ hj => by omega, Touch.refl _ _⟩⟩
  case round =>
    obtain ⟨k, hk, rfl, HI⟩ := hrel
    by_cases hlt : k < n
    · have z1 : (k : Int) < (n : Int) := by omega
      have HB2 := toHid (HI.out.2.blk HB.out (by simp))
      have hs := HB2.out.cell (marks_get hlt)
      have HL := toHid (HS.out.touch HI.out.2 (by simp))
      obtain ⟨b, off, rfl, hS⟩ := HL.out.slots hlt
      have ok := hS.ok k hlt
      obtain ⟨c0, c1, c2, c3, c4⟩ := hS.at_ k hlt
      clear hS
      cases hb : startsB f n k
      · rw [hb] at hs
        have hnb : ¬ k ∈ begL f n := by simpa [startsB, inB] using hb
        have HN := toHid (step_skip HI.out.1 (fun h => absurd h hnb))
        clear hb hnb ok
        generalize f k = i at *
        go_wp2
        go_roundw
        case rel => exact ⟨k + 1, by omega, by go_num, toHid ⟨HN.out, HI.out.2⟩⟩
        case measure => simp [intOf]; omega
      · rw [hb] at hs
        have hbg : k ∈ begL f n := by simpa [startsB, inB] using hb
        clear hb
        have HP := toHid (fun w => leads_any (f k) w ok)
        have hld := lead_to (f k) k ok
        cases hp : leadB (f k)
        · rw [hp] at HP hld
          have htn : toP (f k) k = none := by simpa using hld.symm
          have HN := toHid (step_skip HI.out.1 (fun _ => stray_none (n := n) htn))
          clear hp hbg hld htn ok
          simp only [In.v] at HP
          generalize f k = i at *
          go_wp2_with fail
          refine Calls.mono (HP.out _) ?_
          rintro e w2 ⟨rfl, ht2⟩
          have HT2 := toHid (And.intro HN.out (HI.out.2.trans ht2 (by simp)))
          clear ht2 hs c0 c1 c2 c3 c4
          go_wp2
          go_roundw
          case rel => exact ⟨k + 1, by omega, by go_num, HT2⟩
          case measure => simp [intOf]; omega
        · rw [hp] at HP hld
          have hst := stray_tgt (n := n) hld.symm
          simp only [In.v] at HP
          have HTG := toHid (fun (w2 : World) (ht : Touch [] wr w2) => target_any (some ⟨b, off, none⟩) n c k f w2 (HL.out.touch ht (by simp)) hlt hn)
          cases htg : tgtP f n k with
          | none =>
            rw [htg] at HTG hst
            have HN : Hid (firstL (strayB f n) (begL f n) = some k) := toHid (find_at (begL_pair f n) hbg hst HI.out.1)
            clear hp hbg htg hst hld ok
            generalize f k = i at *
            go_wp2_with fail
            refine Calls.mono (HP.out _) ?_
            rintro e w2 ⟨rfl, ht2⟩
            have HT2 := toHid (HI.out.2.trans ht2 (by simp))
            have HG := toHid (HTG.out w2 ht2)
            clear ht2 hs c0 c1 c2 c3 c4
            go_wp2_with fail
            refine Calls.mono HG.out ?_
            rintro e w3 ⟨rfl, ht3⟩
            simp only [tgtV]
            have HT3 := toHid (HT2.out.trans ht3 (by simp))
            clear ht3
            go_wp2
            go_ret2
            exact ⟨by rw [HN.out]; rfl, HT3.out⟩
          | some u =>
            rw [htg] at HTG hst
            have hu := (tgt_lt htg).1
            have z2 : (u : Int) < (n : Int) := by omega
            cases hsu : startsB f n u
            · simp only [hsu, Bool.not_false] at hst
              have HN : Hid (firstL (strayB f n) (begL f n) = some k) := toHid (find_at (begL_pair f n) hbg hst HI.out.1)
              have HU : Hid (∀ w2, Touch [] wr w2 → w2.cell? ⟨B, u, none⟩ = some (.bool false)) := toHid (fun w2 ht => by
                have := (ht.blk HB2.out (by simp)).cell (marks_get hu)
                rwa [hsu] at this)
              clear hp hbg htg hst hld ok hsu
              generalize f k = i at *
              go_wp2_with fail
              refine Calls.mono (HP.out _) ?_
              rintro e w2 ⟨rfl, ht2⟩
              have HG := toHid (HTG.out w2 ht2)
              have HT2 := toHid ht2
              clear ht2 hs c0 c1 c2 c3 c4
              go_wp2_with fail
              refine Calls.mono HG.out ?_
              rintro e w3 ⟨rfl, ht3⟩
              simp only [tgtV]
              have HT3 := toHid (HT2.out.trans ht3 (by simp))
              have hcu := HU.out w3 HT3.out
              clear ht3
              go_wp2
              go_ret2
              exact ⟨by rw [HN.out]; rfl, HI.out.2.trans HT3.out (by simp)⟩
            · simp only [hsu, Bool.not_true] at hst
              have HN := toHid (step_skip HI.out.1 (fun _ => hst))
              have HU : Hid (∀ w2, Touch [] wr w2 → w2.cell? ⟨B, u, none⟩ = some (.bool true)) := toHid (fun w2 ht => by
                have := (ht.blk HB2.out (by simp)).cell (marks_get hu)
                rwa [hsu] at this)
              clear hp hbg htg hst hld ok hsu
              generalize f k = i at *
              go_wp2_with fail
              refine Calls.mono (HP.out _) ?_
              rintro e w2 ⟨rfl, ht2⟩
              have HG := toHid (HTG.out w2 ht2)
              have HT2 := toHid ht2
              clear ht2 hs c0 c1 c2 c3 c4
              go_wp2_with fail
              refine Calls.mono HG.out ?_
              rintro e w3 ⟨rfl, ht3⟩
              simp only [tgtV]
              have HT3 := toHid (HT2.out.trans ht3 (by simp))
              have hcu := HU.out w3 HT3.out
              have HT4 := toHid (And.intro HN.out (HI.out.2.trans HT3.out (by simp)))
              clear ht3
              go_wp2
              go_roundw
              case rel => exact ⟨k + 1, by omega, by go_num, HT4⟩
              case measure => simp [intOf]; omega
    · have HN : Hid (firstL (strayB f n) (begL f n) = none) := toHid (find_none (fun j hj => HI.out.1 j hj (by have := begL_lt hj; omega)))
      go_wp2
      go_ret2
      exact ⟨by rw [HN.out]; rfl, HI.out.2⟩
end Go.Proofs.Ytpoliblfgioocaa
