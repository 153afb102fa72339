/-
  What access and byKind answer: the operation of a name.
-/
import Derived.Test.YthlfnmjefpdjgaaGreatDoorReg
import Derived.Test.YthlfnmjefpdjgaaGreatDoorFns2
namespace Go.Proofs.YthlfnmjefpdjgaaGreatDoor
open Go.RowKit

/-- The size of that name, from the j-th on. -/
def sizFrom (e : Bs) : Nat → List Bs → Option Nat
  | _, [] => none
  | j, s :: r => if s = e then some j else sizFrom e (j + 1) r
/-- The access of that name, from the i-th class on. -/
def accFrom (name : Bs) : Nat → List Bs → Option Int
  | _, [] => none
  | i, a :: r => if Lib.hasPrefix name a = true then (match sizFrom (Lib.trimPrefix name a) 0 sizN with
    | some j => some (97 + 8 * (j : Int) + i)
    | none => accFrom name (i + 1) r) else accFrom name (i + 1) r
def accP (name : Bs) : Option Int := accFrom name 0 accN

theorem sizFrom_step (e : Bs) (j : Nat) (s : Bs) (h : sizN[j]? = some s) : sizFrom e j (sizN.drop j) = if s = e then some j else sizFrom e (j + 1) (sizN.drop (j + 1)) := by
  have hl := (List.getElem?_eq_some_iff.1 h).1
  rw [List.drop_eq_getElem_cons hl]
  rw [List.getElem?_eq_getElem hl] at h
  cases h
  rfl
theorem accFrom_step (name : Bs) (i : Nat) (a : Bs) (h : accN[i]? = some a) : accFrom name i (accN.drop i) = if Lib.hasPrefix name a = true then (match sizFrom (Lib.trimPrefix name a) 0 sizN with
    | some j => some (97 + 8 * (j : Int) + i)
    | none => accFrom name (i + 1) (accN.drop (i + 1))) else accFrom name (i + 1) (accN.drop (i + 1)) := by
  have hl := (List.getElem?_eq_some_iff.1 h).1
  rw [List.drop_eq_getElem_cons hl]
  rw [List.getElem?_eq_getElem hl] at h
  cases h
  rfl

theorem idx96 (k : Nat) (s : Bs) (h : accN[k]? = some s) (W : World) : (Instr.index 96 (.agg #[.string ⟨#[108, 100, 120]⟩, .string ⟨#[115, 116]⟩, .string ⟨#[115, 116, 120]⟩]) (.int .i64 (k : Int))).run Tryz.prog W = .ok (.string ⟨s.toArray⟩) W := by
  have hk : k < 3 := (List.getElem?_eq_some_iff.1 h).1
  rcases (by omega : k = 0 ∨ k = 1 ∨ k = 2) with rfl | rfl | rfl
  all_goals (simp only [accN, List.getElem?_cons_zero, List.getElem?_cons_succ, Option.some.injEq] at h; subst h; simp [Instr.index, go_sem])
theorem idx97 (k : Nat) (s : Bs) (h : sizN[k]? = some s) (W : World) : (Instr.index 97 (.agg #[.string ⟨#[119]⟩, .string ⟨#[104]⟩, .string ⟨#[98]⟩, .string ⟨#[100, 119]⟩]) (.int .i64 (k : Int))).run Tryz.prog W = .ok (.string ⟨s.toArray⟩) W := by
  have hk : k < 4 := (List.getElem?_eq_some_iff.1 h).1
  rcases (by omega : k = 0 ∨ k = 1 ∨ k = 2 ∨ k = 3) with rfl | rfl | rfl | rfl
  all_goals (simp only [sizN, List.getElem?_cons_zero, List.getElem?_cons_succ, Option.some.injEq] at h; subst h; simp [Instr.index, go_sem])
theorem idx98 (k : Nat) (s : Bs) (h : aluN[k]? = some s) (W : World) : (Instr.index 98 (.agg #[.string ⟨#[97, 100, 100]⟩, .string ⟨#[115, 117, 98]⟩, .string ⟨#[109, 117, 108]⟩, .string ⟨#[100, 105, 118]⟩, .string ⟨#[111, 114]⟩, .string ⟨#[97, 110, 100]⟩, .string ⟨#[108, 115, 104]⟩, .string ⟨#[114, 115, 104]⟩, .string ⟨#[110, 101, 103]⟩, .string ⟨#[109, 111, 100]⟩, .string ⟨#[120, 111, 114]⟩, .string ⟨#[109, 111, 118]⟩, .string ⟨#[97, 114, 115, 104]⟩]) (.int .i64 (k : Int))).run Tryz.prog W = .ok (.string ⟨s.toArray⟩) W := by
  have hk : k < 13 := (List.getElem?_eq_some_iff.1 h).1
  rcases (by omega : k = 0 ∨ k = 1 ∨ k = 2 ∨ k = 3 ∨ k = 4 ∨ k = 5 ∨ k = 6 ∨ k = 7 ∨ k = 8 ∨ k = 9 ∨ k = 10 ∨ k = 11 ∨ k = 12) with rfl | rfl | rfl | rfl | rfl | rfl | rfl | rfl | rfl | rfl | rfl | rfl | rfl
  all_goals (simp only [aluN, List.getElem?_cons_zero, List.getElem?_cons_succ, Option.some.injEq] at h; subst h; simp [Instr.index, go_sem])
theorem idx99 (k : Nat) (s : Bs) (h : jmpN[k]? = some s) (W : World) : (Instr.index 99 (.agg #[.string ⟨#[106, 97]⟩, .string ⟨#[106, 101, 113]⟩, .string ⟨#[106, 103, 116]⟩, .string ⟨#[106, 103, 101]⟩, .string ⟨#[106, 115, 101, 116]⟩, .string ⟨#[106, 110, 101]⟩, .string ⟨#[106, 115, 103, 116]⟩, .string ⟨#[106, 115, 103, 101]⟩, .string ⟨#[99, 97, 108, 108]⟩, .string ⟨#[101, 120, 105, 116]⟩, .string ⟨#[106, 108, 116]⟩, .string ⟨#[106, 108, 101]⟩, .string ⟨#[106, 115, 108, 116]⟩, .string ⟨#[106, 115, 108, 101]⟩]) (.int .i64 (k : Int))).run Tryz.prog W = .ok (.string ⟨s.toArray⟩) W := by
  have hk : k < 14 := (List.getElem?_eq_some_iff.1 h).1
  rcases (by omega : k = 0 ∨ k = 1 ∨ k = 2 ∨ k = 3 ∨ k = 4 ∨ k = 5 ∨ k = 6 ∨ k = 7 ∨ k = 8 ∨ k = 9 ∨ k = 10 ∨ k = 11 ∨ k = 12 ∨ k = 13) with rfl | rfl | rfl | rfl | rfl | rfl | rfl | rfl | rfl | rfl | rfl | rfl | rfl | rfl
  all_goals (simp only [jmpN, List.getElem?_cons_zero, List.getElem?_cons_succ, Option.some.injEq] at h; subst h; simp [Instr.index, go_sem])
theorem acc_bits : ∀ (j : Fin 4) (k : Fin 3), bits .or .i64 (bits .or .i64 96 ((j.val : Int) * 8)) (1 + (k.val : Int)) % 256 = 97 + 8 * (j.val : Int) + k.val := by decide +kernel

set_option maxRecDepth 100000 in
set_option maxHeartbeats 4000000 in
theorem access_any (name : Bs) (w : World) (hE : Env w) :
    Calls Tryz.prog 66 #[.string ⟨name.toArray⟩] w fun e w' => e = .returned (.tuple #[.int .u8 ((accP name).getD 0), .bool (accP name).isSome]) ∧ w' = w := by
  have a0 := hE.acc 0 _ rfl
  have a1 := hE.acc 1 _ rfl
  have a2 := hE.acc 2 _ rfl
  have s0 := hE.siz 0 _ rfl
  have s1 := hE.siz 1 _ rfl
  have s2 := hE.siz 2 _ rfl
  have s3 := hE.siz 3 _ rfl
  unfold str at a0 a1 a2 s0 s1 s2 s3
  go_enter Tryz.func66, Tryz.ntmps66
  go_wp2_with fail
  go_loop [11] (fun t => ∃ k : Nat, k ≤ 3 ∧ t = .int .i64 k ∧ Hid (accP name = accFrom name k (accN.drop k))) (fun t => 3 - (intOf t).toNat)
  case atStart => exact ⟨0, by omega, rfl, rfl⟩
  case round =>
    obtain ⟨k, hk, rfl, HI⟩ := hrel
    by_cases hlt : k < 3
    · obtain ⟨a, ha⟩ : ∃ a, accN[k]? = some a := ⟨_, List.getElem?_eq_getElem hlt⟩
      have HS := toHid ((show accP name = _ from HI).trans (accFrom_step name k a ha))
      have hix := idx96 k a ha
      clear HI ha
      go_wp2_with (first | (go_at_call 84; refine (Tryz.strings_CutPrefix _ _ _).mono ?_; rintro e w2 ⟨rfl, rfl⟩; refine Hid.out ?_) | fail)
      refine toHid ?_
      generalize hok : Lib.hasPrefix name a = ok at *
      generalize hend : Lib.trimPrefix name a = en at *
      clear hok hend
      cases ok with
      | false =>
        go_wp2
        go_round
        case rel => exact ⟨k + 1, by omega, by go_num, HS⟩
        case measure => simp [intOf]; omega
      | true =>
        go_wp2_with fail
        go_loop [24] (fun t => ∃ j : Nat, j ≤ 4 ∧ t = .int .i64 j ∧ Hid (sizFrom en 0 sizN = sizFrom en j (sizN.drop j))) (fun t => 4 - (intOf t).toNat)
        case atStart => exact ⟨0, by omega, rfl, rfl⟩
        case round =>
          obtain ⟨j, hj, rfl, HJ⟩ := hrel
          by_cases hjl : j < 4
          · obtain ⟨s, hs⟩ : ∃ s, sizN[j]? = some s := ⟨_, List.getElem?_eq_getElem hjl⟩
            have HS2 := toHid ((show sizFrom en 0 sizN = _ from HJ).trans (sizFrom_step en j s hs))
            have hix2 := idx97 j s hs
            clear HJ hs
            by_cases hse : s = en
            · have hbe : (s == en) = true := by simpa using hse
              go_wp2
              have h1 : sizFrom en 0 sizN = some j := (show sizFrom en 0 sizN = _ from HS2).trans (if_pos hse)
              have h2 : accP name = some (97 + 8 * (j : Int) + k) := by
                have h2 : accP name = _ := HS
                simpa [h1] using h2
              refine bodyPost_ret (v := .tuple #[.int .u8 (97 + 8 * (j : Int) + k), .bool true]) ?_ rfl ⟨by rw [h2]; rfl, rfl⟩
              clear hix hix2 HS HS2 h1 h2
              have hbits := acc_bits ⟨j, hjl⟩ ⟨k, hlt⟩
              simpa [results, Tryz.results66, go_sem] using hbits
            · have hbe : (s == en) = false := by simpa using hse
              go_wp2
              go_round
              case rel => exact ⟨j + 1, by omega, by go_num, (show sizFrom en 0 sizN = _ from HS2).trans (if_neg hse)⟩
              case measure => simp [intOf]; omega
          · obtain rfl : j = 4 := by omega
            go_wp2
            go_round
            case rel =>
              refine ⟨k + 1, by omega, by go_num, ?_⟩
              have h1 : sizFrom en 0 sizN = none := HJ
              have h2 : accP name = _ := HS
              refine toHid ?_
              simpa [h1] using h2
            case measure => simp [intOf]; omega
    · obtain rfl : k = 3 := by omega
      go_wp2
      have h1 : accP name = none := HI
      exact bodyPost_ret (v := .tuple #[.int .u8 0, .bool false]) (by simp [results, Tryz.results66, go_sem]) rfl ⟨by rw [h1]; rfl, rfl⟩

/-- The kind of that name, from the k-th on. -/
def aluFrom (e : Bs) : Nat → List Bs → Option Nat
  | _, [] => none
  | k, s :: r => if s = e then some k else aluFrom e (k + 1) r
def jmpFrom (e : Bs) (c : Int) : Nat → List Bs → Option Nat
  | _, [] => none
  | k, s :: r => if s = e ∧ knownB (16 * (k : Int) + c) = true then some k else jmpFrom e c (k + 1) r
def kindE (alu jmp : Int) (e : Bs) : Option Int := match aluFrom e 0 aluN with
  | some k => some (16 * (k : Int) + alu)
  | none => match jmpFrom e jmp 0 jmpN with
    | some k => some (16 * (k : Int) + jmp)
    | none => none
def kindP (name : Bs) : Option Int := if Lib.hasSuffix name [51, 50] = true then kindE 4 6 (Lib.trimSuffix name [51, 50]) else kindE 7 5 (Lib.trimSuffix name [51, 50])
theorem aluFrom_step (e : Bs) (j : Nat) (s : Bs) (h : aluN[j]? = some s) : aluFrom e j (aluN.drop j) = if s = e then some j else aluFrom e (j + 1) (aluN.drop (j + 1)) := by
  have hl := (List.getElem?_eq_some_iff.1 h).1
  rw [List.drop_eq_getElem_cons hl]
  rw [List.getElem?_eq_getElem hl] at h
  cases h
  rfl
theorem jmpFrom_step (e : Bs) (c : Int) (j : Nat) (s : Bs) (h : jmpN[j]? = some s) : jmpFrom e c j (jmpN.drop j) = if s = e ∧ knownB (16 * (j : Int) + c) = true then some j else jmpFrom e c (j + 1) (jmpN.drop (j + 1)) := by
  have hl := (List.getElem?_eq_some_iff.1 h).1
  rw [List.drop_eq_getElem_cons hl]
  rw [List.getElem?_eq_getElem hl] at h
  cases h
  rfl
theorem alu_bits : ∀ (k : Fin 14) (c : Fin 8), bits .or .i64 ((k.val : Int) * 16) (c.val : Int) % 256 = 16 * (k.val : Int) + c.val := by decide +kernel

set_option maxRecDepth 100000 in
set_option maxHeartbeats 4000000 in
theorem byKind_narrow (name : Bs) (w : World) (hE : Env w) (hn : name.length ≤ 1073741824) (hsf : Lib.hasSuffix name [51, 50] = true) (en : Bs) (hen : Lib.trimSuffix name [51, 50] = en) :
    Calls Tryz.prog 67 #[.string ⟨name.toArray⟩] w fun e w' => e = .returned (.tuple #[.int .u8 ((kindE 4 6 en).getD 0), .bool (kindE 4 6 en).isSome]) ∧ w' = w := by
  have a0 := hE.alu 0 _ rfl
  have a1 := hE.alu 1 _ rfl
  have a2 := hE.alu 2 _ rfl
  have a3 := hE.alu 3 _ rfl
  have a4 := hE.alu 4 _ rfl
  have a5 := hE.alu 5 _ rfl
  have a6 := hE.alu 6 _ rfl
  have a7 := hE.alu 7 _ rfl
  have a8 := hE.alu 8 _ rfl
  have a9 := hE.alu 9 _ rfl
  have a10 := hE.alu 10 _ rfl
  have a11 := hE.alu 11 _ rfl
  have a12 := hE.alu 12 _ rfl
  have j0 := hE.jmp 0 _ rfl
  have j1 := hE.jmp 1 _ rfl
  have j2 := hE.jmp 2 _ rfl
  have j3 := hE.jmp 3 _ rfl
  have j4 := hE.jmp 4 _ rfl
  have j5 := hE.jmp 5 _ rfl
  have j6 := hE.jmp 6 _ rfl
  have j7 := hE.jmp 7 _ rfl
  have j8 := hE.jmp 8 _ rfl
  have j9 := hE.jmp 9 _ rfl
  have j10 := hE.jmp 10 _ rfl
  have j11 := hE.jmp 11 _ rfl
  have j12 := hE.jmp 12 _ rfl
  have j13 := hE.jmp 13 _ rfl
  unfold str at a0 a1 a2 a3 a4 a5 a6 a7 a8 a9 a10 a11 a12 j0 j1 j2 j3 j4 j5 j6 j7 j8 j9 j10 j11 j12 j13
  go_enter Tryz.func67, Tryz.ntmps67
  go_wp2_with (first | (go_at_call 85; refine (Tryz.strings_CutSuffix _ _ _ (by rw [mk_size]; omega)).mono ?_; rintro e w2 ⟨rfl, rfl⟩; refine Hid.out ?_) | fail)
  refine toHid ?_
  go_wp2_with fail
  go_loop [20] (fun t => ∃ k : Nat, k ≤ 13 ∧ t = .int .i64 k ∧ Hid (aluFrom en 0 aluN = aluFrom en k (aluN.drop k))) (fun t => 13 - (intOf t).toNat)
  case atStart => exact ⟨0, by omega, rfl, rfl⟩
  case round =>
    obtain ⟨k, hk, rfl, HJ⟩ := hrel
    by_cases hlt : k < 13
    · obtain ⟨s, hs⟩ : ∃ s, aluN[k]? = some s := ⟨_, List.getElem?_eq_getElem hlt⟩
      have HS2 := toHid ((show aluFrom en 0 aluN = _ from HJ).trans (aluFrom_step en k s hs))
      have hix2 := idx98 k s hs
      clear HJ hs
      by_cases hse : s = en
      · have hbe : (s == en) = true := by simpa using hse
        go_wp2
        have h1 : aluFrom en 0 aluN = some k := (show aluFrom en 0 aluN = _ from HS2).trans (if_pos hse)
        have h2 : kindE 4 6 en = some (16 * (k : Int) + 4) := by unfold kindE; rw [h1]
        refine bodyPost_ret (v := .tuple #[.int .u8 (16 * (k : Int) + 4), .bool true]) ?_ rfl ⟨by rw [h2]; rfl, rfl⟩
        clear hix2 HS2 h1 h2
        have hbits : bits .or .i64 ((k : Int) * 16) 4 % 256 = 16 * (k : Int) + 4 := alu_bits ⟨k, by omega⟩ 4
        simpa [results, Tryz.results67, go_sem] using hbits
      · have hbe : (s == en) = false := by simpa using hse
        go_wp2
        go_round
        case rel => exact ⟨k + 1, by omega, by go_num, (show aluFrom en 0 aluN = _ from HS2).trans (if_neg hse)⟩
        case measure => simp [intOf]; omega
    · obtain rfl : k = 13 := by omega
      have HA := toHid (show aluFrom en 0 aluN = none from HJ)
      clear HJ
      go_wp2_with fail
      go_loop [34] (fun t => ∃ k : Nat, k ≤ 14 ∧ t = .int .i64 k ∧ Hid (jmpFrom en 6 0 jmpN = jmpFrom en 6 k (jmpN.drop k))) (fun t => 14 - (intOf t).toNat)
      case atStart => exact ⟨0, by omega, rfl, rfl⟩
      case round =>
        obtain ⟨k, hk, rfl, HJ⟩ := hrel
        by_cases hlt : k < 14
        · obtain ⟨s, hs⟩ : ∃ s, jmpN[k]? = some s := ⟨_, List.getElem?_eq_getElem hlt⟩
          have HS2 := toHid ((show jmpFrom en 6 0 jmpN = _ from HJ).trans (jmpFrom_step en 6 k s hs))
          have hix2 := idx99 k s hs
          clear HJ hs
          have hbits : bits .or .i64 ((k : Int) * 16) 6 % 256 = 16 * (k : Int) + 6 := alu_bits ⟨k, by omega⟩ 6
          by_cases hse : s = en
          · have hbe : (s == en) = true := by simpa using hse
            go_wp2_with fail
            refine (known_any _ _ (by omega) (by omega)).mono ?_
            rintro e w3 ⟨rfl, rfl⟩
            generalize hkn : knownB (16 * (k : Int) + 6) = kn at *
            cases kn with
            | true =>
              go_wp2
              have h1 : jmpFrom en 6 0 jmpN = some k := (show jmpFrom en 6 0 jmpN = _ from HS2).trans (if_pos ⟨hse, by simp⟩)
              have h0 : aluFrom en 0 aluN = none := HA
              have h2 : kindE 4 6 en = some (16 * (k : Int) + 6) := by unfold kindE; rw [h0, h1]
              refine bodyPost_ret (v := .tuple #[.int .u8 (16 * (k : Int) + 6), .bool true]) ?_ rfl ⟨by rw [h2]; rfl, rfl⟩
              clear hix2 HS2 h1 h2
              simp [results, Tryz.results67, go_sem]
            | false =>
              go_wp2
              go_round
              case rel => exact ⟨k + 1, by omega, by go_num, (show jmpFrom en 6 0 jmpN = _ from HS2).trans (if_neg (fun h => by simp at h))⟩
              case measure => simp [intOf]; omega
          · have hbe : (s == en) = false := by simpa using hse
            go_wp2
            go_round
            case rel => exact ⟨k + 1, by omega, by go_num, (show jmpFrom en 6 0 jmpN = _ from HS2).trans (if_neg (fun h => hse h.1))⟩
            case measure => simp [intOf]; omega
        · obtain rfl : k = 14 := by omega
          go_wp2
          have h1 : jmpFrom en 6 0 jmpN = none := HJ
          have h0 : aluFrom en 0 aluN = none := HA
          have h2 : kindE 4 6 en = none := by unfold kindE; rw [h0, h1]
          exact bodyPost_ret (v := .tuple #[.int .u8 0, .bool false]) (by simp [results, Tryz.results67, go_sem]) rfl ⟨by rw [h2]; rfl, rfl⟩

set_option maxRecDepth 100000 in
set_option maxHeartbeats 4000000 in
theorem byKind_wide (name : Bs) (w : World) (hE : Env w) (hn : name.length ≤ 1073741824) (hsf : Lib.hasSuffix name [51, 50] = false) (en : Bs) (hen : Lib.trimSuffix name [51, 50] = en) :
    Calls Tryz.prog 67 #[.string ⟨name.toArray⟩] w fun e w' => e = .returned (.tuple #[.int .u8 ((kindE 7 5 en).getD 0), .bool (kindE 7 5 en).isSome]) ∧ w' = w := by
  have a0 := hE.alu 0 _ rfl
  have a1 := hE.alu 1 _ rfl
  have a2 := hE.alu 2 _ rfl
  have a3 := hE.alu 3 _ rfl
  have a4 := hE.alu 4 _ rfl
  have a5 := hE.alu 5 _ rfl
  have a6 := hE.alu 6 _ rfl
  have a7 := hE.alu 7 _ rfl
  have a8 := hE.alu 8 _ rfl
  have a9 := hE.alu 9 _ rfl
  have a10 := hE.alu 10 _ rfl
  have a11 := hE.alu 11 _ rfl
  have a12 := hE.alu 12 _ rfl
  have j0 := hE.jmp 0 _ rfl
  have j1 := hE.jmp 1 _ rfl
  have j2 := hE.jmp 2 _ rfl
  have j3 := hE.jmp 3 _ rfl
  have j4 := hE.jmp 4 _ rfl
  have j5 := hE.jmp 5 _ rfl
  have j6 := hE.jmp 6 _ rfl
  have j7 := hE.jmp 7 _ rfl
  have j8 := hE.jmp 8 _ rfl
  have j9 := hE.jmp 9 _ rfl
  have j10 := hE.jmp 10 _ rfl
  have j11 := hE.jmp 11 _ rfl
  have j12 := hE.jmp 12 _ rfl
  have j13 := hE.jmp 13 _ rfl
  unfold str at a0 a1 a2 a3 a4 a5 a6 a7 a8 a9 a10 a11 a12 j0 j1 j2 j3 j4 j5 j6 j7 j8 j9 j10 j11 j12 j13
  go_enter Tryz.func67, Tryz.ntmps67
  go_wp2_with (first | (go_at_call 85; refine (Tryz.strings_CutSuffix _ _ _ (by rw [mk_size]; omega)).mono ?_; rintro e w2 ⟨rfl, rfl⟩; refine Hid.out ?_) | fail)
  refine toHid ?_
  go_wp2_with fail
  go_loop [20] (fun t => ∃ k : Nat, k ≤ 13 ∧ t = .int .i64 k ∧ Hid (aluFrom en 0 aluN = aluFrom en k (aluN.drop k))) (fun t => 13 - (intOf t).toNat)
  case atStart => exact ⟨0, by omega, rfl, rfl⟩
  case round =>
    obtain ⟨k, hk, rfl, HJ⟩ := hrel
    by_cases hlt : k < 13
    · obtain ⟨s, hs⟩ : ∃ s, aluN[k]? = some s := ⟨_, List.getElem?_eq_getElem hlt⟩
      have HS2 := toHid ((show aluFrom en 0 aluN = _ from HJ).trans (aluFrom_step en k s hs))
      have hix2 := idx98 k s hs
      clear HJ hs
      by_cases hse : s = en
      · have hbe : (s == en) = true := by simpa using hse
        go_wp2
        have h1 : aluFrom en 0 aluN = some k := (show aluFrom en 0 aluN = _ from HS2).trans (if_pos hse)
        have h2 : kindE 7 5 en = some (16 * (k : Int) + 7) := by unfold kindE; rw [h1]
        refine bodyPost_ret (v := .tuple #[.int .u8 (16 * (k : Int) + 7), .bool true]) ?_ rfl ⟨by rw [h2]; rfl, rfl⟩
        clear hix2 HS2 h1 h2
        have hbits : bits .or .i64 ((k : Int) * 16) 7 % 256 = 16 * (k : Int) + 7 := alu_bits ⟨k, by omega⟩ 7
        simpa [results, Tryz.results67, go_sem] using hbits
      · have hbe : (s == en) = false := by simpa using hse
        go_wp2
        go_round
        case rel => exact ⟨k + 1, by omega, by go_num, (show aluFrom en 0 aluN = _ from HS2).trans (if_neg hse)⟩
        case measure => simp [intOf]; omega
    · obtain rfl : k = 13 := by omega
      have HA := toHid (show aluFrom en 0 aluN = none from HJ)
      clear HJ
      go_wp2_with fail
      go_loop [34] (fun t => ∃ k : Nat, k ≤ 14 ∧ t = .int .i64 k ∧ Hid (jmpFrom en 5 0 jmpN = jmpFrom en 5 k (jmpN.drop k))) (fun t => 14 - (intOf t).toNat)
      case atStart => exact ⟨0, by omega, rfl, rfl⟩
      case round =>
        obtain ⟨k, hk, rfl, HJ⟩ := hrel
        by_cases hlt : k < 14
        · obtain ⟨s, hs⟩ : ∃ s, jmpN[k]? = some s := ⟨_, List.getElem?_eq_getElem hlt⟩
          have HS2 := toHid ((show jmpFrom en 5 0 jmpN = _ from HJ).trans (jmpFrom_step en 5 k s hs))
          have hix2 := idx99 k s hs
          clear HJ hs
          have hbits : bits .or .i64 ((k : Int) * 16) 5 % 256 = 16 * (k : Int) + 5 := alu_bits ⟨k, by omega⟩ 5
          by_cases hse : s = en
          · have hbe : (s == en) = true := by simpa using hse
            go_wp2_with fail
            refine (known_any _ _ (by omega) (by omega)).mono ?_
            rintro e w3 ⟨rfl, rfl⟩
            generalize hkn : knownB (16 * (k : Int) + 5) = kn at *
            cases kn with
            | true =>
              go_wp2
              have h1 : jmpFrom en 5 0 jmpN = some k := (show jmpFrom en 5 0 jmpN = _ from HS2).trans (if_pos ⟨hse, by simp⟩)
              have h0 : aluFrom en 0 aluN = none := HA
              have h2 : kindE 7 5 en = some (16 * (k : Int) + 5) := by unfold kindE; rw [h0, h1]
              refine bodyPost_ret (v := .tuple #[.int .u8 (16 * (k : Int) + 5), .bool true]) ?_ rfl ⟨by rw [h2]; rfl, rfl⟩
              clear hix2 HS2 h1 h2
              simp [results, Tryz.results67, go_sem]
            | false =>
              go_wp2
              go_round
              case rel => exact ⟨k + 1, by omega, by go_num, (show jmpFrom en 5 0 jmpN = _ from HS2).trans (if_neg (fun h => by simp at h))⟩
              case measure => simp [intOf]; omega
          · have hbe : (s == en) = false := by simpa using hse
            go_wp2
            go_round
            case rel => exact ⟨k + 1, by omega, by go_num, (show jmpFrom en 5 0 jmpN = _ from HS2).trans (if_neg (fun h => hse h.1))⟩
            case measure => simp [intOf]; omega
        · obtain rfl : k = 14 := by omega
          go_wp2
          have h1 : jmpFrom en 5 0 jmpN = none := HJ
          have h0 : aluFrom en 0 aluN = none := HA
          have h2 : kindE 7 5 en = none := by unfold kindE; rw [h0, h1]
          exact bodyPost_ret (v := .tuple #[.int .u8 0, .bool false]) (by simp [results, Tryz.results67, go_sem]) rfl ⟨by rw [h2]; rfl, rfl⟩

theorem byKind_any (name : Bs) (w : World) (hE : Env w) (hn : name.length ≤ 1073741824) :
    Calls Tryz.prog 67 #[.string ⟨name.toArray⟩] w fun e w' => e = .returned (.tuple #[.int .u8 ((kindP name).getD 0), .bool (kindP name).isSome]) ∧ w' = w := by
  unfold kindP
  cases h : Lib.hasSuffix name [51, 50] with
  | true => exact byKind_narrow name w hE hn h _ rfl
  | false => exact byKind_wide name w hE hn h _ rfl
end Go.Proofs.YthlfnmjefpdjgaaGreatDoor
