/-
  What Parse answers.
-/
import Derived.Test.YthlfnmjefpdjgaaGreatDoorSlotsOf
namespace Go.Proofs.YthlfnmjefpdjgaaGreatDoor
open Go.RowKit

/-- The slots of lines, or the number of the first that is none. -/
def parseL : Nat → List Bs → Except Nat (List In)
  | _, [] => .ok []
  | n, l :: ls => match slotsW (words l) with
    | none => .error n
    | some s => match parseL (n + 1) ls with
      | .error k => .error k
      | .ok r => .ok (s ++ r)
def parseP (t : Bs) : Except Nat (List In) := parseL 1 (lines t)
/-- What is behind a beginning that is read already. -/
def withL (A : List In) : Except Nat (List In) → Except Nat (List In)
  | .error k => .error k
  | .ok r => .ok (A ++ r)
theorem withL_nil (r : Except Nat (List In)) : withL [] r = r := by cases r <;> rfl
theorem withL_withL (A B : List In) (r : Except Nat (List In)) : withL A (withL B r) = withL (A ++ B) r := by cases r <;> simp [withL]
theorem parseL_cons (n : Nat) (l : Bs) (ls : List Bs) : parseL n (l :: ls) = match slotsW (words l) with
    | none => .error n
    | some s => withL s (parseL (n + 1) ls) := by
  rw [parseL]
  cases slotsW (words l) with
  | none => rfl
  | some s => cases parseL (n + 1) ls <;> rfl
theorem runL_length : ∀ (fs : List Nat) (s : St), s.L.length ≤ 2 → (runL fs s).L.length ≤ 2
  | [], s, h => h
  | f :: fs, s, h => by
    have := runL_length fs (stepL s f) (by unfold stepL splitOf; split <;> simp)
    simpa [runL] using this
theorem slotsW_length {ws : List Bs} {L : List In} (h : slotsW ws = some L) : L.length ≤ 2 := by
  unfold slotsW at h
  split at h
  · cases h; simp
  split at h
  · cases h; simp
  split at h
  · cases h
  split at h
  · cases h
  · cases h
    exact runL_length _ _ (by simp)
theorem past_lt (c : UInt8) : ∀ t : Bs, c ∈ t → (past c t).length < t.length
  | [], h => by simp at h
  | b :: t, h => by
    by_cases hb : b = c
    · simp [past, hb]
    · have hb' : ¬ c = b := fun e => hb e.symm
      have := past_lt c t (by simpa [hb'] using h)
      simp only [past, hb, if_false, List.length_cons]
      omega
def strLen : Value → Nat
  | .string s => s.size
  | _ => 0
theorem strLen_mk (t : Bs) : strLen (.string ⟨t.toArray⟩) = t.length := mk_size t
theorem run_append_none {P : Program} (w : World) (t ty e : TypeId) (i : TypeInfo) (ht : P.underlying t = some (.slice e)) (hi : P.info? e = some i) (g : Option Nat) (n cap : Nat) (h : n ≤ cap) :
    (Builtin.append_ #[t, t] ty #[slV g n cap, .slice none 0 0]).run P w = .ok (slV g n cap) w := by
  cases g <;> simp [slV, Builtin.append_, run_underlying ht, sizeOf, typeInfo, hi, Builtin.lenOf, Builtin.firstCells, h, storeCells]
def ParsePost (w : World) (r : Except Nat (List In)) (e : Ending) (w' : World) : Prop := Touch [] w w' ∧ match r with
  | .error n => e = .returned (.tuple #[.slice none 0 0, .int .i64 (n : Int), .int .i64 30])
  | .ok L => ∃ g cap, e = .returned (.tuple #[slV g L.length cap, .int .i64 0, .int .i64 0]) ∧ RowAt w' 41 5 g L.length cap (L.flatMap In.cells) ∧ ∀ b, g = some b → w.heap.size ≤ b

theorem cells_one (L : List In) : ∀ u ∈ L.flatMap In.cells, u.oneCell' = true := by
  intro u hu
  obtain ⟨i, _, hi⟩ := List.mem_flatMap.1 hu
  simp only [In.cells, List.mem_cons, List.not_mem_nil, or_false] at hi
  rcases hi with rfl | rfl | rfl | rfl | rfl <;> rfl
/-- append(list, slots...), the slots in memory or none. -/
theorem append_ins (w : World) (ty : TypeId) (g : Option Nat) (n cap : Nat) (A L : List In) (a : Option Addr) (hA : RowAt w 41 5 g A.length cap (A.flatMap In.cells)) (hn : n = A.length) (hL : InsAt w a L) (hbig : A.length + L.length ≤ 4294967296) :
    ∃ g' cap' w', (Builtin.append_ #[22, 22] ty #[slV g n cap, .slice a L.length L.length]).run Tryz.prog w = .ok (slV g' (A ++ L).length cap') w' ∧ RowAt w' 41 5 g' (A ++ L).length cap' ((A ++ L).flatMap In.cells) ∧ Touch g.toList w w' ∧
      (g' = g ∨ g' = some w.heap.size) := by
  obtain ⟨i, hi, hz, hs, hb⟩ := info_of info41
  subst hn
  rcases hL with ⟨rfl, rfl⟩ | ⟨b, rfl, _, hB⟩
  · refine ⟨g, cap, w, ?_, by simpa using hA, Touch.refl _ _, Or.inl rfl⟩
    simpa using run_append_none w 22 ty 41 i Tryz.underlying22 hi g A.length cap hA.2.1
  · have hfl := flat_length In.cells 5 In.cells_length
    obtain ⟨g', cap', w', h1, h2, h3, h4, _⟩ := run_append_row w 22 ty 41 i _ 5 Tryz.underlying22 hi hz hs rfl (by omega) g A.length cap (A.flatMap In.cells) hA ⟨b, 0, none⟩ L.length L.length (L.flatMap In.cells) (hfl L)
      (fun j v hv => by rw [Lib.add_plain, Nat.zero_add]; exact hB.cell hv) (cells_one L) (by rw [hb]; omega) (by omega)
    exact ⟨g', cap', w', by rw [List.length_append]; exact h1, by rw [List.length_append, List.flatMap_append]; exact h2, h3, h4⟩

set_option maxRecDepth 100000 in
set_option maxHeartbeats 8000000 in
theorem parse_any (t : Bs) (w : World) (hE : Env w) (ht : t.length ≤ 1073741824) :
    Calls Tryz.prog 11 #[.string ⟨t.toArray⟩] w (ParsePost w (parseP t)) := by
  go_enter Tryz.func11, Tryz.ntmps11
  go_wp2_with fail
  go_loopw [0, 5, 6] (fun tv lv nv w' => ∃ (t' : Bs) (n : Nat) (A : List In) (g : Option Nat) (cap : Nat), tv = .string ⟨t'.toArray⟩ ∧ lv = slV g A.length cap ∧ nv = .int .i64 (n : Int) ∧ Hid (parseP t = withL A (parseL n (lines t'))) ∧ Hid (RowAt w' 41 5 g A.length cap (A.flatMap In.cells)) ∧
      Hid (∀ b, g = some b → w.heap.size ≤ b) ∧ Hid (Touch [] w w') ∧ Hid (Env w') ∧ t'.length + n ≤ t.length + 1 ∧ 1 ≤ n ∧ A.length ≤ 2 * n) (fun tv _ _ _ => strLen tv)
  case atStart => exact ⟨t, 1, [], none, 0, rfl, rfl, rfl, (withL_nil _).symm, toHid ⟨rfl, Nat.le_refl _, by unfold maxLen; omega, rfl⟩, toHid (fun b h => by cases h), Touch.refl _ _, hE, by omega, by omega, by simp⟩
  case round =>
    obtain ⟨t', n, A, g, cap, rfl, rfl, rfl, HP, HR, HG, HT, HE, hn, hn1, hA⟩ := hrel
    go_wp2_with fail
    refine (cut_call 10 t' wr HE (by omega)).mono ?_
    rintro e w1 ⟨rfl, m, rfl⟩
    have htd : Touch [] wr (wr.drewN m) := (Touch.refl [] wr).drewN m
    have hul := upTo_length 10 t'
    have hpl := past_lt 10 t'
    have HP2 := toHid ((show parseP t = _ from HP).trans (by rw [lines_cut t', parseL_cons]))
    have HE1 := toHid ((show Env wr from HE).touch0 htd)
    have HT1 := toHid ((show Touch [] w wr from HT).trans htd (by simp))
    have HR1 := toHid ((show RowAt wr 41 5 g A.length cap (A.flatMap In.cells) from HR).touch htd (by simp))
    clear HP HE HT HR htd
    generalize wr.drewN m = wa at *
    go_wp2_with fail
    refine (slotsOf_any (upTo 10 t') wa HE1 (by omega)).mono ?_
    rintro e w2 ⟨ht2, hcase⟩
    have HE2 := toHid ((show Env wa from HE1).touch0 ht2)
    have HT2 := toHid ((show Touch [] w wa from HT1).trans ht2 (by simp))
    have HR2 := toHid ((show RowAt wa 41 5 g A.length cap (A.flatMap In.cells) from HR1).touch ht2 (by simp))
    clear ht2 HE1 HT1 HR1
    rcases hcase with ⟨hr, rfl⟩ | ⟨L, a, hr, rfl, hI⟩
    · have HP3 := toHid (show parseP t = .error n from (show parseP t = _ from HP2).trans (by
        rw [show (cutC 10 t').1 = upTo 10 t' from rfl, hr]; rfl))
      clear hr HP2
      go_wp2
      refine bodyPost_ret (v := .tuple #[.slice none 0 0, .int .i64 (n : Int), .int .i64 30]) (by simp [results, Tryz.results11, go_sem]) rfl ⟨HT2, ?_⟩
      rw [show parseP t = _ from HP3]
    · have hL2 := slotsW_length hr
      have HP3 := toHid (show parseP t = withL (A ++ L) (parseL (n + 1) (if (10 : UInt8) ∈ t' then lines (past 10 t') else [])) from (show parseP t = _ from HP2).trans (by
        rw [show (cutC 10 t').1 = upTo 10 t' from rfl, hr]; simp only; rw [withL_withL]; rfl))
      clear hr HP2
      obtain ⟨g', cap', w3, hrun, hR3, ht3, hg'⟩ := append_ins w2 22 g A.length cap A L a HR2 rfl hI (by omega)
      have HRUN := toHid hrun
      have HG3 : Hid (∀ b, g' = some b → w.heap.size ≤ b) := toHid (by
        intro b hb
        rcases hg' with h | h
        · exact (show ∀ b, g = some b → w.heap.size ≤ b from HG) b (h ▸ hb)
        · rw [h] at hb
          cases hb
          exact (show Touch [] w w2 from HT2).size)
      have HT3 := toHid ((show Touch [] w w2 from HT2).trans ht3 (by
        intro x hx
        cases hgg : g with
        | none => rw [hgg] at hx; simp at hx
        | some b =>
          rw [hgg] at hx
          simp only [Option.toList_some, List.mem_singleton] at hx
          subst hx
          exact Or.inr ((show ∀ b, g = some b → w.heap.size ≤ b from HG) x hgg)))
      have HE3 := toHid ((show Env w from hE).touch0 HT3)
      have HR3 := toHid hR3
      have hAL : (A ++ L).length ≤ 2 * (n + 1) := by rw [List.length_append]; omega
      clear hrun hg' ht3 hR3 HT2 HE2 HR2 HG hI
      simp only [slV] at HRUN ⊢
      by_cases hm : (10 : UInt8) ∈ t'
      · have hml := hpl hm
        have hdm : decide ((10 : UInt8) ∈ t') = true := by simpa using hm
        have HP4 := toHid (show parseP t = withL (A ++ L) (parseL (n + 1) (lines (past 10 t'))) from (show parseP t = _ from HP3).trans (by rw [if_pos hm]))
        clear HP3
        go_wp2_with (at_builtin; refine Lib.wpList_append_run _ rfl _ _ _ _ rfl _ _ rfl rfl _ _ HRUN.out ?_)
        go_roundw
        case rel => exact ⟨past 10 t', n + 1, A ++ L, g', cap', rfl, by simp [slV], by go_num, HP4, HR3, HG3, HT3, HE3, by omega, by omega, hAL⟩
        case measure => rw [strLen_mk, strLen_mk]; exact hml
      · have hdm : decide ((10 : UInt8) ∈ t') = false := by simpa using hm
        have HP4 := toHid (show parseP t = .ok (A ++ L) from (show parseP t = _ from HP3).trans (by rw [if_neg hm]; simp [parseL, withL]))
        clear HP3
        go_wp2_with (at_builtin; refine Lib.wpList_append_run _ rfl _ _ _ _ rfl _ _ rfl rfl _ _ HRUN.out ?_)
        refine bodyPost_ret (v := .tuple #[slV g' (A ++ L).length cap', .int .i64 0, .int .i64 0]) (by simp [results, Tryz.results11, go_sem, slV]) rfl ⟨HT3, ?_⟩
        rw [show parseP t = _ from HP4]
        exact ⟨g', cap', rfl, HR3, HG3⟩
end Go.Proofs.YthlfnmjefpdjgaaGreatDoor
