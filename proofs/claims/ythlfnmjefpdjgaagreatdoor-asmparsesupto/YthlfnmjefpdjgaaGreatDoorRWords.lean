/-
  What the reference's Words answers.
-/
import Derived.Test.YthlfnmjefpdjgaaGreatDoorLine
namespace Go.Proofs.YthlfnmjefpdjgaaGreatDoor
open Go.RowKit

theorem info9 : (Tryz.prog.info? 9).map (fun i => (i.zero, i.size, i.bytes)) = some (some (.string ⟨#[]⟩), 1, 16) := by kernel_rfl
theorem extract_ba (s : Bs) (a b : Nat) : (⟨s.toArray⟩ : ByteArray).extract a b = ⟨((s.drop a).take (b - a)).toArray⟩ := by
  apply ByteArray.ext
  rw [ByteArray.data_extract]
  simp [List.extract_eq_take_drop]
theorem strs_one (ss : List Bs) : ∀ u ∈ ss.map str, u.oneCell' = true := by
  intro u hu
  obtain ⟨s, _, rfl⟩ := List.mem_map.1 hu
  rfl
/-- A row of words in memory. -/
def WordsAt (w : World) (v : Value) (ws : List Bs) (N : Nat) : Prop := ∃ g cap, v = slV g ws.length cap ∧ RowAt w 9 1 g ws.length cap (ws.map str) ∧ ∀ b, g = some b → N ≤ b
theorem WordsAt.touch {w w' : World} {v : Value} {ws : List Bs} {N : Nat} (h : WordsAt w v ws N) (ht : Touch [] w w') : WordsAt w' v ws N := by
  obtain ⟨g, cap, h1, h2, h3⟩ := h
  exact ⟨g, cap, h1, h2.touch ht (by simp), h3⟩
/-- append(out, x), x a word just laid down. -/
theorem append_word (w : World) (g : Option Nat) (cap : Nat) (A : List Bs) (x : Bs) (hA : RowAt w 9 1 g A.length cap (A.map str)) (hbig : A.length ≤ 4294967296) :
    ∃ g' cap' w', (Builtin.append_ #[37, 37] 37 #[slV g A.length cap, .slice (some ⟨w.heap.size, 0, none⟩) 1 1]).run Tryz.prog (w.alloc (.cells #[str x] 9)) = .ok (slV g' (A ++ [x]).length cap') w' ∧ RowAt w' 9 1 g' (A ++ [x]).length cap' ((A ++ [x]).map str) ∧ Touch g.toList w w' ∧
      (g' = g ∨ ∃ b, g' = some b ∧ w.heap.size ≤ b) := by
  obtain ⟨i, hi, hz, hs, hb⟩ := info_of info9
  have hA' := hA.touch ((Touch.refl [] w).alloc (.cells #[str x] 9)) (by simp)
  obtain ⟨g', cap', w', h1, h2, h3, h4, _⟩ := run_append_row (w.alloc (.cells #[str x] 9)) 37 37 9 i _ 1 Tryz.underlying37 hi hz hs rfl (by omega) g A.length cap (A.map str) hA' ⟨w.heap.size, 0, none⟩ 1 1 [str x] rfl
    (fun j v hv => by
      rw [Lib.add_plain, Nat.zero_add]
      exact (Blk.newA w #[str x] [str x] 9 rfl).cell hv) (by intro u hu; simp at hu; subst hu; rfl) (by rw [hb]; omega) (by omega)
  refine ⟨g', cap', w', by simpa using h1, by simpa using h2, ?_, ?_⟩
  · have h0 := (Touch.refl [] w).alloc (.cells #[str x] 9)
    exact (h0.mono (by simp)).trans h3 (fun y hy => Or.inl hy)
  · rcases h4 with h | h
    · exact Or.inl h
    · exact Or.inr ⟨_, h, by simp⟩

/-- Where the word that is being read began. -/
def curOf (s : Bs) (i : Nat) (fr : Option Nat) : Bs := match fr with
  | none => []
  | some a => (s.drop a).take (i - a)
def frI : Option Nat → Int
  | none => -1
  | some a => a
set_option maxRecDepth 100000 in
set_option maxHeartbeats 4000000 in
theorem rwords_any (s : Bs) (w : World) (hs : s.length ≤ 1073741824) :
    Calls Tryz.prog 22 #[.string ⟨s.toArray⟩] w fun e w' => ∃ v, e = .returned v ∧ WordsAt w' v (words s) w.heap.size ∧ Touch [] w w' := by
  go_enter Tryz.func22, Tryz.ntmps22
  go_wp2_with fail
  go_loopw [3, 4, 5] (fun ov fv iv w' => ∃ (A : List Bs) (fr : Option Nat) (i : Nat) (g : Option Nat) (cap : Nat), ov = slV g A.length cap ∧ fv = .int .i64 (frI fr) ∧ iv = .int .i64 (i : Int) ∧ i ≤ s.length + 1 ∧ A.length ≤ i ∧ (∀ a, fr = some a → a < i ∧ i ≤ s.length) ∧
      Hid (i ≤ s.length → words s = A ++ wordsF (curOf s i fr) (s.drop i)) ∧ Hid (i = s.length + 1 → words s = A) ∧ Hid (RowAt w' 9 1 g A.length cap (A.map str)) ∧ Hid (∀ b, g = some b → w.heap.size ≤ b) ∧ Hid (Touch [] w w')) (fun _ _ iv _ => s.length + 1 - (intOf iv).toNat)
  case atStart => exact ⟨[], none, 0, none, 0, rfl, rfl, rfl, by omega, by simp, by simp, toHid (fun _ => by simp [curOf, words]), toHid (fun h => by omega), toHid ⟨rfl, Nat.le_refl _, by unfold maxLen; omega, rfl⟩, toHid (fun b h => by cases h), Touch.refl _ _⟩
  case round =>
    obtain ⟨A, fr, i, g, cap, rfl, rfl, rfl, hi, hAi, hfr, HW, HW1, HR, HG, HT⟩ := hrel
    simp only [slV]
    by_cases h1 : i = s.length + 1
    · have HW2 := toHid ((show i = s.length + 1 → words s = A from HW1) h1)
      have k1 : (s.length : Int) < (i : Int) := by omega
      have k2 : ¬ (i : Int) ≤ (s.length : Int) := by omega
      clear HW HW1
      go_wp2
      go_ret
      refine ⟨_, rfl, ⟨g, cap, ?_, ?_, HG⟩, HT⟩
      · rw [show words s = A from HW2]; rfl
      · rw [show words s = A from HW2]; exact HR
    · by_cases hlt : i < s.length
      · obtain ⟨ch, hch⟩ : ∃ ch, s[i]? = some ch := ⟨_, List.getElem?_eq_getElem hlt⟩
        have hget : ∀ h, (⟨s.toArray⟩ : ByteArray)[i]'h = ch := fun h => by
          obtain ⟨h1, h2⟩ := List.getElem?_eq_some_iff.1 hch
          exact h2
        have hdr : s.drop i = ch :: s.drop (i + 1) := by
          obtain ⟨h1, h2⟩ := List.getElem?_eq_some_iff.1 hch
          rw [List.drop_eq_getElem_cons h1, h2]
        have HW2 := toHid (show words s = A ++ wordsF (curOf s i fr) (ch :: s.drop (i + 1)) from ((show i ≤ s.length → words s = _ from HW) (by omega)).trans (by rw [hdr]))
        have j1 : (i : Int) ≤ (s.length : Int) := by omega
        have j2 : (i : Int) < (s.length : Int) := by omega
        by_cases h32 : ch = 32
        · have b32 : ((ch.toNat : Int) == 32) = true := by rw [h32]; rfl
          have b32' : ((ch.toNat : Int) != 32) = false := by rw [h32]; rfl
          have HW3 := toHid (show words s = A ++ wordsF (curOf s i fr) (32 :: s.drop (i + 1)) from (show words s = _ from HW2).trans (by rw [h32]))
          clear HW HW1 HW2 hdr
          cases fr with
          | none =>
            simp only [frI]
            go_wp2
            go_roundw
            case rel => exact ⟨A, none, i + 1, g, cap, by simp, rfl, by go_num, by omega, by omega, by simp, toHid (fun hh => (show words s = _ from HW3).trans (by simp [curOf, wordsF])), toHid (fun hh => by omega), HR, HG, HT⟩
            case measure => simp [intOf]; try omega
          | some a =>
            obtain ⟨hai, _⟩ := hfr a rfl
            obtain ⟨x, hx⟩ : ∃ x, x = (s.drop a).take (i - a) := ⟨_, rfl⟩
            have hex : (⟨s.toArray⟩ : ByteArray).extract a i = ⟨x.toArray⟩ := by rw [extract_ba, hx]
            have hxl : x.length = i - a := by rw [hx]; simp; try omega
            have hxne : x ≠ [] := fun e => by rw [e] at hxl; simp at hxl; omega
            have HX := toHid hx
            obtain ⟨g', cap', w', hr, hR', ht', hg'⟩ := append_word wr g cap A x HR (by omega)
            have HRUN := toHid hr
            have HG' : Hid (∀ b, g' = some b → w.heap.size ≤ b) := toHid (by
              intro b hb
              rcases hg' with h | ⟨b', h, hb'⟩
              · exact (show ∀ b, g = some b → w.heap.size ≤ b from HG) b (h ▸ hb)
              · rw [h] at hb
                cases hb
                exact Nat.le_trans (show Touch [] w wr from HT).size hb')
            have HT' := toHid ((show Touch [] w wr from HT).trans ht' (by
              intro y hy
              cases hgg : g with
              | none => rw [hgg] at hy; simp at hy
              | some b =>
                rw [hgg] at hy
                simp only [Option.toList_some, List.mem_singleton] at hy
                subst hy
                exact Or.inr ((show ∀ b, g = some b → w.heap.size ≤ b from HG) y hgg)))
            have HR' := toHid hR'
            have HXN := toHid hxne
            have k1 : (a : Int) ≤ (i : Int) := by omega
            have k2 : (i : Int) ≤ (s.length : Int) := by omega
            clear hr hR' ht' hg' hxne hx
            simp only [frI, slV, str] at HRUN ⊢
            go_wp2_with (first | (at_builtin; refine Lib.wpList_append_run _ rfl _ _ _ _ rfl _ _ rfl rfl _ _ HRUN.out ?_) | fail)
            go_roundw
            case rel => exact ⟨A ++ [x], none, i + 1, g', cap', by simp, rfl, by go_num, by omega, by simp; omega, by simp, toHid (fun hh => (show words s = _ from HW3).trans (by rw [show curOf s i (some a) = x from (show x = _ from HX).symm, wordsF, if_pos rfl, if_neg (show x ≠ [] from HXN)]; simp [curOf])), toHid (fun hh => by omega), HR', HG', HT'⟩
            case measure => simp [intOf]; try omega
        · have b32 : ((ch.toNat : Int) == 32) = false := by
            have : ch.toNat ≠ 32 := fun e => h32 (UInt8.toNat_inj.1 e)
            simp; try omega
          have b32' : ((ch.toNat : Int) != 32) = true := by rw [bne, b32]; rfl
          have HW3 := toHid (show words s = A ++ wordsF (curOf s i fr ++ [ch]) (s.drop (i + 1)) from (show words s = _ from HW2).trans (by rw [wordsF, if_neg h32]))
          clear HW HW1 HW2 hdr
          cases fr with
          | none =>
            simp only [frI]
            go_wp2
            go_roundw
            case rel => exact ⟨A, some i, i + 1, g, cap, by simp, rfl, by go_num, by omega, by omega, fun a ha => by cases ha; omega, toHid (fun hh => (show words s = _ from HW3).trans (by
              congr 2
              simp only [curOf]
              rw [show i + 1 - i = 1 by omega, List.take_one, List.head?_drop, hch]; rfl)), toHid (fun hh => by omega), HR, HG, HT⟩
            case measure => simp [intOf]; try omega
          | some a =>
            obtain ⟨hai, _⟩ := hfr a rfl
            simp only [frI]
            go_wp2
            go_roundw
            case rel => exact ⟨A, some a, i + 1, g, cap, by simp, rfl, by go_num, by omega, by omega, fun a' ha => by cases ha; omega, toHid (fun hh => (show words s = _ from HW3).trans (by
              congr 2
              simp only [curOf]
              rw [show i + 1 - a = (i - a) + 1 by omega, List.take_add_one, List.getElem?_drop, show a + (i - a) = i by omega, hch]; rfl)), toHid (fun hh => by omega), HR, HG, HT⟩
            case measure => simp [intOf]; try omega
      · obtain rfl : i = s.length := by omega
        have HW3 := toHid (show words s = A ++ wordsF (curOf s s.length fr) [] from ((show s.length ≤ s.length → words s = _ from HW) (Nat.le_refl _)).trans (by rw [List.drop_length]))
        clear HW HW1
        cases fr with
        | none =>
          simp only [frI]
          go_wp2
          go_roundw
          case rel => exact ⟨A, none, s.length + 1, g, cap, by simp, rfl, by go_num, by omega, by omega, by simp, toHid (fun hh => by omega), toHid (fun hh => (show words s = _ from HW3).trans (by simp [curOf, wordsF])), HR, HG, HT⟩
          case measure => simp [intOf]; try omega
        | some a =>
          obtain ⟨hai, _⟩ := hfr a rfl
          obtain ⟨x, hx⟩ : ∃ x, x = (s.drop a).take (s.length - a) := ⟨_, rfl⟩
          have hex : (⟨s.toArray⟩ : ByteArray).extract a s.length = ⟨x.toArray⟩ := by rw [extract_ba, hx]
          have hxl : x.length = s.length - a := by rw [hx]; simp; try omega
          have hxne : x ≠ [] := fun e => by rw [e] at hxl; simp at hxl; omega
          have HX := toHid hx
          obtain ⟨g', cap', w', hr, hR', ht', hg'⟩ := append_word wr g cap A x HR (by omega)
          have HRUN := toHid hr
          have HG' : Hid (∀ b, g' = some b → w.heap.size ≤ b) := toHid (by
            intro b hb
            rcases hg' with h | ⟨b', h, hb'⟩
            · exact (show ∀ b, g = some b → w.heap.size ≤ b from HG) b (h ▸ hb)
            · rw [h] at hb
              cases hb
              exact Nat.le_trans (show Touch [] w wr from HT).size hb')
          have HT' := toHid ((show Touch [] w wr from HT).trans ht' (by
            intro y hy
            cases hgg : g with
            | none => rw [hgg] at hy; simp at hy
            | some b =>
              rw [hgg] at hy
              simp only [Option.toList_some, List.mem_singleton] at hy
              subst hy
              exact Or.inr ((show ∀ b, g = some b → w.heap.size ≤ b from HG) y hgg)))
          have HR' := toHid hR'
          have HXN := toHid hxne
          have k1 : (a : Int) ≤ (s.length : Int) := by omega
          have k2 : (s.length : Int) ≤ (s.length : Int) := by omega
          clear hr hR' ht' hg' hxne hx
          simp only [frI, slV, str] at HRUN ⊢
          go_wp2_with (first | (at_builtin; refine Lib.wpList_append_run _ rfl _ _ _ _ rfl _ _ rfl rfl _ _ HRUN.out ?_) | fail)
          go_roundw
          case rel => exact ⟨A ++ [x], none, s.length + 1, g', cap', by simp, rfl, by go_num, by omega, by simp; omega, by simp, toHid (fun hh => by omega), toHid (fun hh => (show words s = _ from HW3).trans (by rw [show curOf s s.length (some a) = x from (show x = _ from HX).symm, wordsF, if_neg (show x ≠ [] from HXN)])), HR', HG', HT'⟩
          case measure => simp [intOf]; try omega
end Go.Proofs.YthlfnmjefpdjgaaGreatDoor
