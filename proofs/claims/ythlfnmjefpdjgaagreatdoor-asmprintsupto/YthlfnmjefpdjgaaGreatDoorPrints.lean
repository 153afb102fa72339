/-
  AsmPrints returns true for every list of at most 2^20 slots.
-/
import Derived.Test.YthlfnmjefpdjgaaGreatDoorAgain
import Derived.Test.YthlfnmjefpdjgaaGreatDoorRPrint
namespace Go.Proofs.YthlfnmjefpdjgaaGreatDoor
open Go.RowKit

theorem rprint_lc (L : List In) (sa : Option Addr) (c : Nat) (w : World) (hn : L.length ≤ 16777216) (hL : LC w sa L) (hok : ∀ i ∈ L, i.Ok) :
    Calls Tryz.prog 9 #[.slice sa L.length c] w (RPrintPost w (printP L)) := by
  cases L with
  | nil =>
    go_enter Tryz.func9, Tryz.ntmps9
    go_wp2_with fail
    go_loopw [4, 5] (fun sv kv w' => sv = .string ⟨#[]⟩ ∧ kv = .int .i64 0 ∧ w' = w) (fun _ _ _ => 0)
    case atStart => exact ⟨rfl, rfl, rfl⟩
    case round =>
      obtain ⟨rfl, rfl, rfl⟩ := hrel
      go_wp2
      exact bodyPost_ret (v := .tuple #[.string ⟨#[]⟩, .bool true]) (by simp [results, Tryz.results9, go_sem]) rfl ⟨Touch.refl _ _, rfl⟩
  | cons i r =>
    obtain ⟨b, off, rfl, hb, _⟩ := hL 0 i rfl
    refine rprint_walk b off c (i :: r) w hn hb (fun j x hx => ⟨hok x (List.mem_of_getElem? hx), ?_⟩)
    obtain ⟨b', off', he, _, h⟩ := hL j x hx
    cases he
    exact h
/-- What is written is read again. -/
theorem print_back (L : List In) (s : Bs) (hok : ∀ i ∈ L, i.Ok) (h : printP L = some s) : parseP s = .ok L ∧ s.length ≤ 101 * L.length := by
  obtain ⟨gs, h1, rfl, rfl⟩ := print_groups L.length L s (Nat.le_refl _) hok h
  have ht := text_len gs h1
  have hf := flat_len gs h1
  have e0 : ∀ m, parseL m (lines []) = .ok [] := fun m => rfl
  refine ⟨?_, by omega⟩
  have := parse_flat gs [] 1 h1
  rw [List.append_nil, e0] at this
  unfold parseP
  rw [this]
  simp [withL]

set_option maxRecDepth 100000 in
set_option maxHeartbeats 4000000 in
theorem prints_walk (L : List In) (sa : Option Addr) (c : Nat) (w : World) (hE : Env w) (hn : L.length ≤ 1048576) (hc : L.length ≤ c) (hL : LC w sa L) (hok : ∀ i ∈ L, i.Ok) :
    Calls Tryz.prog 3 #[.slice sa L.length c] w fun e w' => e = .returned (.bool true) ∧ Touch [] w w' := by
  have HF := toHid (first_any w hE)
  go_enter Tryz.func3, Tryz.ntmps3
  go_wp2_with fail
  refine Calls.mono HF ?_
  rintro e w1 ⟨rfl, ht1⟩
  have hE1 := hE.touch0 ht1
  have hL1 := hL.touch ht1
  have HT1 := toHid ht1
  clear ht1 HF
  have htA : Touch [] w1 (w1.alloc (.cells #[] 41)) := (Touch.refl [] w1).alloc _
  obtain ⟨g5, cap5, W5, hr5, hR5, ht5, hg5⟩ := append_lc (w1.alloc (.cells #[] 41)) 22 (some w1.heap.size) 0 c [] L _ ⟨rfl, Nat.le_refl _, by unfold maxLen; omega, [], Blk.newA w1 #[] [] 41 rfl, by simp⟩ (hL1.touch htA) (by simp; omega)
  have htB : Touch [] w1 W5 := htA.trans ht5 (by simp)
  have hE5 := hE1.touch0 htB
  have hL5 := hL1.touch htB
  have hW5 := LC.of_row hR5
  have hcap5 := hR5.2.1
  have HT5 := toHid ((show Touch [] w w1 from HT1).trans htB (by simp))
  have HR5 := toHid hr5
  simp only [slV, List.nil_append, List.length_nil, Option.map_some] at HR5 hW5 hcap5 ⊢
  clear hr5 hR5 ht5 htA htB hg5 hL1 hE1 HT1
  have HPR := toHid (print_lc L sa c W5 hE5 (by omega) hc hL5 hok)
  go_wp2_with (first | (at_builtin; refine wpList_append_wanted _ (by rfl) _ _ _ _ rfl _ _ rfl rfl _ _ HR5.out ?_) | fail)
  refine Calls.mono HPR ?_
  rintro e w6 ⟨ht6, hcase⟩
  have HT6 := toHid ((show Touch [] w W5 from HT5).trans ht6 (by simp))
  have hL6 := hL5.touch ht6
  have hW6 := hW5.touch ht6
  have hE6 := hE5.touch0 ht6
  have HRP := toHid (rprint_lc L _ cap5 w6 (by omega) hW6 hok)
  clear ht6 HPR hE5 hL5 hW5 HR5 hL HT5
  cases hp : printP L with
  | none =>
    rw [hp] at hcase HRP
    simp only at hcase
    subst hcase
    go_wp2_with fail
    refine Calls.mono HRP ?_
    rintro e w7 ⟨ht7, he7⟩
    simp only at he7
    subst he7
    have HT7 := toHid ((show Touch [] w w6 from HT6).trans ht7 (by simp))
    have HSM := toHid (same_any L _ _ cap5 c w7 (by omega) (hW6.touch ht7) (hL6.touch ht7))
    clear ht7 hp HRP
    go_wp2_with fail
    refine Calls.mono HSM ?_
    rintro e w8 ⟨rfl, ht8⟩
    have HT8 := toHid ((show Touch [] w w7 from HT7).trans ht8 (by simp))
    clear ht8
    go_wp2
    go_ret
    exact ⟨rfl, HT8⟩
  | some s =>
    obtain ⟨hpb, hsl⟩ := print_back L s hok hp
    rw [hp] at hcase HRP
    simp only at hcase
    subst hcase
    go_wp2_with fail
    refine Calls.mono HRP ?_
    rintro e w7 ⟨ht7, he7⟩
    simp only at he7
    subst he7
    have HT7 := toHid ((show Touch [] w w6 from HT6).trans ht7 (by simp))
    have hW7 := hW6.touch ht7
    have hE7 := hE6.touch0 ht7
    have HSM := toHid (same_any L _ _ cap5 c w7 (by omega) hW7 (hL6.touch ht7))
    clear ht7 hp HRP
    go_wp2_with fail
    refine Calls.mono HSM ?_
    rintro e w8 ⟨rfl, ht8⟩
    have HT8 := toHid ((show Touch [] w w7 from HT7).trans ht8 (by simp))
    have hW8 := hW7.touch ht8
    have HPA := toHid (parse_any s w8 (hE7.touch0 ht8) (by omega))
    rw [hpb] at HPA
    clear ht8 HSM
    go_wp2_with fail
    refine Calls.mono HPA ?_
    rintro e w9 ⟨ht9, g9, cap9, rfl, hR9, _⟩
    have HT9 := toHid ((show Touch [] w w8 from HT8).trans ht9 (by simp))
    have HSM2 := toHid (same_any L _ _ cap9 cap5 w9 (by omega) (LC.of_row hR9) (hW8.touch ht9))
    clear ht9 hR9 HPA
    simp only [slV]
    go_wp2_with fail
    refine Calls.mono HSM2 ?_
    rintro e w10 ⟨rfl, ht10⟩
    have HT10 := toHid ((show Touch [] w w9 from HT9).trans ht10 (by simp))
    clear ht10
    go_wp2
    go_ret
    exact ⟨rfl, HT10⟩
end Go.Proofs.YthlfnmjefpdjgaaGreatDoor
