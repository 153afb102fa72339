/-
  AsmAgain returns true for every text of at most 2^20 bytes.
-/
import Derived.Test.YthlfnmjefpdjgaaGreatDoorLaw
namespace Go.Proofs.YthlfnmjefpdjgaaGreatDoor
open Go.RowKit

theorem print_lc (L : List In) (sa : Option Addr) (c : Nat) (w : World) (hE : Env w) (hn : L.length ≤ 16777216) (hc : L.length ≤ c) (hL : LC w sa L) (hok : ∀ i ∈ L, i.Ok) :
    Calls Tryz.prog 8 #[.slice sa L.length c] w (PrintPost w (printP L)) := by
  cases L with
  | nil => exact print_empty sa c w
  | cons i r =>
    obtain ⟨b, off, rfl, hb, _⟩ := hL 0 i rfl
    refine print_walk b off c (i :: r) w hE hn hc hb (fun j x hx => ⟨hok x (List.mem_of_getElem? hx), ?_⟩)
    obtain ⟨b', off', he, _, h⟩ := hL j x hx
    cases he
    exact h
theorem flat_at (L : List In) (j : Nat) (v : Value) (h : (L.flatMap In.cells)[j]? = some v) : ∃ i, L[j / 5]? = some i ∧ i.cells[j % 5]? = some v := by
  have hl := (List.getElem?_eq_some_iff.1 h).1
  rw [flat_length In.cells 5 In.cells_length] at hl
  have hq : j / 5 < L.length := by omega
  refine ⟨L[j / 5], List.getElem?_eq_getElem hq, ?_⟩
  have e := flat_get In.cells 5 In.cells_length L (j / 5) (j % 5) _ (by omega) (List.getElem?_eq_getElem hq)
  rw [← e, ← h]
  congr 1
  omega
theorem inC_cell {w : World} {b o : Nat} {i : In} (h : InC w b o i) (r : Nat) (v : Value) (hr : i.cells[r]? = some v) : w.cell? ⟨b, o + r, none⟩ = some v := by
  have hl := (List.getElem?_eq_some_iff.1 hr).1
  rw [In.cells_length] at hl
  rcases (by omega : r = 0 ∨ r = 1 ∨ r = 2 ∨ r = 3 ∨ r = 4) with rfl | rfl | rfl | rfl | rfl
  · rw [← hr]; exact h.c0
  · rw [← hr]; exact h.c1
  · rw [← hr]; exact h.c2
  · rw [← hr]; exact h.c3
  · rw [← hr]; exact h.c4
theorem run_append_none' {P : Program} (w : World) (t ty e : TypeId) (i : TypeInfo) (ht : P.underlying t = some (.slice e)) (hi : P.info? e = some i) (g : Option Nat) (n cap c : Nat) (h : n ≤ cap) :
    (Builtin.append_ #[t, t] ty #[slV g n cap, .slice none 0 c]).run P w = .ok (slV g n cap) w := by
  cases g <;> simp [slV, Builtin.append_, run_underlying ht, sizeOf, typeInfo, hi, Builtin.lenOf, Builtin.firstCells, h, storeCells]
/-- append(list, slots...), the slots wherever they lie. -/
theorem append_lc (w : World) (ty : TypeId) (g : Option Nat) (cap c : Nat) (A L : List In) (sa : Option Addr) (hA : RowAt w 41 5 g A.length cap (A.flatMap In.cells)) (hL : LC w sa L) (hbig : A.length + L.length ≤ 4294967296) :
    ∃ g' cap' w', (Builtin.append_ #[22, 22] ty #[slV g A.length cap, .slice sa L.length c]).run Tryz.prog w = .ok (slV g' (A ++ L).length cap') w' ∧ RowAt w' 41 5 g' (A ++ L).length cap' ((A ++ L).flatMap In.cells) ∧ Touch g.toList w w' ∧
      (g' = g ∨ g' = some w.heap.size) := by
  obtain ⟨i, hi, hz, hs, hb⟩ := info_of info41
  have hfl := flat_length In.cells 5 In.cells_length
  have key : ∀ a : Addr, (∀ j v, (L.flatMap In.cells)[j]? = some v → w.cell? (a.add j) = some v) → ∃ g' cap' w', (Builtin.append_ #[22, 22] ty #[slV g A.length cap, .slice (some a) L.length c]).run Tryz.prog w = .ok (slV g' (A ++ L).length cap') w' ∧ RowAt w' 41 5 g' (A ++ L).length cap' ((A ++ L).flatMap In.cells) ∧ Touch g.toList w w' ∧
      (g' = g ∨ g' = some w.heap.size) := fun a ha => by
    obtain ⟨g', cap', w', h1, h2, h3, h4, _⟩ := run_append_row w 22 ty 41 i _ 5 Tryz.underlying22 hi hz hs rfl (by omega) g A.length cap (A.flatMap In.cells) hA a L.length c (L.flatMap In.cells) (hfl L) ha (cells_one L) (by rw [hb]; omega) (by omega)
    exact ⟨g', cap', w', by rw [List.length_append]; exact h1, by rw [List.length_append, List.flatMap_append]; exact h2, h3, h4⟩
  cases sa with
  | none =>
    cases L with
    | nil =>
      refine ⟨g, cap, w, ?_, by simpa using hA, Touch.refl _ _, Or.inl rfl⟩
      simpa using run_append_none' w 22 ty 41 i Tryz.underlying22 hi g A.length cap c hA.2.1
    | cons x r =>
      obtain ⟨_, _, h, _⟩ := hL 0 x rfl
      cases h
  | some a =>
    refine key a (fun j v hv => ?_)
    obtain ⟨x, hx, hv'⟩ := flat_at L j v hv
    obtain ⟨b, off, he, _, h⟩ := hL (j / 5) x hx
    cases he
    rw [Lib.add_plain]
    have := inC_cell h (j % 5) v hv'
    rw [show off + j = off + j / 5 * 5 + j % 5 by omega]
    exact this

/-- An append behind a guard that says yes, its run known. -/
theorem wpList_append_wanted {P : Program} (w : World) {ops : Array Oper} {rest : List Oper} {o : Oper} {a : Act} {Q : Exit → Act → World → Prop} (hgd : Region.wanted o (yielded ops a.tmps) = true) (s x : Operand) (t tn : TypeId)
    (ho : o.op = .call { callee := .builtin .append, args := #[s, x], argTypes := #[t, tn] }) (vs vx : Value) (hs : a.eval s = vs) (hx : a.eval x = vx)
    (v' : Value) (w' : World) (hr : (Builtin.append_ #[t, tn] o.type #[vs, vx]).run P w = .ok v' w') (h : wpList P ops Q rest (a.put o.dst v') w') : wpList P ops Q (o :: rest) a w :=
  wpList_step fun K hK => by
    rw [if_pos hgd]
    exact Lib.wp_append_run w s x t tn ho vs vx hs hx v' w' hr (hK _ _ h)

set_option maxRecDepth 100000 in
set_option maxHeartbeats 8000000 in
theorem again_walk (t : Bs) (w : World) (hE : Env w) (ht : t.length ≤ 1048576) :
    Calls Tryz.prog 5 #[.string ⟨t.toArray⟩] w fun e w' => e = .returned (.bool true) ∧ Touch [] w w' := by
  have HF := toHid (first_any w hE)
  go_enter Tryz.func5, Tryz.ntmps5
  go_wp2_with fail
  refine Calls.mono HF ?_
  rintro e w1 ⟨rfl, ht1⟩
  have hE1 := hE.touch0 ht1
  have HT1 := toHid ht1
  clear ht1
  go_wp2_with fail
  refine (parse_any t w1 hE1 (by omega)).mono ?_
  rintro e w2 ⟨ht2, hcase⟩
  have HT2 := toHid ((show Touch [] w w1 from HT1).trans ht2 (by simp))
  have HE2 := toHid (hE1.touch0 ht2)
  clear ht2 hE1
  cases hp : parseP t with
  | error k =>
    rw [hp] at hcase
    simp only at hcase
    subst hcase
    go_wp2
    go_ret
    exact ⟨rfl, HT2⟩
  | ok L =>
    rw [hp] at hcase
    obtain ⟨g, cap, rfl, hR, _⟩ := hcase
    obtain ⟨s, hs1, hs2, hs3, hs4, hs5⟩ := again_pure t L hp
    have HP5 := toHid hs5
    have hL := LC.of_row hR
    have hcap := hR.2.1
    have HPR := toHid (print_lc L _ cap w2 HE2 (by omega) hcap hL hs4)
    rw [hs1] at HPR
    have HL := toHid hL
    clear hs1 hs5 hp hR hcap
    simp only [slV]
    go_wp2_with fail
    refine Calls.mono HPR ?_
    rintro e w3 ⟨ht3, rfl⟩
    have HT3 := toHid ((show Touch [] w w2 from HT2).trans ht3 (by simp))
    have hE3 := (show Env w2 from HE2).touch0 ht3
    have HL3 := toHid ((show LC w2 _ L from HL).touch ht3)
    clear ht3 HL HPR hL
    obtain ⟨s1, hq1⟩ : ∃ s1, s1 = s ++ [32, 35, 32, 10] := ⟨_, rfl⟩
    obtain ⟨s2, hq2⟩ : ∃ s2, s2 = s1 ++ s := ⟨_, rfl⟩
    have hc1 : ((⟨s.toArray⟩ : ByteArray) ++ ⟨#[32, 35, 32, 10]⟩) = ⟨s1.toArray⟩ := by rw [hq1]; exact ba_append s [32, 35, 32, 10]
    have hc2 : ((⟨s1.toArray⟩ : ByteArray) ++ ⟨s.toArray⟩) = ⟨s2.toArray⟩ := by rw [hq2]; exact ba_append s1 s
    have hl1 : s1.length = s.length + 4 := by rw [hq1]; simp
    have hl2 : s2.length = s1.length + s.length := by rw [hq2]; simp
    have HPP := toHid (parse_any s2 w3 hE3 (by omega))
    rw [show parseP s2 = .ok (L ++ L) by rw [hq2, hq1]; exact HP5] at HPP
    have n1 : ¬ 9223372036854775807 < s.length + 4 := by omega
    have n2 : ¬ 9223372036854775807 < s1.length + s.length := by omega
    clear hq1 hq2
    go_wp2_with fail
    refine Calls.mono HPP ?_
    rintro e w4 ⟨ht4, g2, cap2, rfl, hR2, _⟩
    have HT4 := toHid ((show Touch [] w w3 from HT3).trans ht4 (by simp))
    have hL4 := (show LC w3 _ L from HL3).touch ht4
    have hM4 := LC.of_row hR2
    clear ht4 hR2 HPP hc1 hc2 n1 n2
    have htA : Touch [] w4 (w4.alloc (.cells #[] 41)) := (Touch.refl [] w4).alloc _
    obtain ⟨g5, cap5, W5, hr5, hR5, ht5, hg5⟩ := append_lc (w4.alloc (.cells #[] 41)) 22 (some w4.heap.size) 0 cap [] L _ ⟨rfl, Nat.le_refl _, by unfold maxLen; omega, [], Blk.newA w4 #[] [] 41 rfl, by simp⟩ (hL4.touch htA) (by simp; omega)
    have htB : Touch [] w4 W5 := htA.trans ht5 (by simp)
    have hg5' : ∀ b, g5 = some b → w4.heap.size ≤ b := by
      intro b hb
      rcases hg5 with h | h
      · rw [h] at hb; cases hb; exact Nat.le_refl _
      · rw [h] at hb; cases hb; exact htA.size
    obtain ⟨g6, cap6, W6, hr6, hR6, ht6, hg6⟩ := append_lc W5 22 g5 cap5 cap ([] ++ L) L _ hR5 (hL4.touch htB) (by simp; omega)
    have htC : Touch [] w4 W6 := htB.trans ht6 (by
      intro x hx
      cases hgg : g5 with
      | none => rw [hgg] at hx; simp at hx
      | some b =>
        rw [hgg] at hx
        simp only [Option.toList_some, List.mem_singleton] at hx
        subst hx
        exact Or.inr (hg5' x hgg))
    have HSM := toHid (same_any (L ++ L) _ _ cap2 cap6 W6 (by simp; omega) (hM4.touch htC) (by simpa using LC.of_row hR6))
    have HT6 := toHid ((show Touch [] w w4 from HT4).trans htC (by simp))
    have HR5 := toHid hr5
    have HR6 := toHid hr6
    simp only [slV, List.nil_append, List.length_append, List.length_nil, Option.map_some] at HR5 HR6 HSM ⊢
    clear hr5 hr6 hR5 hR6 ht5 ht6 htA htB htC hg5 hg5' hg6 hL4 hM4 HL3
    go_wp2_with (first | (at_builtin; refine wpList_append_wanted _ (by rfl) _ _ _ _ rfl _ _ rfl rfl _ _ HR5.out ?_) | (at_builtin; refine wpList_append_wanted _ (by rfl) _ _ _ _ rfl _ _ rfl rfl _ _ HR6.out ?_) | fail)
    refine Calls.mono HSM ?_
    rintro e w7 ⟨rfl, ht7⟩
    go_wp2
    go_ret
    exact ⟨rfl, (show Touch [] w W6 from HT6).trans ht7 (by simp)⟩
end Go.Proofs.YthlfnmjefpdjgaaGreatDoor
