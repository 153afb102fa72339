/-
  What same and first answer in the statements' own text.
-/
import Derived.Test.YthlfnmjefpdjgaaGreatDoorTexts
namespace Go.Proofs.YthlfnmjefpdjgaaGreatDoor
open Go.RowKit

/-- A list's slots in memory, wherever they lie. -/
def LC (w : World) (sa : Option Addr) (L : List In) : Prop := ∀ j i, L[j]? = some i → ∃ b off, sa = some ⟨b, off, none⟩ ∧ b < w.heap.size ∧ InC w b (off + j * 5) i
theorem LC.touch {w w' : World} {sa : Option Addr} {L : List In} (h : LC w sa L) (ht : Touch [] w w') : LC w' sa L := fun j i hi => by
  obtain ⟨b, off, h1, h2, h3⟩ := h j i hi
  exact ⟨b, off, h1, Nat.lt_of_lt_of_le h2 ht.size, h3.touch ht (by simp)⟩
theorem LC.touchS {S : List Nat} {w w' : World} {sa : Option Addr} {L : List In} (h : LC w sa L) (ht : Touch S w w') (hS : ∀ b off, sa = some ⟨b, off, none⟩ → b ∉ S) : LC w' sa L := fun j i hi => by
  obtain ⟨b, off, h1, h2, h3⟩ := h j i hi
  exact ⟨b, off, h1, Nat.lt_of_lt_of_le h2 ht.size, h3.touch ht (hS b off h1)⟩
theorem LC.nil (w : World) (sa : Option Addr) : LC w sa [] := fun j i h => by simp at h
theorem inC_row {w : World} {b : Nat} {L : List In} {rest : List Value} {t : TypeId} (h : Blk w b (L.flatMap In.cells ++ rest) t) (j : Nat) (i : In) (hi : L[j]? = some i) : InC w b (0 + j * 5) i := by
  have hg : ∀ r v, r < 5 → i.cells[r]? = some v → w.cell? ⟨b, 0 + j * 5 + r, none⟩ = some v := fun r v hr hv => h.cell (by
    have e := flat_get In.cells 5 In.cells_length L j r i hr hi
    rw [hv] at e
    rw [Nat.zero_add, List.getElem?_append_left (List.getElem?_eq_some_iff.1 e).1]
    exact e)
  exact ⟨hg 0 _ (by omega) rfl, hg 1 _ (by omega) rfl, hg 2 _ (by omega) rfl, hg 3 _ (by omega) rfl, hg 4 _ (by omega) rfl⟩
theorem LC.of_row {w : World} {g : Option Nat} {n cap : Nat} {L : List In} (h : RowAt w 41 5 g n cap (L.flatMap In.cells)) : LC w (g.map fun b => ⟨b, 0, none⟩) L := fun j i hi => by
  obtain ⟨h1, h2, h3, h4⟩ := h
  cases g with
  | none =>
    have hc : cap = 0 := h4
    have hl := flat_length In.cells 5 In.cells_length L
    have : L.length = 0 := by omega
    have := (List.getElem?_eq_some_iff.1 hi).1
    omega
  | some b =>
    obtain ⟨rest, hB, _⟩ := h4
    exact ⟨b, 0, rfl, hB.lt, inC_row hB j i hi⟩

set_option maxRecDepth 100000 in
set_option maxHeartbeats 4000000 in
theorem same_any (L : List In) (sa sb : Option Addr) (ca cb : Nat) (w : World) (hn : L.length ≤ 4294967296) (hA : LC w sa L) (hB : LC w sb L) :
    Calls Tryz.prog 10 #[.slice sa L.length ca, .slice sb L.length cb] w fun e w' => e = .returned (.bool true) ∧ Touch [] w w' := by
  have HA := toHid hA
  have HB := toHid hB
  clear hA hB
  have hne : ((L.length : Int) == (L.length : Int)) = true := by simp
  go_enter Tryz.func10, Tryz.ntmps10
  go_wp2_with fail
  go_loopw [13] (fun t w' => ∃ k : Nat, k ≤ L.length ∧ t = .int .i64 (k : Int) ∧ Hid (Touch [] w w')) (fun t _ => L.length - (intOf t).toNat)
  case atStart => exact ⟨0, by omega, rfl, Touch.refl _ _⟩
  case round =>
    obtain ⟨k, hk, rfl, HT⟩ := hrel
    by_cases hlt : k < L.length
    · have hLk : L[k]? = some L[k] := List.getElem?_eq_getElem hlt
      obtain ⟨b1, o1, rfl, _, h1⟩ := (show LC w sa L from HA) k _ hLk
      obtain ⟨b2, o2, rfl, _, h2⟩ := (show LC w sb L from HB) k _ hLk
      obtain ⟨c0, c1, c2, c3, c4⟩ := h1.touch HT (by simp)
      obtain ⟨d0, d1, d2, d3, d4⟩ := h2.touch HT (by simp)
      clear h1 h2 hLk
      generalize L[k] = i at *
      go_wp2_with fail
      go_quiet (fail)
      go_wp2
      go_roundw
      case rel => exact ⟨k + 1, by omega, by go_num, toHid ((show Touch [] w wr from HT).drewN _)⟩
      case measure => simp [intOf]; omega
    · obtain rfl : k = L.length := by omega
      go_wp2
      go_ret
      exact ⟨rfl, HT⟩

def firstT : Bs := [35, 120, 10, 10, 106, 110, 101, 51, 50, 32, 114, 49, 32, 114, 50, 32, 45, 51, 10, 108, 100, 100, 119, 32, 114, 51, 32, 52, 50, 57, 52, 57, 54, 55, 50, 57, 54]
def outT : Except Nat (List In) → Option (List (Int × Int × Int × Int × Int))
  | .error _ => none
  | .ok L => some (L.map tupI)
theorem first_eval : outT (parseP firstT) = some [(94, 1, 2, -3, 0), (24, 3, 0, 0, 0), (0, 0, 0, 0, 1)] := by decide +kernel
def firstL : List In := [⟨94, 1, 2, -3, 0⟩, ⟨24, 3, 0, 0, 0⟩, ⟨0, 0, 0, 0, 1⟩]
theorem first_parse : parseP firstT = .ok firstL := by
  have h := first_eval
  cases hp : parseP firstT with
  | error k => rw [hp] at h; cases h
  | ok L =>
    rw [hp] at h
    simp only [outT, Option.some.injEq] at h
    congr 1
    have inj : ∀ a b : List In, a.map tupI = b.map tupI → a = b := fun a b hab => by
      induction a generalizing b with
      | nil => cases b with
        | nil => rfl
        | cons y ys => simp at hab
      | cons x xs ih => cases b with
        | nil => simp at hab
        | cons y ys =>
          simp only [List.map_cons, List.cons.injEq] at hab
          rw [tupI_inj hab.1, ih ys hab.2]
    exact inj L firstL h

set_option maxRecDepth 100000 in
set_option maxHeartbeats 4000000 in
theorem first_any (w : World) (hE : Env w) :
    Calls Tryz.prog 7 #[] w fun e w' => e = .returned (.bool true) ∧ Touch [] w w' := by
  have HP := toHid (parse_any firstT w hE (by decide))
  rw [first_parse] at HP
  go_enter Tryz.func7, Tryz.ntmps7
  go_wp2_with fail
  refine Calls.mono HP ?_
  rintro e w1 ⟨ht1, g, cap, rfl, hR, _⟩
  have hL := LC.of_row hR
  obtain ⟨b0, o0, hg0, _, h0⟩ := hL 0 ⟨94, 1, 2, -3, 0⟩ rfl
  obtain ⟨b2, o2, hg2, _, h2⟩ := hL 2 ⟨0, 0, 0, 0, 1⟩ rfl
  obtain ⟨b, rfl⟩ : ∃ b, g = some b := by
    cases g with
    | none => simp at hg0
    | some b => exact ⟨b, rfl⟩
  simp only [Option.map_some, Option.some.injEq, Addr.mk.injEq, and_true] at hg0 hg2
  obtain ⟨rfl, rfl⟩ := hg0
  obtain ⟨rfl, rfl⟩ := hg2
  have HT := toHid ht1
  clear hL hR ht1
  simp only [slV, firstL, List.length_cons, List.length_nil, Option.map_some]
  obtain ⟨c0, c1, c2, c3, c4⟩ := h0
  obtain ⟨d0, d1, d2, d3, d4⟩ := h2
  simp only [Nat.zero_mul, Nat.zero_add, Nat.add_zero] at c0 c1 c2 c3 c4
  simp only [Nat.zero_add, Nat.reduceMul, Nat.reduceAdd] at d0 d1 d2 d3 d4
  go_wp2
  go_ret
  exact ⟨rfl, HT⟩
end Go.Proofs.YthlfnmjefpdjgaaGreatDoor
