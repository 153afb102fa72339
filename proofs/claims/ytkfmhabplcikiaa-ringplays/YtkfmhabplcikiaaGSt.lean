/-
  Package ring: where a ring lies, and the calls that only read it.
-/
import Derived.Test.YtkfmhabplcikiaaGRow
import Derived.Test.YtkfmhabplcikiaaMFirst
import Derived.Test.YtkfmhabplcikiaaMKill
namespace Go.Proofs.Ytkfmhabplcikiaa.Ring
open Go.RowKit
attribute [local go_sem ↓] Go.wp_at_zero Go.wp_at_succ

def idI (o : Option Nat) : Int := ((o.getD 0 : Nat) : Int)
def recC (o : Option Nat) : List Value := [.bool o.isSome, .int .i64 (idI o)]
theorem recC_len (o : Option Nat) : (recC o).length = 2 := rfl
/-- A ring: its block, its memory's, by number the id of the record's region; what was submitted. -/
structure RG where
  r : Nat
  m : Nat
  recs : List (Option Nat)
  g : Option Nat
  cap : Nat
  l : List KR
def RG.cells (x : RG) : List Value := .pointer (some ⟨x.m, 0, none⟩) :: (x.recs.flatMap recC ++ [slV x.g x.l.length x.cap])
def RG.blocks (x : RG) : List Nat := x.r :: rowsBl x.g x.l
structure RingAt (w : World) (x : RG) : Prop where
  self : Blk w x.r x.cells 82
  eight : x.recs.length = 8
  rows : Rows w x.g x.cap x.l
  own : x.r ∉ rowsBl x.g x.l
theorem RingAt.touch {S : List Nat} {w w' : World} {x : RG} (h : RingAt w x) (ht : Touch S w w') (hS : ∀ b ∈ x.blocks, b ∉ S) : RingAt w' x :=
  ⟨ht.blk h.self (hS _ (by simp [RG.blocks])), h.eight, h.rows.touch ht (fun b hb => hS b (by simp [RG.blocks, hb])), h.own⟩
theorem RingAt.still {w w' : World} {x : RG} (h : RingAt w x) (ht : Touch [] w w') : RingAt w' x := h.touch ht (by simp)
theorem RingAt.lt {w : World} {x : RG} (h : RingAt w x) : ∀ b ∈ x.blocks, b < w.heap.size := fun b hb => by
  rcases List.mem_cons.1 hb with rfl | hb
  · exact h.self.lt
  · exact h.rows.lt b hb
theorem eightL {α : Type} {l : List α} (h : l.length = 8) : ∃ a0 a1 a2 a3 a4 a5 a6 a7, l = [a0, a1, a2, a3, a4, a5, a6, a7] := by
  match l, h with
  | [a0, a1, a2, a3, a4, a5, a6, a7], _ => exact ⟨a0, a1, a2, a3, a4, a5, a6, a7, rfl⟩
def placeI (n : Int) : Int := 68719476736 + n * 4096
set_option maxRecDepth 100000 in
theorem gplace_any (n : Nat) (hn : n < 8) (w : World) : Calls Try.prog 31 #[.int .i64 (n : Int)] w fun e w' => e = .returned (.int .u64 (placeI n)) ∧ w' = w := by
  obtain rfl | rfl | rfl | rfl | rfl | rfl | rfl | rfl : n = 0 ∨ n = 1 ∨ n = 2 ∨ n = 3 ∨ n = 4 ∨ n = 5 ∨ n = 6 ∨ n = 7 := by omega
  all_goals
    go_enter Try.func31, Try.ntmps31
    go_wp2
    go_ret
    exact ⟨rfl, rfl⟩
/-- The array of records as a value. -/
def recsA (l : List (Option Nat)) : Array Value := (l.flatMap recC).toArray
set_option maxRecDepth 100000 in
theorem index_rec (w : World) {l : List (Option Nat)} (h8 : l.length = 8) {k : Nat} (hk : k < 8) : (Instr.index 80 (.agg (recsA l)) (.int .i64 k)).run Try.prog w = .ok (.agg #[.bool (l.getD k none).isSome, .int .i64 (idI (l.getD k none))]) w := by
  obtain ⟨a0, a1, a2, a3, a4, a5, a6, a7, rfl⟩ := eightL h8
  obtain rfl | rfl | rfl | rfl | rfl | rfl | rfl | rfl : k = 0 ∨ k = 1 ∨ k = 2 ∨ k = 3 ∨ k = 4 ∨ k = 5 ∨ k = 6 ∨ k = 7 := by omega
  all_goals simp [Instr.index, run_underlying Try.underlying80, part, recsA, recC, go_sem]
/-- The first number that no open record has. -/
def freeI (l : List (Option Nat)) : Int := match l.findIdx? Option.isNone with
  | some n => (n : Int)
  | none => -1
theorem freeI_some {l : List (Option Nat)} {n : Nat} (hn : l[n]? = some none) (h : ∀ j, j < n → (l.getD j none).isSome = true) : freeI l = n := by
  have hl := (List.getElem?_eq_some_iff.1 hn).1
  have : l.findIdx? Option.isNone = some n := by
    rw [List.findIdx?_eq_some_iff_getElem]
    refine ⟨hl, by rw [List.getElem?_eq_getElem hl] at hn; injection hn with hn; rw [hn]; rfl, fun j hj => ?_⟩
    have h1 := h j hj
    rw [List.getD_eq_getElem?_getD, List.getElem?_eq_getElem (by omega)] at h1
    simp only [Option.getD_some] at h1
    cases hq : l[j] with
    | none => rw [hq] at h1; cases h1
    | some i => simp
  unfold freeI
  rw [this]
theorem freeI_none {l : List (Option Nat)} (h : ∀ j, j < l.length → (l.getD j none).isSome = true) : freeI l = -1 := by
  have : l.findIdx? Option.isNone = none := by
    rw [List.findIdx?_eq_none_iff]
    intro x hx
    obtain ⟨j, hj, rfl⟩ := List.getElem_of_mem hx
    have h1 := h j hj
    rw [List.getD_eq_getElem?_getD, List.getElem?_eq_getElem hj] at h1
    simp only [Option.getD_some] at h1
    cases hq : l[j] with
    | none => rw [hq] at h1; cases h1
    | some i => rfl
  unfold freeI
  rw [this]
theorem freeI_cases {l : List (Option Nat)} (h8 : l.length = 8) : (freeI l = -1 ∧ ∀ j, j < 8 → (l.getD j none).isSome = true) ∨ ∃ n : Nat, n < 8 ∧ freeI l = n ∧ l[n]? = some none ∧ ∀ j, j < n → (l.getD j none).isSome = true := by
  unfold freeI
  cases hq : l.findIdx? Option.isNone with
  | none =>
    refine Or.inl ⟨rfl, fun j hj => ?_⟩
    rw [List.findIdx?_eq_none_iff] at hq
    have h1 := hq (l.getD j none) (by
      rw [List.getD_eq_getElem?_getD, List.getElem?_eq_getElem (by omega)]
      exact List.getElem_mem _)
    cases hz : l.getD j none with
    | none => rw [hz] at h1; cases h1
    | some i => rfl
  | some n =>
    rw [List.findIdx?_eq_some_iff_getElem] at hq
    obtain ⟨hl, h1, h2⟩ := hq
    refine Or.inr ⟨n, by omega, rfl, ?_, fun j hj => ?_⟩
    · rw [List.getElem?_eq_getElem hl]
      cases hz : l[n] with
      | none => rfl
      | some i => rw [hz] at h1; cases h1
    · have h3 := h2 j hj
      rw [List.getD_eq_getElem?_getD, List.getElem?_eq_getElem (by omega)]
      simp only [Option.getD_some]
      cases hz : l[j]'(by omega) with
      | none => rw [hz] at h3; exact absurd rfl h3
      | some i => rfl
set_option maxHeartbeats 1000000 in
set_option maxRecDepth 100000 in
theorem gfree_any {w : World} {x : RG} (h : RingAt w x) : Calls Try.prog 30 #[.pointer (some ⟨x.r, 0, none⟩)] w fun e w' => e = .returned (.int .i64 (freeI x.recs)) ∧ Touch [] w w' := by
  have h8 := h.eight
  have HI := toHid (fun (w : World) (k : Nat) (hk : k < 8) => index_rec w h8 hk)
  have H8 := toHid h8
  obtain ⟨r, m, recs, g, cap, l⟩ := x
  dsimp only at *
  obtain ⟨a0, a1, a2, a3, a4, a5, a6, a7, rfl⟩ := eightL h8
  have c1 := h.self.cell (i := 1) rfl
  have c2 := h.self.cell (i := 2) rfl
  have c3 := h.self.cell (i := 3) rfl
  have c4 := h.self.cell (i := 4) rfl
  have c5 := h.self.cell (i := 5) rfl
  have c6 := h.self.cell (i := 6) rfl
  have c7 := h.self.cell (i := 7) rfl
  have c8 := h.self.cell (i := 8) rfl
  have c9 := h.self.cell (i := 9) rfl
  have c10 := h.self.cell (i := 10) rfl
  have c11 := h.self.cell (i := 11) rfl
  have c12 := h.self.cell (i := 12) rfl
  have c13 := h.self.cell (i := 13) rfl
  have c14 := h.self.cell (i := 14) rfl
  have c15 := h.self.cell (i := 15) rfl
  have c16 := h.self.cell (i := 16) rfl
  clear h h8
  go_enter Try.func30, Try.ntmps30
  go_wp2_with fail
  clear c1 c2 c3 c4 c5 c6 c7 c8 c9 c10 c11 c12 c13 c14 c15 c16
  have hRS : recsA [a0, a1, a2, a3, a4, a5, a6, a7] = #[Value.bool a0.isSome, Value.int IntKind.i64 (idI a0), Value.bool a1.isSome, Value.int IntKind.i64 (idI a1), Value.bool a2.isSome, Value.int IntKind.i64 (idI a2), Value.bool a3.isSome, Value.int IntKind.i64 (idI a3), Value.bool a4.isSome, Value.int IntKind.i64 (idI a4), Value.bool a5.isSome, Value.int IntKind.i64 (idI a5), Value.bool a6.isSome, Value.int IntKind.i64 (idI a6), Value.bool a7.isSome, Value.int IntKind.i64 (idI a7)] := rfl
  rw [hRS] at HI
  clear hRS
  generalize (#[Value.bool a0.isSome, Value.int IntKind.i64 (idI a0), Value.bool a1.isSome, Value.int IntKind.i64 (idI a1), Value.bool a2.isSome, Value.int IntKind.i64 (idI a2), Value.bool a3.isSome, Value.int IntKind.i64 (idI a3), Value.bool a4.isSome, Value.int IntKind.i64 (idI a4), Value.bool a5.isSome, Value.int IntKind.i64 (idI a5), Value.bool a6.isSome, Value.int IntKind.i64 (idI a6), Value.bool a7.isSome, Value.int IntKind.i64 (idI a7)] : Array Value) = rs at *
  generalize hrecs : [a0, a1, a2, a3, a4, a5, a6, a7] = recs at *
  have HRE := toHid hrecs
  clear hrecs
  go_loopw [9] (fun t w' => ∃ k : Nat, k ≤ 8 ∧ t = .int .i64 k ∧ Hid ((∀ j, j < k → (recs.getD j none).isSome = true) ∧ Touch [] w w')) (fun t _ => 8 - (intOf t).toNat)
  case atStart => exact ⟨0, by omega, rfl, fun j hj => absurd hj (by omega), Touch.refl _ _⟩
  case round =>
    obtain ⟨k, hk, rfl, HJ⟩ := hrel
    by_cases hlt : k < 8
    · have hix := HI.out wr k hlt
      have hta : Hid (Touch [] w (wr.alloc (.cells #[.bool (recs.getD k none).isSome, .int .i64 (idI (recs.getD k none))] 79))) := HJ.out.2.alloc _
      have hNB := Blk.newA wr #[.bool (recs.getD k none).isSome, .int .i64 (idI (recs.getD k none))] _ 79 rfl
      have hq : recs[k]? = some (recs.getD k none) := by
        rw [List.getD_eq_getElem?_getD]
        have := H8.out
        rw [List.getElem?_eq_getElem (by omega)]
        rfl
      cases hs : recs.getD k none with
      | none =>
        rw [hs] at hix hta hNB hq
        have HF := toHid (freeI_some hq HJ.out.1)
        simp only [Option.isSome_none] at *
        clear hs hq HJ
        go_wp2
        go_ret
        exact ⟨by rw [HRE.out, HF.out] <;> rfl, hta.out⟩
      | some i =>
        rw [hs] at hix hta hNB
        have HN : Hid ((∀ j, j < k + 1 → (recs.getD j none).isSome = true) ∧ Touch [] w (wr.alloc (.cells #[.bool true, .int .i64 (idI (some i))] 79))) := ⟨fun j hj => by
          by_cases hjk : j = k
          · rw [hjk, hs]; rfl
          · exact HJ.out.1 j (by omega), hta.out⟩
        simp only [Option.isSome_some] at *
        clear hs hq HJ hta
        go_wp2
        go_roundw
        case rel => exact ⟨k + 1, by omega, by go_num, HN⟩
        case measure => simp [intOf]; omega
    · obtain rfl : k = 8 := by omega
      have HF := toHid (freeI_none (l := recs) (fun j hj => HJ.out.1 j (by have := H8.out; omega)))
      have HT := toHid HJ.out.2
      clear HJ
      go_wp2
      go_ret
      exact ⟨by rw [HRE.out, HF.out] <;> rfl, HT.out⟩
/-- The number of the open record that has this place. -/
def numI (l : List (Option Nat)) (addr : Int) : Int := match (List.range l.length).find? (fun n => (l.getD n none).isSome && decide (placeI n = addr)) with
  | some n => (n : Int)
  | none => -1
theorem numI_some {l : List (Option Nat)} {addr : Int} {n i : Nat} (hn : l[n]? = some (some i)) (h : placeI n = addr) : numI l addr = n := by
  have hl := (List.getElem?_eq_some_iff.1 hn).1
  have : (List.range l.length).find? (fun n => (l.getD n none).isSome && decide (placeI n = addr)) = some n := by
    rw [List.find?_range_eq_some]
    refine ⟨by rw [List.getD_eq_getElem?_getD, hn]; simp [h], List.mem_range.2 hl, fun j hj => ?_⟩
    have : placeI j ≠ addr := by unfold placeI at *; omega
    simp [this]
  unfold numI
  rw [this]
theorem numI_none {l : List (Option Nat)} {addr : Int} (h : ∀ n, n < l.length → (l.getD n none).isSome = true → placeI n ≠ addr) : numI l addr = -1 := by
  have : (List.range l.length).find? (fun n => (l.getD n none).isSome && decide (placeI n = addr)) = none := by
    rw [List.find?_eq_none]
    intro n hn
    rw [List.mem_range] at hn
    cases hs : (l.getD n none).isSome with
    | false => simp
    | true => simp [h n hn hs]
  unfold numI
  rw [this]
theorem numI_cases (l : List (Option Nat)) (addr : Int) : (numI l addr = -1 ∧ ∀ (n i : Nat), l[n]? = some (some i) → placeI n ≠ addr) ∨ ∃ n i : Nat, n < l.length ∧ numI l addr = n ∧ l[n]? = some (some i) ∧ placeI n = addr := by
  by_cases hx : ∃ n i : Nat, l[n]? = some (some i) ∧ placeI n = addr
  · obtain ⟨n, i, h1, h2⟩ := hx
    exact Or.inr ⟨n, i, (List.getElem?_eq_some_iff.1 h1).1, numI_some h1 h2, h1, h2⟩
  · refine Or.inl ⟨numI_none fun n hn hs he => ?_, fun n i h1 h2 => hx ⟨n, i, h1, h2⟩⟩
    cases hq : l.getD n none with
    | none => rw [hq] at hs; cases hs
    | some i =>
      refine hx ⟨n, i, ?_, he⟩
      rw [List.getD_eq_getElem?_getD, List.getElem?_eq_getElem hn] at hq
      rw [List.getElem?_eq_getElem hn]
      simpa using hq
set_option maxHeartbeats 1000000 in
set_option maxRecDepth 100000 in
theorem gnumber_any {w : World} {x : RG} (h : RingAt w x) (addr : Int) : Calls Try.prog 32 #[.pointer (some ⟨x.r, 0, none⟩), .int .u64 addr] w fun e w' => e = .returned (.int .i64 (numI x.recs addr)) ∧ Touch [] w w' := by
  have h8 := h.eight
  have HI := toHid (fun (w : World) (k : Nat) (hk : k < 8) => index_rec w h8 hk)
  have H8 := toHid h8
  obtain ⟨r, m, recs, g, cap, l⟩ := x
  dsimp only at *
  obtain ⟨a0, a1, a2, a3, a4, a5, a6, a7, rfl⟩ := eightL h8
  have c1 := h.self.cell (i := 1) rfl
  have c2 := h.self.cell (i := 2) rfl
  have c3 := h.self.cell (i := 3) rfl
  have c4 := h.self.cell (i := 4) rfl
  have c5 := h.self.cell (i := 5) rfl
  have c6 := h.self.cell (i := 6) rfl
  have c7 := h.self.cell (i := 7) rfl
  have c8 := h.self.cell (i := 8) rfl
  have c9 := h.self.cell (i := 9) rfl
  have c10 := h.self.cell (i := 10) rfl
  have c11 := h.self.cell (i := 11) rfl
  have c12 := h.self.cell (i := 12) rfl
  have c13 := h.self.cell (i := 13) rfl
  have c14 := h.self.cell (i := 14) rfl
  have c15 := h.self.cell (i := 15) rfl
  have c16 := h.self.cell (i := 16) rfl
  clear h h8
  go_enter Try.func32, Try.ntmps32
  go_wp2_with fail
  clear c1 c2 c3 c4 c5 c6 c7 c8 c9 c10 c11 c12 c13 c14 c15 c16
  have hRS : recsA [a0, a1, a2, a3, a4, a5, a6, a7] = #[Value.bool a0.isSome, Value.int IntKind.i64 (idI a0), Value.bool a1.isSome, Value.int IntKind.i64 (idI a1), Value.bool a2.isSome, Value.int IntKind.i64 (idI a2), Value.bool a3.isSome, Value.int IntKind.i64 (idI a3), Value.bool a4.isSome, Value.int IntKind.i64 (idI a4), Value.bool a5.isSome, Value.int IntKind.i64 (idI a5), Value.bool a6.isSome, Value.int IntKind.i64 (idI a6), Value.bool a7.isSome, Value.int IntKind.i64 (idI a7)] := rfl
  rw [hRS] at HI
  clear hRS
  generalize (#[Value.bool a0.isSome, Value.int IntKind.i64 (idI a0), Value.bool a1.isSome, Value.int IntKind.i64 (idI a1), Value.bool a2.isSome, Value.int IntKind.i64 (idI a2), Value.bool a3.isSome, Value.int IntKind.i64 (idI a3), Value.bool a4.isSome, Value.int IntKind.i64 (idI a4), Value.bool a5.isSome, Value.int IntKind.i64 (idI a5), Value.bool a6.isSome, Value.int IntKind.i64 (idI a6), Value.bool a7.isSome, Value.int IntKind.i64 (idI a7)] : Array Value) = rs at *
  generalize hrecs : [a0, a1, a2, a3, a4, a5, a6, a7] = recs at *
  have HRE := toHid hrecs
  clear hrecs
  go_loopw [11] (fun t w' => ∃ k : Nat, k ≤ 8 ∧ t = .int .i64 k ∧ Hid ((∀ j, j < k → (recs.getD j none).isSome = true → placeI j ≠ addr) ∧ Touch [] w w')) (fun t _ => 8 - (intOf t).toNat)
  case atStart => exact ⟨0, by omega, rfl, fun j hj => absurd hj (by omega), Touch.refl _ _⟩
  case round =>
    obtain ⟨k, hk, rfl, HJ⟩ := hrel
    by_cases hlt : k < 8
    · have hix := HI.out wr k hlt
      have hta : Hid (Touch [] w (wr.alloc (.cells #[.bool (recs.getD k none).isSome, .int .i64 (idI (recs.getD k none))] 79))) := HJ.out.2.alloc _
      have hNB := Blk.newA wr #[.bool (recs.getD k none).isSome, .int .i64 (idI (recs.getD k none))] _ 79 rfl
      have hq : recs[k]? = some (recs.getD k none) := by
        rw [List.getD_eq_getElem?_getD]
        have := H8.out
        rw [List.getElem?_eq_getElem (by omega)]
        rfl
      cases hs : recs.getD k none with
      | none =>
        rw [hs] at hix hta hNB
        have HN : Hid ((∀ j, j < k + 1 → (recs.getD j none).isSome = true → placeI j ≠ addr) ∧ Touch [] w (wr.alloc (.cells #[.bool false, .int .i64 (idI none)] 79))) := ⟨fun j hj => by
          by_cases hjk : j = k
          · intro h9
            rw [hjk, hs] at h9
            cases h9
          · exact HJ.out.1 j (by omega), hta.out⟩
        simp only [Option.isSome_none] at *
        clear hs hq HJ hta
        go_wp2
        go_roundw
        case rel => exact ⟨k + 1, by omega, by go_num, HN⟩
        case measure => simp [intOf]; omega
      | some i =>
        rw [hs] at hix hta hNB hq
        have H1 := toHid (gplace_any k hlt)
        have hHN : placeI k ≠ addr → Hid ((∀ j, j < k + 1 → (recs.getD j none).isSome = true → placeI j ≠ addr) ∧ Touch [] w (wr.alloc (.cells #[.bool true, .int .i64 (idI (some i))] 79))) := fun hne => ⟨fun j hj => by
          by_cases hjk : j = k
          · intro _
            rw [hjk]
            exact hne
          · exact HJ.out.1 j (by omega), hta.out⟩
        have HHN := toHid hHN
        have HS : placeI k = addr → Hid (numI recs addr = k) := fun he => numI_some hq he
        have HSS := toHid HS
        simp only [Option.isSome_some] at *
        clear hs hq HJ HS hHN
        go_wp2_with fail
        refine (H1.out _).mono ?_
        rintro e w2 ⟨rfl, rfl⟩
        by_cases he : placeI k = addr
        · have HF := HSS.out he
          have heb : (placeI k == addr) = true := by simpa using he
          clear he
          go_wp2
          go_ret
          exact ⟨by rw [HRE.out, HF.out] <;> rfl, hta.out⟩
        · have HN := HHN.out he
          have heb : (placeI k == addr) = false := by simpa using he
          clear he hta
          go_wp2
          go_roundw
          case rel => exact ⟨k + 1, by omega, by go_num, HN⟩
          case measure => simp [intOf]; omega
    · obtain rfl : k = 8 := by omega
      have HF := toHid (numI_none (l := recs) (addr := addr) (fun j hj => HJ.out.1 j (by have := H8.out; omega)))
      have HT := toHid HJ.out.2
      clear HJ
      go_wp2
      go_ret
      exact ⟨by rw [HRE.out, HF.out] <;> rfl, HT.out⟩
/-- How many are open. -/
def openN (l : List (Option Nat)) : Nat := (l.filter Option.isSome).length
theorem openN_take (l : List (Option Nat)) {k : Nat} (hk : k < l.length) : openN (l.take (k + 1)) = openN (l.take k) + (if (l.getD k none).isSome = true then 1 else 0) := by
  unfold openN
  rw [List.take_add_one, List.filter_append, List.length_append, List.getElem?_eq_getElem hk, List.getD_eq_getElem?_getD, List.getElem?_eq_getElem hk]
  simp only [Option.toList_some, Option.getD_some]
  cases l[k] <;> rfl
theorem openN_le (l : List (Option Nat)) : openN l ≤ l.length := List.length_filter_le _ _
set_option maxHeartbeats 1000000 in
set_option maxRecDepth 100000 in
theorem gopen_any {w : World} {x : RG} (h : RingAt w x) : Calls Try.prog 20 #[.pointer (some ⟨x.r, 0, none⟩)] w fun e w' => e = .returned (.int .i64 (openN x.recs)) ∧ Touch [] w w' := by
  have h8 := h.eight
  have HI := toHid (fun (w : World) (k : Nat) (hk : k < 8) => index_rec w h8 hk)
  have H8 := toHid h8
  obtain ⟨r, m, recs, g, cap, l⟩ := x
  dsimp only at *
  obtain ⟨a0, a1, a2, a3, a4, a5, a6, a7, rfl⟩ := eightL h8
  have c1 := h.self.cell (i := 1) rfl
  have c2 := h.self.cell (i := 2) rfl
  have c3 := h.self.cell (i := 3) rfl
  have c4 := h.self.cell (i := 4) rfl
  have c5 := h.self.cell (i := 5) rfl
  have c6 := h.self.cell (i := 6) rfl
  have c7 := h.self.cell (i := 7) rfl
  have c8 := h.self.cell (i := 8) rfl
  have c9 := h.self.cell (i := 9) rfl
  have c10 := h.self.cell (i := 10) rfl
  have c11 := h.self.cell (i := 11) rfl
  have c12 := h.self.cell (i := 12) rfl
  have c13 := h.self.cell (i := 13) rfl
  have c14 := h.self.cell (i := 14) rfl
  have c15 := h.self.cell (i := 15) rfl
  have c16 := h.self.cell (i := 16) rfl
  clear h h8
  go_enter Try.func20, Try.ntmps20
  go_wp2_with fail
  clear c1 c2 c3 c4 c5 c6 c7 c8 c9 c10 c11 c12 c13 c14 c15 c16
  have hRS : recsA [a0, a1, a2, a3, a4, a5, a6, a7] = #[Value.bool a0.isSome, Value.int IntKind.i64 (idI a0), Value.bool a1.isSome, Value.int IntKind.i64 (idI a1), Value.bool a2.isSome, Value.int IntKind.i64 (idI a2), Value.bool a3.isSome, Value.int IntKind.i64 (idI a3), Value.bool a4.isSome, Value.int IntKind.i64 (idI a4), Value.bool a5.isSome, Value.int IntKind.i64 (idI a5), Value.bool a6.isSome, Value.int IntKind.i64 (idI a6), Value.bool a7.isSome, Value.int IntKind.i64 (idI a7)] := rfl
  rw [hRS] at HI
  clear hRS
  generalize (#[Value.bool a0.isSome, Value.int IntKind.i64 (idI a0), Value.bool a1.isSome, Value.int IntKind.i64 (idI a1), Value.bool a2.isSome, Value.int IntKind.i64 (idI a2), Value.bool a3.isSome, Value.int IntKind.i64 (idI a3), Value.bool a4.isSome, Value.int IntKind.i64 (idI a4), Value.bool a5.isSome, Value.int IntKind.i64 (idI a5), Value.bool a6.isSome, Value.int IntKind.i64 (idI a6), Value.bool a7.isSome, Value.int IntKind.i64 (idI a7)] : Array Value) = rs at *
  generalize hrecs : [a0, a1, a2, a3, a4, a5, a6, a7] = recs at *
  have HRE := toHid hrecs
  clear hrecs
  go_loopw [3, 12] (fun o t w' => ∃ k n : Nat, k ≤ 8 ∧ n ≤ k ∧ o = .int .i64 n ∧ t = .int .i64 k ∧ Hid (openN (recs.take k) = n ∧ Touch [] w w')) (fun _ t _ => 8 - (intOf t).toNat)
  case atStart => exact ⟨0, 0, by omega, by omega, rfl, rfl, rfl, Touch.refl _ _⟩
  case round =>
    obtain ⟨k, n, hk, hn, rfl, rfl, HJ⟩ := hrel
    by_cases hlt : k < 8
    · have hix := HI.out wr k hlt
      have hta : Hid (Touch [] w (wr.alloc (.cells #[.bool (recs.getD k none).isSome, .int .i64 (idI (recs.getD k none))] 79))) := HJ.out.2.alloc _
      have hNB := Blk.newA wr #[.bool (recs.getD k none).isSome, .int .i64 (idI (recs.getD k none))] _ 79 rfl
      have ho := openN_take recs (k := k) (by have := H8.out; omega)
      cases hs : recs.getD k none with
      | none =>
        rw [hs] at hix hta hNB ho
        have HN : Hid (openN (recs.take (k + 1)) = n ∧ Touch [] w (wr.alloc (.cells #[.bool false, .int .i64 (idI none)] 79))) := ⟨by rw [ho, HJ.out.1]; rfl, hta.out⟩
        simp only [Option.isSome_none] at *
        clear hs ho HJ hta
        go_wp2
        go_roundw
        case rel => exact ⟨k + 1, n, by omega, by omega, rfl, by go_num, HN⟩
        case measure => simp [intOf]; omega
      | some i =>
        rw [hs] at hix hta hNB ho
        have HN : Hid (openN (recs.take (k + 1)) = n + 1 ∧ Touch [] w (wr.alloc (.cells #[.bool true, .int .i64 (idI (some i))] 79))) := ⟨by rw [ho, HJ.out.1]; rfl, hta.out⟩
        simp only [Option.isSome_some] at *
        clear hs ho HJ hta
        go_wp2
        go_roundw
        case rel => exact ⟨k + 1, n + 1, by omega, by omega, by go_num, by go_num, HN⟩
        case measure => simp [intOf]; omega
    · obtain rfl : k = 8 := by omega
      have HF : Hid (openN recs = n) := by have := HJ.out.1; rw [List.take_of_length_le (by have := H8.out; omega)] at this; exact this
      have HT := toHid HJ.out.2
      clear HJ
      go_wp2
      go_ret
      exact ⟨by rw [HRE.out, HF.out] <;> rfl, HT.out⟩
end Go.Proofs.Ytkfmhabplcikiaa.Ring
