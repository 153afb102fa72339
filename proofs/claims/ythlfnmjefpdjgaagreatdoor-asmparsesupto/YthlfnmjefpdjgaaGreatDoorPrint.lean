/-
  What Print answers.
-/
import Derived.Test.YthlfnmjefpdjgaaGreatDoorLine
namespace Go.Proofs.YthlfnmjefpdjgaaGreatDoor
open Go.RowKit

/-- A known instruction whose fields are as they must be. -/
def okB (i : In) : Bool := knownB i.op && !badB i
/-- The lines of plain instructions. -/
def printP : List In → Option Bs
  | [] => some []
  | [i] => if okB i = true ∧ wideB i.op = false then some (lineP i In.zero ++ [10]) else none
  | i :: nx :: r => if okB i = false then none else if wideB i.op = false then (printP (nx :: r)).map (fun s => lineP i In.zero ++ 10 :: s) else if tailB nx = false then none else (printP r).map (fun s => lineP i nx ++ 10 :: s)
def fnL (L : List In) : Nat → In := fun j => (L[j]?).getD In.zero
def LAt (w : World) (b off : Nat) (L : List In) : Prop := ∀ j i, L[j]? = some i → i.Ok ∧ InC w b (off + j * 5) i
theorem LAt.touch {S : List Nat} {w w' : World} {b off : Nat} {L : List In} (h : LAt w b off L) (ht : Touch S w w') (hb : b ∉ S) : LAt w' b off L := fun j i hi => ⟨(h j i hi).1, (h j i hi).2.touch ht hb⟩

theorem okB_pl (i : In) (ok : i.Ok) (h : okB i = true) : i.Pl := by
  simp only [okB, Bool.and_eq_true, Bool.not_eq_true'] at h
  have hb : ¬ (sameB i = false ∨ 10 < i.dst ∨ srcMax i.op < i.src) := fun hh => by
    have := (bad_iff i h.1 ok).2 hh
    rw [this] at h
    simp at h
  refine ⟨ok, h.1, ?_, ?_⟩
  · have : ¬ 10 < i.dst := fun x => hb (Or.inr (Or.inl x))
    omega
  · have h2 : ¬ srcMax i.op < i.src := fun x => hb (Or.inr (Or.inr x))
    obtain ⟨n, hn⟩ := Int.eq_ofNat_of_zero_le ok.op0
    have hn2 := ok.op1
    have hs := src_all ⟨n, by omega⟩
    simp only [← hn] at hs
    have hs := hs h.1
    omega
theorem plainOf_def (f : Nat → In) (n k : Nat) : plainOf f n k = if okB (f k) = false then (0, if knownB (f k).op = false then 41 else 42) else if wideB (f k).op = false then (1, 0) else if k + 1 = n then (0, 42) else if tailB (f (k + 1)) = false then (0, 42) else (2, 0) := by
  unfold plainOf okB
  cases knownB (f k).op <;> cases badB (f k) <;> simp
theorem print_case (L : List In) (k : Nat) (hk : k < L.length) :
    ((plainOf (fnL L) L.length k).2 ≠ 0 ∧ printP (L.drop k) = none) ∨
    (plainOf (fnL L) L.length k = (1, 0) ∧ okB (fnL L k) = true ∧ wideB (fnL L k).op = false ∧ printP (L.drop k) = (printP (L.drop (k + 1))).map (fun s => lineP (fnL L k) In.zero ++ 10 :: s)) ∨
    (plainOf (fnL L) L.length k = (2, 0) ∧ okB (fnL L k) = true ∧ wideB (fnL L k).op = true ∧ k + 1 < L.length ∧ printP (L.drop k) = (printP (L.drop (k + 2))).map (fun s => lineP (fnL L k) (fnL L (k + 1)) ++ 10 :: s)) := by
  have e0 : fnL L k = L[k] := by simp [fnL, List.getElem?_eq_getElem hk]
  have hd0 : L.drop k = fnL L k :: L.drop (k + 1) := by rw [e0]; exact List.drop_eq_getElem_cons hk
  rw [plainOf_def, hd0]
  by_cases hk1 : k + 1 < L.length
  · have e1 : fnL L (k + 1) = L[k + 1] := by simp [fnL, List.getElem?_eq_getElem hk1]
    have hd1 : L.drop (k + 1) = fnL L (k + 1) :: L.drop (k + 2) := by rw [e1]; exact List.drop_eq_getElem_cons hk1
    rw [hd1, printP]
    cases ho : okB (fnL L k) with
    | false =>
      refine Or.inl ⟨?_, by simp⟩
      simp
      split <;> decide
    | true =>
      cases hw : wideB (fnL L k).op with
      | false => exact Or.inr (Or.inl (by simp))
      | true =>
        have hne : ¬ k + 1 = L.length := by omega
        cases ht : tailB (fnL L (k + 1)) with
        | false => exact Or.inl (by simp [hne])
        | true => exact Or.inr (Or.inr (by simp [hne, hk1]))
  · have hd1 : L.drop (k + 1) = [] := List.drop_eq_nil_of_le (by omega)
    have heq : k + 1 = L.length := by omega
    rw [hd1]
    cases ho : okB (fnL L k) with
    | false =>
      refine Or.inl ⟨?_, by simp [printP, ho]⟩
      simp
      split <;> decide
    | true =>
      cases hw : wideB (fnL L k).op with
      | false => exact Or.inr (Or.inl (by simp [printP, ho, hw]))
      | true => exact Or.inl (by simp [printP, heq, hw])
theorem lineP_len (i nx : In) (p : i.Pl) : (lineP i nx).length ≤ 100 := by
  unfold lineP
  rw [List.length_append]
  have := nameOfP_len i
  have := tailP_len i nx p (fieldsP i.op)
  have := fields_le3 i.op
  omega
theorem plain_call (b off c : Nat) (L : List In) (w : World) (k : Nat) (hk : k < L.length) (hn : L.length ≤ 16777216) (hb : b < w.heap.size) (h : LAt w b off L) :
    Calls Tryz.prog 13 #[.slice (some ⟨b, off, none⟩) L.length c, .int .i64 (k : Int)] w fun e w' => e = .returned (.tuple #[.int .i64 (plainOf (fnL L) L.length k).1, .int .i64 (plainOf (fnL L) L.length k).2]) ∧ Touch [] w w' := by
  have hat : ∀ j, j < L.length → (fnL L j).Ok ∧ InC w b (off + j * 5) (fnL L j) := fun j hj => by
    have : L[j]? = some (fnL L j) := by simp [fnL, List.getElem?_eq_getElem hj]
    exact h j _ this
  obtain ⟨ok, c0, c1, c2, c3, c4⟩ := hat k hk
  exact plain_in b off L.length c k (fnL L) w hk (by omega) hb ok c0 c1 c2 c3 c4 (fun hk1 => by
    obtain ⟨_, d0, d1, d2, d3, d4⟩ := hat (k + 1) hk1
    exact ⟨d0, d1, d2, d3, d4⟩)
theorem IsBuilderF.touch {T e : TypeId} {B b : Nat} {bs : List Value} {w w' : World} (h : Lib.IsBuilderF T e B b bs w) (ht : Touch [] w w') : Lib.IsBuilderF T e B b bs w' := by
  have key : ∀ p, Lib.BuilderAtF T e B b p bs w → Lib.BuilderAtF T e B b p bs w' := fun p h => by
    have hlt := h.lt
    obtain ⟨hB, v, hb, hown, hne⟩ := h
    exact ⟨hB, v, (ht.block b hlt (by simp)).trans hb, hown.kept (row := none) ⟨ht.os, ht.tape, ht.output, ht.size, fun k hk _ => ht.block k hk (by simp)⟩ (by cases hv : v.ownBlock <;> simp), hne⟩
  rcases h with h | h
  · exact Or.inl (key _ h)
  · exact Or.inr (key _ h)
theorem wide_class_all : ∀ x : Fin 256, knownB x.val = true → (wideB x.val = true ↔ (x.val : Int) % 8 = 0) := by decide +kernel
theorem wide_class (x : Int) (h0 : 0 ≤ x) (h1 : x ≤ 255) (hk : knownB x = true) : wideB x = true ↔ x % 8 = 0 := by
  obtain ⟨n, rfl⟩ := Int.eq_ofNat_of_zero_le h0
  exact wide_class_all ⟨n, by omega⟩ hk
def PrintPost (w : World) (r : Option Bs) (e : Ending) (w' : World) : Prop := Touch [] w w' ∧ match r with
  | none => e = .returned (.tuple #[.string ⟨#[]⟩, .int .i64 30])
  | some s => e = .returned (.tuple #[.string ⟨s.toArray⟩, .int .i64 0])

/-- One line more: line, WriteString, WriteByte. -/
def LinePost (w : World) (B : Nat) (T : Bs) (w' : World) : Prop := Lib.IsBuilderF 44 5 B B (Lib.byteCells T) w' ∧ Below B w w' ∧ B ≤ w'.heap.size

set_option maxRecDepth 100000 in
set_option maxHeartbeats 8000000 in
theorem print_walk (b off c : Nat) (L : List In) (w : World) (hE : Env w) (hn : L.length ≤ 16777216) (hc : L.length ≤ c) (hb : b < w.heap.size) (h : LAt w b off L) :
    Calls Tryz.prog 8 #[.slice (some ⟨b, off, none⟩) L.length c] w (PrintPost w (printP L)) := by
  have HF := toHid (Lib.IsBuilderF.of (Lib.fresh_isBuilder 44 5 w))
  have HT0 := toHid ((Touch.refl [] w).alloc (.cells #[.pointer none, .slice none 0 0] 44))
  have hW0 : w.heap.size ≤ (w.alloc (.cells #[.pointer none, .slice none 0 0] 44)).heap.size := (show Touch [] w _ from HT0).size
  have HL := toHid h
  clear h
  go_enter Tryz.func8, Tryz.ntmps8
  go_wp2_with fail
  go_loopw [5] (fun k' w' => ∃ (k : Nat) (T : Bs), k ≤ L.length ∧ k' = .int .i64 (k : Int) ∧ T.length ≤ 101 * k ∧ Hid (printP L = (printP (L.drop k)).map (fun s => T ++ s)) ∧ Hid (Lib.IsBuilderF 44 5 w.heap.size w.heap.size (Lib.byteCells T) w') ∧ Hid (Touch [] w w')) (fun t _ => L.length - (intOf t).toNat)
  case atStart => exact ⟨0, [], by omega, rfl, by simp, toHid (by simp), HF, HT0⟩
  case round =>
    obtain ⟨k, T, hk, rfl, hTl, HP, HB, HT⟩ := hrel
    have hsz := (show Touch [] w wr from HT).size
    by_cases hlt : k < L.length
    · have HPL := toHid (plain_call b off c L wr k hlt hn (by omega) ((show LAt w b off L from HL).touch HT (by simp)))
      go_wp2_with fail
      refine Calls.mono HPL ?_
      rintro e w1 ⟨rfl, ht1⟩
      have HT1 := toHid ((show Touch [] w wr from HT).trans ht1 (by simp))
      have HB1 := toHid (IsBuilderF.touch (show Lib.IsBuilderF 44 5 w.heap.size w.heap.size (Lib.byteCells T) wr from HB) ht1)
      clear ht1 HPL HB HT
      rcases print_case L k hlt with ⟨hbad, hpn⟩ | ⟨hpl, hok, hw, hpn⟩ | ⟨hpl, hok, hw, hk1, hpn⟩
      · have HPN := toHid (show printP L = none from (show printP L = _ from HP).trans (by rw [hpn]; rfl))
        clear HP hpn
        generalize plainOf (fnL L) L.length k = q at *
        obtain ⟨q1, q2⟩ := q
        have hq : (q2 == 0) = false := by simpa using hbad
        go_wp2
        refine bodyPost_ret (v := .tuple #[.string ⟨#[]⟩, .int .i64 30]) (by simp [results, Tryz.results8, go_sem]) rfl ⟨HT1, ?_⟩
        rw [show printP L = none from HPN]
      · rw [hpl]
        have hkc : (k : Int) + 1 ≤ (c : Int) := by omega
        go_wp2_with fail
        obtain ⟨ok, hIC⟩ := (show LAt w b off L from HL) k (fnL L k) (by simp [fnL, List.getElem?_eq_getElem hlt])
        have hPl := okB_pl _ ok hok
        have hwc := wide_class _ ok.op0 ok.op1 hPl.known
        refine (line_any b (off + k * 5) 1 (c - k) (fnL L k) In.zero w1 (hE.touch0 HT1) (by omega) (hIC.touch HT1 (by simp)) hPl (Nat.lt_of_lt_of_le hb (show Touch [] w w1 from HT1).size) (fun h0 => absurd (hwc.2 h0) (by rw [hw]; simp))).mono ?_
        rintro e w2 ⟨rfl, ht2⟩
        have hll := lineP_len (fnL L k) In.zero hPl
        have HT2 := toHid ((show Touch [] w w1 from HT1).trans ht2 (by simp))
        have HB2 := toHid (IsBuilderF.touch (show Lib.IsBuilderF 44 5 w.heap.size w.heap.size (Lib.byteCells T) w1 from HB1) ht2)
        have hs2 := (show Touch [] w w2 from HT2).size
        have HPN := toHid hpn
        clear hpn hpl ht2 HB1 HT1 hwc
        generalize lineP (fnL L k) In.zero = ln at *
        go_wp2_with fail
        refine (Tryz.Builder_WriteString_k w.heap.size w.heap.size (Lib.byteCells T) ⟨ln.toArray⟩ w2 HB2 (by rw [Lib.byteCells_length, mk_size]; omega) hs2).mono ?_
        rintro e w3 ⟨rfl, hB3, hb3, _⟩
        have hs3 := hb3.size
        go_wp2_with fail
        refine (Tryz.Builder_WriteByte_k w.heap.size w.heap.size _ 10 w3 (Or.inr hB3) (by rw [List.length_append, Lib.byteCells_length, Lib.strCells_length, mk_size]; omega) (by omega)).mono ?_
        rintro e w4 ⟨rfl, hB4, hb4, _⟩
        have HT4 := toHid (Below.touch (((show Touch [] w w2 from HT2).below.trans hb3).trans hb4))
        have HB4 : Hid (Lib.IsBuilderF 44 5 w.heap.size w.heap.size (Lib.byteCells (T ++ (ln ++ [10]))) w4) := toHid (Or.inr (by
          have e1 : Lib.byteCells (T ++ (ln ++ [10])) = Lib.byteCells T ++ Lib.strCells ⟨ln.toArray⟩ ++ [.int .u8 10] := by simp [Lib.byteCells, Lib.strCells]
          rw [e1]
          exact hB4))
        clear hB3 hb3 hB4 hb4 HT2 HB2
        go_wp2
        go_roundw
        case rel =>
          refine ⟨k + 1, T ++ (ln ++ [10]), by omega, by go_num, by simp only [List.length_append, List.length_cons, List.length_nil]; omega, toHid ?_, HB4, HT4⟩
          rw [show printP L = _ from HP, show printP (L.drop k) = _ from HPN]
          cases printP (L.drop (k + 1)) <;> simp
        case measure => simp [intOf]; omega
      · rw [hpl]
        have hkc : (k : Int) + 2 ≤ (c : Int) := by omega
        go_wp2_with fail
        obtain ⟨ok, hIC⟩ := (show LAt w b off L from HL) k (fnL L k) (by simp [fnL, List.getElem?_eq_getElem hlt])
        have hPl := okB_pl _ ok hok
        obtain ⟨_, hIC2⟩ := (show LAt w b off L from HL) (k + 1) (fnL L (k + 1)) (by simp [fnL, List.getElem?_eq_getElem hk1])
        rw [show off + (k + 1) * 5 = off + k * 5 + 5 by omega] at hIC2
        have hwc := wide_class _ ok.op0 ok.op1 hPl.known
        refine (line_any b (off + k * 5) 2 (c - k) (fnL L k) (fnL L (k + 1)) w1 (hE.touch0 HT1) (by omega) (hIC.touch HT1 (by simp)) hPl (Nat.lt_of_lt_of_le hb (show Touch [] w w1 from HT1).size) (fun h0 => ⟨by omega, hIC2.touch HT1 (by simp)⟩)).mono ?_
        rintro e w2 ⟨rfl, ht2⟩
        have hll := lineP_len (fnL L k) (fnL L (k + 1)) hPl
        have HT2 := toHid ((show Touch [] w w1 from HT1).trans ht2 (by simp))
        have HB2 := toHid (IsBuilderF.touch (show Lib.IsBuilderF 44 5 w.heap.size w.heap.size (Lib.byteCells T) w1 from HB1) ht2)
        have hs2 := (show Touch [] w w2 from HT2).size
        have HPN := toHid hpn
        clear hpn hpl ht2 HB1 HT1 hwc
        generalize lineP (fnL L k) (fnL L (k + 1)) = ln at *
        go_wp2_with fail
        refine (Tryz.Builder_WriteString_k w.heap.size w.heap.size (Lib.byteCells T) ⟨ln.toArray⟩ w2 HB2 (by rw [Lib.byteCells_length, mk_size]; omega) hs2).mono ?_
        rintro e w3 ⟨rfl, hB3, hb3, _⟩
        have hs3 := hb3.size
        go_wp2_with fail
        refine (Tryz.Builder_WriteByte_k w.heap.size w.heap.size _ 10 w3 (Or.inr hB3) (by rw [List.length_append, Lib.byteCells_length, Lib.strCells_length, mk_size]; omega) (by omega)).mono ?_
        rintro e w4 ⟨rfl, hB4, hb4, _⟩
        have HT4 := toHid (Below.touch (((show Touch [] w w2 from HT2).below.trans hb3).trans hb4))
        have HB4 : Hid (Lib.IsBuilderF 44 5 w.heap.size w.heap.size (Lib.byteCells (T ++ (ln ++ [10]))) w4) := toHid (Or.inr (by
          have e1 : Lib.byteCells (T ++ (ln ++ [10])) = Lib.byteCells T ++ Lib.strCells ⟨ln.toArray⟩ ++ [.int .u8 10] := by simp [Lib.byteCells, Lib.strCells]
          rw [e1]
          exact hB4))
        clear hB3 hb3 hB4 hb4 HT2 HB2
        go_wp2
        go_roundw
        case rel =>
          refine ⟨k + 2, T ++ (ln ++ [10]), by omega, by go_num, by simp only [List.length_append, List.length_cons, List.length_nil]; omega, toHid ?_, HB4, HT4⟩
          rw [show printP L = _ from HP, show printP (L.drop k) = _ from HPN]
          cases printP (L.drop (k + 2)) <;> simp
        case measure => simp [intOf]; omega
    · obtain rfl : k = L.length := by omega
      have HPN := toHid (show printP L = some T from (show printP L = _ from HP).trans (by rw [List.drop_length]; simp [printP]))
      clear HP
      go_wp2_with fail
      refine (Tryz.Builder_String_any_k w.heap.size w.heap.size T wr HB hsz).mono ?_
      rintro e w2 ⟨rfl, _, hb2, _⟩
      have HT2 := toHid (Below.touch ((show Touch [] w wr from HT).below.trans hb2))
      go_wp2
      refine bodyPost_ret (v := .tuple #[.string ⟨T.toArray⟩, .int .i64 0]) (by simp [results, Tryz.results8, go_sem]) rfl ⟨HT2, ?_⟩
      rw [show printP L = some T from HPN]

set_option maxRecDepth 100000 in
set_option maxHeartbeats 8000000 in
theorem print_empty (sa : Option Addr) (c : Nat) (w : World) :
    Calls Tryz.prog 8 #[.slice sa 0 c] w (PrintPost w (some [])) := by
  have HF := toHid (Lib.IsBuilderF.of (Lib.fresh_isBuilder 44 5 w))
  have HT0 := toHid ((Touch.refl [] w).alloc (.cells #[.pointer none, .slice none 0 0] 44))
  go_enter Tryz.func8, Tryz.ntmps8
  go_wp2_with fail
  go_loopw [5] (fun k' w' => k' = .int .i64 0 ∧ Hid (Lib.IsBuilderF 44 5 w.heap.size w.heap.size (Lib.byteCells []) w') ∧ Hid (Touch [] w w')) (fun _ _ => 0)
  case atStart => exact ⟨rfl, HF, HT0⟩
  case round =>
    obtain ⟨rfl, HB, HT⟩ := hrel
    have hsz := (show Touch [] w wr from HT).size
    go_wp2_with fail
    refine (Tryz.Builder_String_any_k w.heap.size w.heap.size [] wr HB hsz).mono ?_
    rintro e w2 ⟨rfl, _, hb2, _⟩
    have HT2 := toHid (Below.touch ((show Touch [] w wr from HT).below.trans hb2))
    go_wp2
    exact bodyPost_ret (v := .tuple #[.string ⟨#[]⟩, .int .i64 0]) (by simp [results, Tryz.results8, go_sem]) rfl ⟨HT2, rfl⟩
end Go.Proofs.YthlfnmjefpdjgaaGreatDoor
