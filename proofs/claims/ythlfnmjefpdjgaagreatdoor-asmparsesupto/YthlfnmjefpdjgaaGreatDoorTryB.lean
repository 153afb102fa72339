/-
  What try lets by is a line's words.
-/
import Derived.Test.YthlfnmjefpdjgaaGreatDoorTryP
namespace Go.Proofs.YthlfnmjefpdjgaaGreatDoor
open Go.RowKit

def usT (u : Us) : Bool × Bool × Bool × Bool := (u.d, u.s, u.o, u.i)
theorem us_of {u : Us} {a b c d : Bool} (h : usT u = (a, b, c, d)) : u = ⟨a, b, c, d⟩ := by
  cases u
  simp only [usT, Prod.mk.injEq] at h
  obtain ⟨rfl, rfl, rfl, rfl⟩ := h
  rfl
/-- What is used, in which order, the fields, and whether the operand is a register. -/
def tabT (x : Int) : (Bool × Bool × Bool × Bool) × List Nat × List Nat × Option Bool := (usT (usOf x), ordOf x, fieldsP x, if 2 ∈ fieldsP x then some (regB x) else none)
def tabL : List ((Bool × Bool × Bool × Bool) × List Nat × List Nat × Option Bool) := [((true, true, true, false), [0, 1, 3, 2], [0, 1, 3], none), ((true, false, true, true), [0, 2, 1, 3], [0, 3, 4], none), ((true, true, true, false), [0, 2, 1, 3], [0, 3, 1], none),
  ((true, false, false, false), [0, 1, 3, 2], [0], none), ((true, true, false, false), [0, 1, 3, 2], [0, 2], some true), ((true, false, false, true), [0, 1, 3, 2], [0, 2], some false), ((false, false, true, false), [0, 1, 3, 2], [3], none),
  ((false, false, false, false), [0, 1, 3, 2], [], none), ((true, true, true, false), [0, 1, 3, 2], [0, 2, 3], some true), ((true, false, true, true), [0, 1, 3, 2], [0, 2, 3], some false)]
def tabOk (x : Int) : Bool := if x = 24 then tabT x == ((true, false, false, true), [0, 1, 3, 2], [0, 5], none) else if x = 133 then tabT x == ((false, false, false, true), [0, 1, 3, 2], [4], none) else tabL.contains (tabT x)
theorem tab_all : ∀ x : Fin 256, knownB x.val = true → tabOk x.val = true := by decide +kernel
/-- A used field takes a word; one that is not takes none. -/
theorem used_inv {op : Int} {u : Us} {f : Nat} {os : List Nat} {fs : List Bs} {i nx : In} {r : In × In × List Bs} (hu : useB u f = true) (h : tryF op u (f :: os) fs i nx = some r) :
    ∃ x fs' p, fs = x :: fs' ∧ fldV op f x i nx = some p ∧ tryF op u os fs' p.1 p.2 = some r := by
  cases fs with
  | nil => simp [tryF, hu] at h
  | cons x fs' =>
    cases hp : fldV op f x i nx with
    | none => simp [tryF, hu, hp] at h
    | some p => exact ⟨x, fs', p, rfl, hp, by simpa [tryF, hu, hp] using h⟩
theorem unused_inv {op : Int} {u : Us} {f : Nat} {os : List Nat} {fs : List Bs} {i nx : In} {r : In × In × List Bs} (hu : useB u f = false) (h : tryF op u (f :: os) fs i nx = some r) : tryF op u os fs i nx = some r := by
  cases fs <;> simpa [tryF, hu] using h
theorem fld0_inv {op : Int} {x : Bs} {i nx : In} {p : In × In} (h : fldV op 0 x i nx = some p) : ∃ v : Nat, v ≤ 10 ∧ x = regT v ∧ p = (⟨i.op, v, i.src, i.off, i.imm⟩, nx) := by
  cases hr : regP x with
  | none => simp [fldV, hr] at h
  | some v =>
    simp [fldV, hr] at h
    obtain ⟨h1, h2⟩ := (regP_iff _ _).1 hr
    exact ⟨v, h2, h1, h.symm⟩
theorem fld1_inv {op : Int} {x : Bs} {i nx : In} {p : In × In} (h : fldV op 1 x i nx = some p) : ∃ v : Nat, v ≤ 10 ∧ x = regT v ∧ p = (⟨i.op, i.dst, v, i.off, i.imm⟩, nx) := by
  cases hr : regP x with
  | none => simp [fldV, hr] at h
  | some v =>
    simp [fldV, hr] at h
    obtain ⟨h1, h2⟩ := (regP_iff _ _).1 hr
    exact ⟨v, h2, h1, h.symm⟩
theorem fld2_inv {op : Int} {x : Bs} {i nx : In} {p : In × In} (h : fldV op 2 x i nx = some p) : ∃ v : Int, -32768 ≤ v ∧ v ≤ 32767 ∧ x = Lib.itoa v ∧ p = (⟨i.op, i.dst, i.src, v, i.imm⟩, nx) := by
  simp [fldV] at h
  obtain ⟨v, hv, rfl⟩ := h
  have hr := sgn16_val hv
  obtain ⟨h1, _⟩ := (sgnP_iff 16 (by omega) (by omega) _ _).1 hv
  exact ⟨v, hr.1, hr.2, h1, rfl⟩
theorem fld3_inv {op : Int} {x : Bs} {i nx : In} {p : In × In} (ho : ¬ op = 24) (h : fldV op 3 x i nx = some p) : ∃ v : Int, -2147483648 ≤ v ∧ v ≤ 2147483647 ∧ x = Lib.itoa v ∧ p = (⟨i.op, i.dst, i.src, i.off, v⟩, nx) := by
  simp [fldV, ho] at h
  obtain ⟨v, hv, rfl⟩ := h
  have hr := sgn32_val hv
  obtain ⟨h1, _⟩ := (sgnP_iff 32 (by omega) (by omega) _ _).1 hv
  exact ⟨v, hr.1, hr.2, h1, rfl⟩
theorem fld4_inv {x : Bs} {i nx : In} {p : In × In} (h : fldV 24 3 x i nx = some p) : ∃ v : Nat, v < 18446744073709551616 ∧ x = Lib.decDigits v ∧ p = (⟨i.op, i.dst, i.src, i.off, wrap32 ((v : Int) % 4294967296)⟩, ⟨nx.op, nx.dst, nx.src, nx.off, wrap32 ((v : Int) / 4294967296)⟩) := by
  cases hr : natP x with
  | none => simp [fldV, hr] at h
  | some v =>
    simp [fldV, hr] at h
    obtain ⟨h1, h2⟩ := (natP_iff _ _).1 hr
    exact ⟨v, h2, h1, h.symm⟩
theorem print_p0 (i nx : In) : printF 0 i nx = regT i.dst := by simp [printF]
theorem print_p5 (i nx : In) : printF 5 i nx = Lib.decDigits (longI i nx).toNat := by simp [printF]
theorem tryF_24 (src : Nat) (hk : knownB 24 = true) (hsrc : src ≤ 1) (fs : List Bs) (i nx : In) (h : tryF 24 (usOf 24) (ordOf 24) fs (inOf 24 src) In.zero = some (i, nx, [])) :
    Good i ∧ i.op = 24 ∧ fs = (fieldsP 24).map (fun f => printF f i nx) ∧ ((24 : Int) = 24 → tailB nx = true ∧ nx.Ok) ∧ ((24 : Int) = 24 ∨ (24 : Int) = 133 → i.src = src) := by
  have hu : usT (usOf 24) = (true, false, false, true) := by decide +kernel
  have ho : ordOf 24 = [0, 1, 3, 2] := by decide +kernel
  have hf : fieldsP 24 = [0, 5] := by decide +kernel
  rw [show inOf 24 src = ⟨24, 0, src, 0, 0⟩ by simp [inOf]] at h
  rw [us_of hu, ho] at h
  obtain ⟨x0, g0, p0, rfl, e0, h⟩ := used_inv (u := ⟨true, false, false, true⟩) (f := 0) rfl h
  obtain ⟨v0, b0, rfl, rfl⟩ := fld0_inv e0
  have h := unused_inv (u := ⟨true, false, false, true⟩) (f := 1) rfl h
  obtain ⟨x3, g3, p3, rfl, e3, h⟩ := used_inv (u := ⟨true, false, false, true⟩) (f := 3) rfl h
  obtain ⟨v3, b3, rfl, rfl⟩ := fld4_inv e3
  have h := unused_inv (u := ⟨true, false, false, true⟩) (f := 2) rfl h
  simp only [tryF, Option.some.injEq, Prod.mk.injEq] at h
  obtain ⟨rfl, rfl, rfl⟩ := h
  refine ⟨good_intro _ ⟨(by show (0 : Int) ≤ (24 : Int); omega), (by show (24 : Int) ≤ 255; omega), (by show (0 : Int) ≤ (v0 : Int); omega), (by show (v0 : Int) ≤ 255; omega), (by show (0 : Int) ≤ (src : Int); omega), (by show (src : Int) ≤ 255; omega), (by show (-32768 : Int) ≤ (0 : Int); omega), (by show (0 : Int) ≤ 32767; omega), (by show (-2147483648 : Int) ≤ wrap32 ((v3 : Int) % 4294967296); unfold wrap32; omega), (by show wrap32 ((v3 : Int) % 4294967296) ≤ 2147483647; unfold wrap32; omega)⟩ hk (fun hh => absurd (by show 0 ∈ fieldsP (24 : Int); rw [hf]; decide) hh) (by show (v0 : Int) ≤ 10; omega) (by show (src : Int) ≤ 10; omega) (fun hh => absurd (Or.inr (Or.inr (Or.inl rfl))) hh) (fun _ => rfl) (fun hh => absurd (Or.inr (Or.inl (by show 5 ∈ fieldsP (24 : Int); rw [hf]; decide))) hh) (fun _ => (by show (src : Int) ≤ 1; omega)), rfl, ?_, ?_, ?_⟩
  · have hlg : ∀ a b c d e k l m : Int, longI ⟨a, b, c, d, wrap32 ((v3 : Int) % 4294967296)⟩ ⟨e, k, l, m, wrap32 ((v3 : Int) / 4294967296)⟩ = (v3 : Int) := fun a b c d e k l m => by simp only [longI, wrap32]; omega
    rw [hf]
    simp only [List.map_cons, List.map_nil, print_p0, print_p5, hlg, Int.toNat_natCast]
  · intro _; exact ⟨by simp [tailB, In.zero], ⟨by simp [In.zero], by simp [In.zero], by simp [In.zero], by simp [In.zero], by simp [In.zero], by simp [In.zero], by simp [In.zero], by simp [In.zero], by simp only [wrap32]; omega, by simp only [wrap32]; omega⟩⟩
  · intro _; rfl
theorem tryF_133 (src : Nat) (hk : knownB 133 = true) (hsrc : src ≤ 1) (fs : List Bs) (i nx : In) (h : tryF 133 (usOf 133) (ordOf 133) fs (inOf 133 src) In.zero = some (i, nx, [])) :
    Good i ∧ i.op = 133 ∧ fs = (fieldsP 133).map (fun f => printF f i nx) ∧ ((133 : Int) = 24 → tailB nx = true ∧ nx.Ok) ∧ ((133 : Int) = 24 ∨ (133 : Int) = 133 → i.src = src) := by
  have hu : usT (usOf 133) = (false, false, false, true) := by decide +kernel
  have ho : ordOf 133 = [0, 1, 3, 2] := by decide +kernel
  have hf : fieldsP 133 = [4] := by decide +kernel
  have h24 : ¬ (133 : Int) = 24 := by decide
  rw [show inOf 133 src = ⟨133, 0, src, 0, 0⟩ by simp [inOf]] at h
  rw [us_of hu, ho] at h
  have h := unused_inv (u := ⟨false, false, false, true⟩) (f := 0) rfl h
  have h := unused_inv (u := ⟨false, false, false, true⟩) (f := 1) rfl h
  obtain ⟨x3, g3, p3, rfl, e3, h⟩ := used_inv (u := ⟨false, false, false, true⟩) (f := 3) rfl h
  obtain ⟨v3, b3, c3, rfl, rfl⟩ := fld3_inv h24 e3
  have h := unused_inv (u := ⟨false, false, false, true⟩) (f := 2) rfl h
  simp only [tryF, Option.some.injEq, Prod.mk.injEq] at h
  obtain ⟨rfl, rfl, rfl⟩ := h
  refine ⟨good_intro _ ⟨(by show (0 : Int) ≤ (133 : Int); omega), (by show (133 : Int) ≤ 255; omega), (by show (0 : Int) ≤ (0 : Int); omega), (by show (0 : Int) ≤ 255; omega), (by show (0 : Int) ≤ (src : Int); omega), (by show (src : Int) ≤ 255; omega), (by show (-32768 : Int) ≤ (0 : Int); omega), (by show (0 : Int) ≤ 32767; omega), (by show (-2147483648 : Int) ≤ v3; omega), (by show v3 ≤ 2147483647; omega)⟩ hk (fun _ => rfl) (by show (0 : Int) ≤ 10; omega) (by show (src : Int) ≤ 10; omega) (fun hh => absurd (Or.inr (Or.inr (Or.inr rfl))) hh) (fun _ => rfl) (fun hh => absurd (Or.inl (by show 4 ∈ fieldsP (133 : Int); rw [hf]; decide)) hh) (fun _ => (by show (src : Int) ≤ 1; omega)), rfl, ?_, ?_, ?_⟩
  · rw [hf]; simp [printF, regT]
  · intro hh; cases hh
  · intro _; rfl
/-- What try lets by: an instruction of that operation, and the words of its line. -/
theorem tryF_good (op src : Nat) (hop : op ≤ 255) (hk : knownB op = true) (hsrc : src ≤ 1) (fs : List Bs) (i nx : In) (h : tryF op (usOf op) (ordOf op) fs (inOf op src) In.zero = some (i, nx, [])) :
    Good i ∧ i.op = op ∧ fs = (fieldsP op).map (fun f => printF f i nx) ∧ ((op : Int) = 24 → tailB nx = true ∧ nx.Ok) ∧ ((op : Int) = 24 ∨ (op : Int) = 133 → i.src = src) := by
  by_cases h24 : (op : Int) = 24
  · obtain rfl : op = 24 := by omega
    exact tryF_24 src hk hsrc fs i nx h
  · by_cases h133 : (op : Int) = 133
    · obtain rfl : op = 133 := by omega
      exact tryF_133 src hk hsrc fs i nx h
    · have htab := tab_all ⟨op, by omega⟩ hk
      have hsp : ¬ ((op : Int) = 133 ∨ (op : Int) = 24) := by omega
      simp only [tabOk] at htab
      rw [if_neg h24, if_neg h133] at htab
      have ht := List.contains_iff_mem.1 htab
      simp only [tabL, tabT, List.mem_cons, List.not_mem_nil, or_false, Prod.mk.injEq] at ht
      rw [show inOf op src = ⟨op, 0, 0, 0, 0⟩ by simp [inOf, hsp]] at h
      rcases ht with ⟨hu, ho, hf, hr⟩ | ⟨hu, ho, hf, hr⟩ | ⟨hu, ho, hf, hr⟩ | ⟨hu, ho, hf, hr⟩ | ⟨hu, ho, hf, hr⟩ | ⟨hu, ho, hf, hr⟩ | ⟨hu, ho, hf, hr⟩ | ⟨hu, ho, hf, hr⟩ | ⟨hu, ho, hf, hr⟩ | ⟨hu, ho, hf, hr⟩
      · rw [us_of hu, ho] at h
        obtain ⟨x0, g0, p0, rfl, e0, h⟩ := used_inv (u := ⟨true, true, true, false⟩) (f := 0) rfl h
        obtain ⟨v0, b0, rfl, rfl⟩ := fld0_inv e0
        obtain ⟨x1, g1, p1, rfl, e1, h⟩ := used_inv (u := ⟨true, true, true, false⟩) (f := 1) rfl h
        obtain ⟨v1, b1, rfl, rfl⟩ := fld1_inv e1
        have h := unused_inv (u := ⟨true, true, true, false⟩) (f := 3) rfl h
        obtain ⟨x2, g2, p2, rfl, e2, h⟩ := used_inv (u := ⟨true, true, true, false⟩) (f := 2) rfl h
        obtain ⟨v2, b2, c2, rfl, rfl⟩ := fld2_inv e2
        simp only [tryF, Option.some.injEq, Prod.mk.injEq] at h
        obtain ⟨rfl, rfl, rfl⟩ := h
        refine ⟨good_intro _ ⟨(by show (0 : Int) ≤ (op : Int); omega), (by show (op : Int) ≤ 255; omega), (by show (0 : Int) ≤ (v0 : Int); omega), (by show (v0 : Int) ≤ 255; omega), (by show (0 : Int) ≤ (v1 : Int); omega), (by show (v1 : Int) ≤ 255; omega), (by show (-32768 : Int) ≤ v2; omega), (by show v2 ≤ 32767; omega), (by show (-2147483648 : Int) ≤ (0 : Int); omega), (by show (0 : Int) ≤ 2147483647; omega)⟩ hk (fun hh => absurd (by show 0 ∈ fieldsP (op : Int); rw [hf]; decide) hh) (by show (v0 : Int) ≤ 10; omega) (by show (v1 : Int) ≤ 10; omega) (fun hh => absurd (Or.inl (by show 1 ∈ fieldsP (op : Int); rw [hf]; decide)) hh) (fun hh => absurd (by show 3 ∈ fieldsP (op : Int); rw [hf]; decide) hh) (fun _ => rfl) (fun hh => absurd hh hsp), rfl, ?_, ?_, ?_⟩
        · rw [hf]; simp [printF, regT]
        · intro hh; exact absurd hh h24
        · intro hh; exact absurd (hh.symm) hsp
      · rw [us_of hu, ho] at h
        obtain ⟨x0, g0, p0, rfl, e0, h⟩ := used_inv (u := ⟨true, false, true, true⟩) (f := 0) rfl h
        obtain ⟨v0, b0, rfl, rfl⟩ := fld0_inv e0
        obtain ⟨x2, g2, p2, rfl, e2, h⟩ := used_inv (u := ⟨true, false, true, true⟩) (f := 2) rfl h
        obtain ⟨v2, b2, c2, rfl, rfl⟩ := fld2_inv e2
        have h := unused_inv (u := ⟨true, false, true, true⟩) (f := 1) rfl h
        obtain ⟨x3, g3, p3, rfl, e3, h⟩ := used_inv (u := ⟨true, false, true, true⟩) (f := 3) rfl h
        obtain ⟨v3, b3, c3, rfl, rfl⟩ := fld3_inv h24 e3
        simp only [tryF, Option.some.injEq, Prod.mk.injEq] at h
        obtain ⟨rfl, rfl, rfl⟩ := h
        refine ⟨good_intro _ ⟨(by show (0 : Int) ≤ (op : Int); omega), (by show (op : Int) ≤ 255; omega), (by show (0 : Int) ≤ (v0 : Int); omega), (by show (v0 : Int) ≤ 255; omega), (by show (0 : Int) ≤ (0 : Int); omega), (by show (0 : Int) ≤ 255; omega), (by show (-32768 : Int) ≤ v2; omega), (by show v2 ≤ 32767; omega), (by show (-2147483648 : Int) ≤ v3; omega), (by show v3 ≤ 2147483647; omega)⟩ hk (fun hh => absurd (by show 0 ∈ fieldsP (op : Int); rw [hf]; decide) hh) (by show (v0 : Int) ≤ 10; omega) (by show (0 : Int) ≤ 10; omega) (fun _ => rfl) (fun hh => absurd (by show 3 ∈ fieldsP (op : Int); rw [hf]; decide) hh) (fun hh => absurd (Or.inl (by show 4 ∈ fieldsP (op : Int); rw [hf]; decide)) hh) (fun hh => absurd hh hsp), rfl, ?_, ?_, ?_⟩
        · rw [hf]; simp [printF, regT]
        · intro hh; exact absurd hh h24
        · intro hh; exact absurd (hh.symm) hsp
      · rw [us_of hu, ho] at h
        obtain ⟨x0, g0, p0, rfl, e0, h⟩ := used_inv (u := ⟨true, true, true, false⟩) (f := 0) rfl h
        obtain ⟨v0, b0, rfl, rfl⟩ := fld0_inv e0
        obtain ⟨x2, g2, p2, rfl, e2, h⟩ := used_inv (u := ⟨true, true, true, false⟩) (f := 2) rfl h
        obtain ⟨v2, b2, c2, rfl, rfl⟩ := fld2_inv e2
        obtain ⟨x1, g1, p1, rfl, e1, h⟩ := used_inv (u := ⟨true, true, true, false⟩) (f := 1) rfl h
        obtain ⟨v1, b1, rfl, rfl⟩ := fld1_inv e1
        have h := unused_inv (u := ⟨true, true, true, false⟩) (f := 3) rfl h
        simp only [tryF, Option.some.injEq, Prod.mk.injEq] at h
        obtain ⟨rfl, rfl, rfl⟩ := h
        refine ⟨good_intro _ ⟨(by show (0 : Int) ≤ (op : Int); omega), (by show (op : Int) ≤ 255; omega), (by show (0 : Int) ≤ (v0 : Int); omega), (by show (v0 : Int) ≤ 255; omega), (by show (0 : Int) ≤ (v1 : Int); omega), (by show (v1 : Int) ≤ 255; omega), (by show (-32768 : Int) ≤ v2; omega), (by show v2 ≤ 32767; omega), (by show (-2147483648 : Int) ≤ (0 : Int); omega), (by show (0 : Int) ≤ 2147483647; omega)⟩ hk (fun hh => absurd (by show 0 ∈ fieldsP (op : Int); rw [hf]; decide) hh) (by show (v0 : Int) ≤ 10; omega) (by show (v1 : Int) ≤ 10; omega) (fun hh => absurd (Or.inl (by show 1 ∈ fieldsP (op : Int); rw [hf]; decide)) hh) (fun hh => absurd (by show 3 ∈ fieldsP (op : Int); rw [hf]; decide) hh) (fun _ => rfl) (fun hh => absurd hh hsp), rfl, ?_, ?_, ?_⟩
        · rw [hf]; simp [printF, regT]
        · intro hh; exact absurd hh h24
        · intro hh; exact absurd (hh.symm) hsp
      · rw [us_of hu, ho] at h
        obtain ⟨x0, g0, p0, rfl, e0, h⟩ := used_inv (u := ⟨true, false, false, false⟩) (f := 0) rfl h
        obtain ⟨v0, b0, rfl, rfl⟩ := fld0_inv e0
        have h := unused_inv (u := ⟨true, false, false, false⟩) (f := 1) rfl h
        have h := unused_inv (u := ⟨true, false, false, false⟩) (f := 3) rfl h
        have h := unused_inv (u := ⟨true, false, false, false⟩) (f := 2) rfl h
        simp only [tryF, Option.some.injEq, Prod.mk.injEq] at h
        obtain ⟨rfl, rfl, rfl⟩ := h
        refine ⟨good_intro _ ⟨(by show (0 : Int) ≤ (op : Int); omega), (by show (op : Int) ≤ 255; omega), (by show (0 : Int) ≤ (v0 : Int); omega), (by show (v0 : Int) ≤ 255; omega), (by show (0 : Int) ≤ (0 : Int); omega), (by show (0 : Int) ≤ 255; omega), (by show (-32768 : Int) ≤ (0 : Int); omega), (by show (0 : Int) ≤ 32767; omega), (by show (-2147483648 : Int) ≤ (0 : Int); omega), (by show (0 : Int) ≤ 2147483647; omega)⟩ hk (fun hh => absurd (by show 0 ∈ fieldsP (op : Int); rw [hf]; decide) hh) (by show (v0 : Int) ≤ 10; omega) (by show (0 : Int) ≤ 10; omega) (fun _ => rfl) (fun _ => rfl) (fun _ => rfl) (fun hh => absurd hh hsp), rfl, ?_, ?_, ?_⟩
        · rw [hf]; simp [printF, regT]
        · intro hh; exact absurd hh h24
        · intro hh; exact absurd (hh.symm) hsp
      · have hrg : regB op = true := by rw [if_pos (by rw [hf]; decide)] at hr; exact Option.some.inj hr
        rw [us_of hu, ho] at h
        obtain ⟨x0, g0, p0, rfl, e0, h⟩ := used_inv (u := ⟨true, true, false, false⟩) (f := 0) rfl h
        obtain ⟨v0, b0, rfl, rfl⟩ := fld0_inv e0
        obtain ⟨x1, g1, p1, rfl, e1, h⟩ := used_inv (u := ⟨true, true, false, false⟩) (f := 1) rfl h
        obtain ⟨v1, b1, rfl, rfl⟩ := fld1_inv e1
        have h := unused_inv (u := ⟨true, true, false, false⟩) (f := 3) rfl h
        have h := unused_inv (u := ⟨true, true, false, false⟩) (f := 2) rfl h
        simp only [tryF, Option.some.injEq, Prod.mk.injEq] at h
        obtain ⟨rfl, rfl, rfl⟩ := h
        refine ⟨good_intro _ ⟨(by show (0 : Int) ≤ (op : Int); omega), (by show (op : Int) ≤ 255; omega), (by show (0 : Int) ≤ (v0 : Int); omega), (by show (v0 : Int) ≤ 255; omega), (by show (0 : Int) ≤ (v1 : Int); omega), (by show (v1 : Int) ≤ 255; omega), (by show (-32768 : Int) ≤ (0 : Int); omega), (by show (0 : Int) ≤ 32767; omega), (by show (-2147483648 : Int) ≤ (0 : Int); omega), (by show (0 : Int) ≤ 2147483647; omega)⟩ hk (fun hh => absurd (by show 0 ∈ fieldsP (op : Int); rw [hf]; decide) hh) (by show (v0 : Int) ≤ 10; omega) (by show (v1 : Int) ≤ 10; omega) (fun hh => absurd (Or.inr (Or.inl ⟨(by show 2 ∈ fieldsP (op : Int); rw [hf]; decide), hrg⟩)) hh) (fun _ => rfl) (fun _ => rfl) (fun hh => absurd hh hsp), rfl, ?_, ?_, ?_⟩
        · rw [hf]; simp [printF, regT, hrg]
        · intro hh; exact absurd hh h24
        · intro hh; exact absurd (hh.symm) hsp
      · have hrg : regB op = false := by rw [if_pos (by rw [hf]; decide)] at hr; exact Option.some.inj hr
        rw [us_of hu, ho] at h
        obtain ⟨x0, g0, p0, rfl, e0, h⟩ := used_inv (u := ⟨true, false, false, true⟩) (f := 0) rfl h
        obtain ⟨v0, b0, rfl, rfl⟩ := fld0_inv e0
        have h := unused_inv (u := ⟨true, false, false, true⟩) (f := 1) rfl h
        obtain ⟨x3, g3, p3, rfl, e3, h⟩ := used_inv (u := ⟨true, false, false, true⟩) (f := 3) rfl h
        obtain ⟨v3, b3, c3, rfl, rfl⟩ := fld3_inv h24 e3
        have h := unused_inv (u := ⟨true, false, false, true⟩) (f := 2) rfl h
        simp only [tryF, Option.some.injEq, Prod.mk.injEq] at h
        obtain ⟨rfl, rfl, rfl⟩ := h
        refine ⟨good_intro _ ⟨(by show (0 : Int) ≤ (op : Int); omega), (by show (op : Int) ≤ 255; omega), (by show (0 : Int) ≤ (v0 : Int); omega), (by show (v0 : Int) ≤ 255; omega), (by show (0 : Int) ≤ (0 : Int); omega), (by show (0 : Int) ≤ 255; omega), (by show (-32768 : Int) ≤ (0 : Int); omega), (by show (0 : Int) ≤ 32767; omega), (by show (-2147483648 : Int) ≤ v3; omega), (by show v3 ≤ 2147483647; omega)⟩ hk (fun hh => absurd (by show 0 ∈ fieldsP (op : Int); rw [hf]; decide) hh) (by show (v0 : Int) ≤ 10; omega) (by show (0 : Int) ≤ 10; omega) (fun _ => rfl) (fun _ => rfl) (fun hh => absurd (Or.inr (Or.inr ⟨(by show 2 ∈ fieldsP (op : Int); rw [hf]; decide), hrg⟩)) hh) (fun hh => absurd hh hsp), rfl, ?_, ?_, ?_⟩
        · rw [hf]; simp [printF, regT, hrg]
        · intro hh; exact absurd hh h24
        · intro hh; exact absurd (hh.symm) hsp
      · rw [us_of hu, ho] at h
        have h := unused_inv (u := ⟨false, false, true, false⟩) (f := 0) rfl h
        have h := unused_inv (u := ⟨false, false, true, false⟩) (f := 1) rfl h
        have h := unused_inv (u := ⟨false, false, true, false⟩) (f := 3) rfl h
        obtain ⟨x2, g2, p2, rfl, e2, h⟩ := used_inv (u := ⟨false, false, true, false⟩) (f := 2) rfl h
        obtain ⟨v2, b2, c2, rfl, rfl⟩ := fld2_inv e2
        simp only [tryF, Option.some.injEq, Prod.mk.injEq] at h
        obtain ⟨rfl, rfl, rfl⟩ := h
        refine ⟨good_intro _ ⟨(by show (0 : Int) ≤ (op : Int); omega), (by show (op : Int) ≤ 255; omega), (by show (0 : Int) ≤ (0 : Int); omega), (by show (0 : Int) ≤ 255; omega), (by show (0 : Int) ≤ (0 : Int); omega), (by show (0 : Int) ≤ 255; omega), (by show (-32768 : Int) ≤ v2; omega), (by show v2 ≤ 32767; omega), (by show (-2147483648 : Int) ≤ (0 : Int); omega), (by show (0 : Int) ≤ 2147483647; omega)⟩ hk (fun _ => rfl) (by show (0 : Int) ≤ 10; omega) (by show (0 : Int) ≤ 10; omega) (fun _ => rfl) (fun hh => absurd (by show 3 ∈ fieldsP (op : Int); rw [hf]; decide) hh) (fun _ => rfl) (fun hh => absurd hh hsp), rfl, ?_, ?_, ?_⟩
        · rw [hf]; simp [printF, regT]
        · intro hh; exact absurd hh h24
        · intro hh; exact absurd (hh.symm) hsp
      · rw [us_of hu, ho] at h
        have h := unused_inv (u := ⟨false, false, false, false⟩) (f := 0) rfl h
        have h := unused_inv (u := ⟨false, false, false, false⟩) (f := 1) rfl h
        have h := unused_inv (u := ⟨false, false, false, false⟩) (f := 3) rfl h
        have h := unused_inv (u := ⟨false, false, false, false⟩) (f := 2) rfl h
        simp only [tryF, Option.some.injEq, Prod.mk.injEq] at h
        obtain ⟨rfl, rfl, rfl⟩ := h
        refine ⟨good_intro _ ⟨(by show (0 : Int) ≤ (op : Int); omega), (by show (op : Int) ≤ 255; omega), (by show (0 : Int) ≤ (0 : Int); omega), (by show (0 : Int) ≤ 255; omega), (by show (0 : Int) ≤ (0 : Int); omega), (by show (0 : Int) ≤ 255; omega), (by show (-32768 : Int) ≤ (0 : Int); omega), (by show (0 : Int) ≤ 32767; omega), (by show (-2147483648 : Int) ≤ (0 : Int); omega), (by show (0 : Int) ≤ 2147483647; omega)⟩ hk (fun _ => rfl) (by show (0 : Int) ≤ 10; omega) (by show (0 : Int) ≤ 10; omega) (fun _ => rfl) (fun _ => rfl) (fun _ => rfl) (fun hh => absurd hh hsp), rfl, ?_, ?_, ?_⟩
        · rw [hf]; simp [printF, regT]
        · intro hh; exact absurd hh h24
        · intro hh; exact absurd (hh.symm) hsp
      · have hrg : regB op = true := by rw [if_pos (by rw [hf]; decide)] at hr; exact Option.some.inj hr
        rw [us_of hu, ho] at h
        obtain ⟨x0, g0, p0, rfl, e0, h⟩ := used_inv (u := ⟨true, true, true, false⟩) (f := 0) rfl h
        obtain ⟨v0, b0, rfl, rfl⟩ := fld0_inv e0
        obtain ⟨x1, g1, p1, rfl, e1, h⟩ := used_inv (u := ⟨true, true, true, false⟩) (f := 1) rfl h
        obtain ⟨v1, b1, rfl, rfl⟩ := fld1_inv e1
        have h := unused_inv (u := ⟨true, true, true, false⟩) (f := 3) rfl h
        obtain ⟨x2, g2, p2, rfl, e2, h⟩ := used_inv (u := ⟨true, true, true, false⟩) (f := 2) rfl h
        obtain ⟨v2, b2, c2, rfl, rfl⟩ := fld2_inv e2
        simp only [tryF, Option.some.injEq, Prod.mk.injEq] at h
        obtain ⟨rfl, rfl, rfl⟩ := h
        refine ⟨good_intro _ ⟨(by show (0 : Int) ≤ (op : Int); omega), (by show (op : Int) ≤ 255; omega), (by show (0 : Int) ≤ (v0 : Int); omega), (by show (v0 : Int) ≤ 255; omega), (by show (0 : Int) ≤ (v1 : Int); omega), (by show (v1 : Int) ≤ 255; omega), (by show (-32768 : Int) ≤ v2; omega), (by show v2 ≤ 32767; omega), (by show (-2147483648 : Int) ≤ (0 : Int); omega), (by show (0 : Int) ≤ 2147483647; omega)⟩ hk (fun hh => absurd (by show 0 ∈ fieldsP (op : Int); rw [hf]; decide) hh) (by show (v0 : Int) ≤ 10; omega) (by show (v1 : Int) ≤ 10; omega) (fun hh => absurd (Or.inr (Or.inl ⟨(by show 2 ∈ fieldsP (op : Int); rw [hf]; decide), hrg⟩)) hh) (fun hh => absurd (by show 3 ∈ fieldsP (op : Int); rw [hf]; decide) hh) (fun _ => rfl) (fun hh => absurd hh hsp), rfl, ?_, ?_, ?_⟩
        · rw [hf]; simp [printF, regT, hrg]
        · intro hh; exact absurd hh h24
        · intro hh; exact absurd (hh.symm) hsp
      · have hrg : regB op = false := by rw [if_pos (by rw [hf]; decide)] at hr; exact Option.some.inj hr
        rw [us_of hu, ho] at h
        obtain ⟨x0, g0, p0, rfl, e0, h⟩ := used_inv (u := ⟨true, false, true, true⟩) (f := 0) rfl h
        obtain ⟨v0, b0, rfl, rfl⟩ := fld0_inv e0
        have h := unused_inv (u := ⟨true, false, true, true⟩) (f := 1) rfl h
        obtain ⟨x3, g3, p3, rfl, e3, h⟩ := used_inv (u := ⟨true, false, true, true⟩) (f := 3) rfl h
        obtain ⟨v3, b3, c3, rfl, rfl⟩ := fld3_inv h24 e3
        obtain ⟨x2, g2, p2, rfl, e2, h⟩ := used_inv (u := ⟨true, false, true, true⟩) (f := 2) rfl h
        obtain ⟨v2, b2, c2, rfl, rfl⟩ := fld2_inv e2
        simp only [tryF, Option.some.injEq, Prod.mk.injEq] at h
        obtain ⟨rfl, rfl, rfl⟩ := h
        refine ⟨good_intro _ ⟨(by show (0 : Int) ≤ (op : Int); omega), (by show (op : Int) ≤ 255; omega), (by show (0 : Int) ≤ (v0 : Int); omega), (by show (v0 : Int) ≤ 255; omega), (by show (0 : Int) ≤ (0 : Int); omega), (by show (0 : Int) ≤ 255; omega), (by show (-32768 : Int) ≤ v2; omega), (by show v2 ≤ 32767; omega), (by show (-2147483648 : Int) ≤ v3; omega), (by show v3 ≤ 2147483647; omega)⟩ hk (fun hh => absurd (by show 0 ∈ fieldsP (op : Int); rw [hf]; decide) hh) (by show (v0 : Int) ≤ 10; omega) (by show (0 : Int) ≤ 10; omega) (fun _ => rfl) (fun hh => absurd (by show 3 ∈ fieldsP (op : Int); rw [hf]; decide) hh) (fun hh => absurd (Or.inr (Or.inr ⟨(by show 2 ∈ fieldsP (op : Int); rw [hf]; decide), hrg⟩)) hh) (fun hh => absurd hh hsp), rfl, ?_, ?_, ?_⟩
        · rw [hf]; simp [printF, regT, hrg]
        · intro hh; exact absurd hh h24
        · intro hh; exact absurd (hh.symm) hsp
end Go.Proofs.YthlfnmjefpdjgaaGreatDoor
