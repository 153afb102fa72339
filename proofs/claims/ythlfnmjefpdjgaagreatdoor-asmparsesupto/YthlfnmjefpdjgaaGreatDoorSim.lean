/-
  What a line's words are read as, try finds.
-/
import Derived.Test.YthlfnmjefpdjgaaGreatDoorTryB2
import Derived.Test.YthlfnmjefpdjgaaGreatDoorNameB
namespace Go.Proofs.YthlfnmjefpdjgaaGreatDoor
open Go.RowKit

theorem reg_hd {ws : List Bs} {v : Nat} (h : regP (hd ws) = some v) : ws = hd ws :: tl ws := by
  cases ws with
  | nil =>
    obtain ⟨h1, _⟩ := (regP_iff _ _).1 h
    cases h1
  | cons x r => rfl
theorem itoa_ne (v : Int) : Lib.itoa v ≠ [] := (itoa_chars v).1
theorem sgn_hd {B : Nat} (hB : B ≤ 64) (hB1 : 1 ≤ B) {ws : List Bs} {v : Int} (h : sgnP B (hd ws) = some v) : ws = hd ws :: tl ws := by
  cases ws with
  | nil =>
    obtain ⟨h1, _⟩ := (sgnP_iff B hB hB1 _ _).1 h
    exact absurd h1.symm (itoa_ne v)
  | cons x r => rfl
theorem nat_hd {ws : List Bs} {v : Nat} (h : natP (hd ws) = some v) : ws = hd ws :: tl ws := by
  cases ws with
  | nil =>
    obtain ⟨h1, _⟩ := (natP_iff _ _).1 h
    exact absurd h1.symm (decDigits_ne v)
  | cons x r => rfl
theorem tryP_of (op src : Nat) (hop : op ≤ 255) (hk : knownB op = true) (hsrc : src ≤ 1) (name : Bs) (fs : List Bs) (i nx : In) (h : tryF op (usOf op) (ordOf op) fs (inOf op src) In.zero = some (i, nx, [])) (hn : nameOfP i = name) : tryP op src name fs = some (if (op : Int) = 24 then [i, nx] else [i]) := by
  obtain ⟨hg, hiop, hfs, _, _⟩ := tryF_good op src hop hk hsrc fs i nx h
  have hw := words_line i nx hg
  unfold tryP
  rw [h]
  simp only
  rw [if_pos]
  rw [hw, hn, hiop]
  refine ⟨?_, rfl⟩
  rw [hfs]
  simp
theorem us_013 (n : Nat) (hn : n ≤ 255) (hk : knownB n = true) (h24 : ¬ (n : Int) = 24) (h133 : ¬ (n : Int) = 133) (hf : fieldsP n = [0, 1, 3]) : usOf n = ⟨true, true, true, false⟩ ∧ ordOf n = [0, 1, 3, 2] := by
  have htab := tab_all ⟨n, by omega⟩ hk
  simp only [tabOk] at htab
  rw [if_neg h24, if_neg h133] at htab
  have ht := List.contains_iff_mem.1 htab
  simp [tabL, tabT, hf] at ht
  exact ⟨us_of ht.1, ht.2⟩
theorem us_034 (n : Nat) (hn : n ≤ 255) (hk : knownB n = true) (h24 : ¬ (n : Int) = 24) (h133 : ¬ (n : Int) = 133) (hf : fieldsP n = [0, 3, 4]) : usOf n = ⟨true, false, true, true⟩ ∧ ordOf n = [0, 2, 1, 3] := by
  have htab := tab_all ⟨n, by omega⟩ hk
  simp only [tabOk] at htab
  rw [if_neg h24, if_neg h133] at htab
  have ht := List.contains_iff_mem.1 htab
  simp [tabL, tabT, hf] at ht
  exact ⟨us_of ht.1, ht.2⟩
theorem us_031 (n : Nat) (hn : n ≤ 255) (hk : knownB n = true) (h24 : ¬ (n : Int) = 24) (h133 : ¬ (n : Int) = 133) (hf : fieldsP n = [0, 3, 1]) : usOf n = ⟨true, true, true, false⟩ ∧ ordOf n = [0, 2, 1, 3] := by
  have htab := tab_all ⟨n, by omega⟩ hk
  simp only [tabOk] at htab
  rw [if_neg h24, if_neg h133] at htab
  have ht := List.contains_iff_mem.1 htab
  simp [tabL, tabT, hf] at ht
  exact ⟨us_of ht.1, ht.2⟩
theorem us_0 (n : Nat) (hn : n ≤ 255) (hk : knownB n = true) (h24 : ¬ (n : Int) = 24) (h133 : ¬ (n : Int) = 133) (hf : fieldsP n = [0]) : usOf n = ⟨true, false, false, false⟩ ∧ ordOf n = [0, 1, 3, 2] := by
  have htab := tab_all ⟨n, by omega⟩ hk
  simp only [tabOk] at htab
  rw [if_neg h24, if_neg h133] at htab
  have ht := List.contains_iff_mem.1 htab
  simp [tabL, tabT, hf] at ht
  exact ⟨us_of ht.1, ht.2⟩
theorem us_3 (n : Nat) (hn : n ≤ 255) (hk : knownB n = true) (h24 : ¬ (n : Int) = 24) (h133 : ¬ (n : Int) = 133) (hf : fieldsP n = [3]) : usOf n = ⟨false, false, true, false⟩ ∧ ordOf n = [0, 1, 3, 2] := by
  have htab := tab_all ⟨n, by omega⟩ hk
  simp only [tabOk] at htab
  rw [if_neg h24, if_neg h133] at htab
  have ht := List.contains_iff_mem.1 htab
  simp [tabL, tabT, hf] at ht
  exact ⟨us_of ht.1, ht.2⟩
theorem us_E (n : Nat) (hn : n ≤ 255) (hk : knownB n = true) (h24 : ¬ (n : Int) = 24) (h133 : ¬ (n : Int) = 133) (hf : fieldsP n = []) : usOf n = ⟨false, false, false, false⟩ ∧ ordOf n = [0, 1, 3, 2] := by
  have htab := tab_all ⟨n, by omega⟩ hk
  simp only [tabOk] at htab
  rw [if_neg h24, if_neg h133] at htab
  have ht := List.contains_iff_mem.1 htab
  simp [tabL, tabT, hf] at ht
  exact ⟨us_of ht.1, ht.2⟩
theorem us_02r (n : Nat) (hn : n ≤ 255) (hk : knownB n = true) (h24 : ¬ (n : Int) = 24) (h133 : ¬ (n : Int) = 133) (hf : fieldsP n = [0, 2]) (hr : regB n = true) : usOf n = ⟨true, true, false, false⟩ ∧ ordOf n = [0, 1, 3, 2] := by
  have htab := tab_all ⟨n, by omega⟩ hk
  simp only [tabOk] at htab
  rw [if_neg h24, if_neg h133] at htab
  have ht := List.contains_iff_mem.1 htab
  simp [tabL, tabT, hf, hr] at ht
  exact ⟨us_of ht.1, ht.2⟩
theorem us_02i (n : Nat) (hn : n ≤ 255) (hk : knownB n = true) (h24 : ¬ (n : Int) = 24) (h133 : ¬ (n : Int) = 133) (hf : fieldsP n = [0, 2]) (hr : regB n = false) : usOf n = ⟨true, false, false, true⟩ ∧ ordOf n = [0, 1, 3, 2] := by
  have htab := tab_all ⟨n, by omega⟩ hk
  simp only [tabOk] at htab
  rw [if_neg h24, if_neg h133] at htab
  have ht := List.contains_iff_mem.1 htab
  simp [tabL, tabT, hf, hr] at ht
  exact ⟨us_of ht.1, ht.2⟩
theorem us_023r (n : Nat) (hn : n ≤ 255) (hk : knownB n = true) (h24 : ¬ (n : Int) = 24) (h133 : ¬ (n : Int) = 133) (hf : fieldsP n = [0, 2, 3]) (hr : regB n = true) : usOf n = ⟨true, true, true, false⟩ ∧ ordOf n = [0, 1, 3, 2] := by
  have htab := tab_all ⟨n, by omega⟩ hk
  simp only [tabOk] at htab
  rw [if_neg h24, if_neg h133] at htab
  have ht := List.contains_iff_mem.1 htab
  simp [tabL, tabT, hf, hr] at ht
  exact ⟨us_of ht.1, ht.2⟩
theorem us_023i (n : Nat) (hn : n ≤ 255) (hk : knownB n = true) (h24 : ¬ (n : Int) = 24) (h133 : ¬ (n : Int) = 133) (hf : fieldsP n = [0, 2, 3]) (hr : regB n = false) : usOf n = ⟨true, false, true, true⟩ ∧ ordOf n = [0, 1, 3, 2] := by
  have htab := tab_all ⟨n, by omega⟩ hk
  simp only [tabOk] at htab
  rw [if_neg h24, if_neg h133] at htab
  have ht := List.contains_iff_mem.1 htab
  simp [tabL, tabT, hf, hr] at ht
  exact ⟨us_of ht.1, ht.2⟩
/-- A name, and the words behind it: what they are read as, try finds. -/
theorem sim_all (j : In) (q : NameOk j) (n : Nat) (hn : j.op = n) (hn1 : n ≤ 255) (name : Bs) (hnm : nameP name = some j) (rest : List Bs) (hb : (runL (fieldsP j.op) ⟨[j], rest, false⟩).bad = false) (hws : (runL (fieldsP j.op) ⟨[j], rest, false⟩).ws = []) :
    ∃ op src : Nat, op ≤ 255 ∧ knownB op = true ∧ src ≤ 1 ∧ tryP op src name rest = some (runL (fieldsP j.op) ⟨[j], rest, false⟩).L := by
  obtain ⟨op, dst, src, off, imm⟩ := j
  obtain ⟨rfl, rfl, rfl, hk, hopb, s0, s1, hsrc⟩ := q
  simp only at hk hopb s0 s1 hsrc hb hws hn ⊢
  subst hn
  have sh := shapes_all ⟨n, by omega⟩ hk
  have tb := tab_all ⟨n, by omega⟩ hk
  have oK := orR_known ⟨n, by omega⟩ hk
  have nR := noreg_all ⟨n, by omega⟩ hk
  simp only at sh oK nR tb
  obtain ⟨-, s2, -, -, s5⟩ := sh
  rcases s2 with ⟨hx, hf⟩ | ⟨hx, hf⟩ | ⟨hx, hf⟩
  · obtain rfl : n = 24 := by omega
    rw [hf] at hb hws ⊢
    obtain ⟨s, rfl⟩ := Int.eq_ofNat_of_zero_le s0
    cases h0 : regP (hd rest) with
    | none => simp [runL, stepL, stepB, h0] at hb
    | some v0 =>
      cases h1 : natP (hd (tl rest)) with
      | none => simp [runL, stepL, stepB, h0, h1] at hb
      | some v1 =>
        have hv1 := ((natP_iff _ _).1 h1).2
        have e : (runL [0, 5] ⟨[⟨((24 : Nat) : Int), 0, (s : Int), 0, 0⟩], rest, false⟩).L = [⟨((24 : Nat) : Int), (v0 : Int), (s : Int), 0, wrap32 ((v1 : Int) % 4294967296)⟩, ⟨0, 0, 0, 0, wrap32 ((v1 : Int) / 4294967296)⟩] := by
          have hmod : (v1 : Int) / 4294967296 % 4294967296 = (v1 : Int) / 4294967296 := by omega
          simp [runL, stepL, stepI, h0, h1, splitOf, hmod]
        rw [e]
        have hz : tl (tl rest) = [] := by simpa [runL, stepL] using hws
        have er : rest = [hd rest, hd (tl rest)] := by
          have t0 := reg_hd h0
          have t1 := nat_hd h1
          rw [hz] at t1
          exact t0.trans (congrArg (hd rest :: ·) t1)
        generalize hx0 : hd rest = x0 at *
        generalize hx1 : hd (tl rest) = x1 at *
        rw [er]
        have hu : usOf 24 = ⟨true, false, false, true⟩ := us_of (by decide +kernel)
        have ho : ordOf 24 = [0, 1, 3, 2] := by decide +kernel
        refine ⟨24, s, by omega, hk, by omega, ?_⟩
        have ht : tryF (24 : Nat) (usOf (24 : Nat)) (ordOf (24 : Nat)) [x0, x1] (inOf (24 : Nat) s) In.zero = some (⟨((24 : Nat) : Int), (v0 : Int), (s : Int), 0, wrap32 ((v1 : Int) % 4294967296)⟩, ⟨0, 0, 0, 0, wrap32 ((v1 : Int) / 4294967296)⟩, []) := by
          show tryF 24 (usOf 24) (ordOf 24) [x0, x1] (inOf 24 s) In.zero = _
          rw [hu, ho]
          simp [tryF, useB, fldV, inOf, h0, h1, In.zero]
        have hnb : nameOfP ⟨((24 : Nat) : Int), (v0 : Int), (s : Int), 0, wrap32 ((v1 : Int) % 4294967296)⟩ = name := nameP_back hnm _ rfl rfl (fun _ => rfl) Iff.rfl (fun _ => rfl)
        rw [tryP_of 24 s (by omega) hk (by omega) name _ _ _ ht hnb, if_pos (by decide)]
  · have hz0 := hsrc hx
    subst hz0
    have h24 : ¬ (n : Int) = 24 := fun h => hx (Or.inl h)
    have h133 : ¬ (n : Int) = 133 := fun h => hx (Or.inr h)
    rcases hf with hf | hf | hf | hf | hf | hf | hf | hf
    · rw [hf] at hb hws ⊢
      cases h0 : regP (hd rest) with
      | none => simp [runL, stepL, stepB, h0] at hb
      | some v0 =>
        cases h1 : regP (hd (tl rest)) with
        | none => simp [runL, stepL, stepB, h0, h1] at hb
        | some v1 =>
          cases h2 : sgnP 16 (hd (tl (tl rest))) with
          | none => simp [runL, stepL, stepB, h0, h1, h2] at hb
          | some v2 =>
            have e : (runL [0, 1, 3] ⟨[⟨(n : Int), 0, 0, 0, 0⟩], rest, false⟩).L = [⟨(n : Int), (v0 : Int), (v1 : Int), v2, 0⟩] := by simp [runL, stepL, stepI, h0, h1, h2]
            rw [e]
            have hz : (tl (tl (tl rest))) = [] := by simpa [runL, stepL] using hws
            have er : rest = [hd rest, hd (tl rest), hd (tl (tl rest))] := by
              have t0 := reg_hd h0
              have t1 := reg_hd h1
              have t2 := sgn_hd (by omega) (by omega) h2
              rw [hz] at t2
              exact t0.trans (congrArg (hd rest :: ·) (t1.trans (congrArg (hd (tl rest) :: ·) (t2))))
            generalize hx0 : hd rest = x0 at *
            generalize hx1 : hd (tl rest) = x1 at *
            generalize hx2 : hd (tl (tl rest)) = x2 at *
            rw [er]
            obtain ⟨hu, ho⟩ := us_013 n hn1 hk h24 h133 hf
            refine ⟨n, 0, by omega, hk, by omega, ?_⟩
            have ht : tryF n (usOf n) (ordOf n) [x0, x1, x2] (inOf n (0 : Nat)) In.zero = some (⟨(n : Int), (v0 : Int), (v1 : Int), v2, 0⟩, In.zero, []) := by
              have k24 : ¬ (n : Int) = 24 := h24
              have k133 : ¬ (n : Int) = 133 := h133
              rw [hu, ho]
              simp [tryF, useB, fldV, inOf, k24, k133, h0, h1, h2]
            have hnb : nameOfP ⟨(n : Int), (v0 : Int), (v1 : Int), v2, 0⟩ = name := nameP_back hnm _ (by show (n : Int) % 8 = (n : Int) % 8; rfl) (by show (n : Int) / 16 = (n : Int) / 16; rfl) (by intro hle; rfl) (by show (n : Int) = 133 ↔ (n : Int) = 133; exact ⟨fun h => absurd h h133, fun h => absurd h h133⟩) (fun h => absurd h (fun h => h.elim h24 h133))
            rw [tryP_of n 0 (by omega) hk (by omega) name _ _ _ ht hnb, if_neg h24]
    · rw [hf] at hb hws ⊢
      cases h0 : regP (hd rest) with
      | none => simp [runL, stepL, stepB, h0] at hb
      | some v0 =>
        cases h1 : sgnP 16 (hd (tl rest)) with
        | none => simp [runL, stepL, stepB, h0, h1] at hb
        | some v1 =>
          cases h2 : sgnP 32 (hd (tl (tl rest))) with
          | none => simp [runL, stepL, stepB, h0, h1, h2] at hb
          | some v2 =>
            have e : (runL [0, 3, 4] ⟨[⟨(n : Int), 0, 0, 0, 0⟩], rest, false⟩).L = [⟨(n : Int), (v0 : Int), 0, v1, v2⟩] := by simp [runL, stepL, stepI, h0, h1, h2]
            rw [e]
            have hz : (tl (tl (tl rest))) = [] := by simpa [runL, stepL] using hws
            have er : rest = [hd rest, hd (tl rest), hd (tl (tl rest))] := by
              have t0 := reg_hd h0
              have t1 := sgn_hd (by omega) (by omega) h1
              have t2 := sgn_hd (by omega) (by omega) h2
              rw [hz] at t2
              exact t0.trans (congrArg (hd rest :: ·) (t1.trans (congrArg (hd (tl rest) :: ·) (t2))))
            generalize hx0 : hd rest = x0 at *
            generalize hx1 : hd (tl rest) = x1 at *
            generalize hx2 : hd (tl (tl rest)) = x2 at *
            rw [er]
            obtain ⟨hu, ho⟩ := us_034 n hn1 hk h24 h133 hf
            refine ⟨n, 0, by omega, hk, by omega, ?_⟩
            have ht : tryF n (usOf n) (ordOf n) [x0, x1, x2] (inOf n (0 : Nat)) In.zero = some (⟨(n : Int), (v0 : Int), 0, v1, v2⟩, In.zero, []) := by
              have k24 : ¬ (n : Int) = 24 := h24
              have k133 : ¬ (n : Int) = 133 := h133
              rw [hu, ho]
              simp [tryF, useB, fldV, inOf, k24, k133, h0, h1, h2]
            have hnb : nameOfP ⟨(n : Int), (v0 : Int), 0, v1, v2⟩ = name := nameP_back hnm _ (by show (n : Int) % 8 = (n : Int) % 8; rfl) (by show (n : Int) / 16 = (n : Int) / 16; rfl) (by intro hle; rfl) (by show (n : Int) = 133 ↔ (n : Int) = 133; exact ⟨fun h => absurd h h133, fun h => absurd h h133⟩) (fun h => absurd h (fun h => h.elim h24 h133))
            rw [tryP_of n 0 (by omega) hk (by omega) name _ _ _ ht hnb, if_neg h24]
    · rw [hf] at hb hws ⊢
      cases h0 : regP (hd rest) with
      | none => simp [runL, stepL, stepB, h0] at hb
      | some v0 =>
        cases h1 : sgnP 16 (hd (tl rest)) with
        | none => simp [runL, stepL, stepB, h0, h1] at hb
        | some v1 =>
          cases h2 : regP (hd (tl (tl rest))) with
          | none => simp [runL, stepL, stepB, h0, h1, h2] at hb
          | some v2 =>
            have e : (runL [0, 3, 1] ⟨[⟨(n : Int), 0, 0, 0, 0⟩], rest, false⟩).L = [⟨(n : Int), (v0 : Int), (v2 : Int), v1, 0⟩] := by simp [runL, stepL, stepI, h0, h1, h2]
            rw [e]
            have hz : (tl (tl (tl rest))) = [] := by simpa [runL, stepL] using hws
            have er : rest = [hd rest, hd (tl rest), hd (tl (tl rest))] := by
              have t0 := reg_hd h0
              have t1 := sgn_hd (by omega) (by omega) h1
              have t2 := reg_hd h2
              rw [hz] at t2
              exact t0.trans (congrArg (hd rest :: ·) (t1.trans (congrArg (hd (tl rest) :: ·) (t2))))
            generalize hx0 : hd rest = x0 at *
            generalize hx1 : hd (tl rest) = x1 at *
            generalize hx2 : hd (tl (tl rest)) = x2 at *
            rw [er]
            obtain ⟨hu, ho⟩ := us_031 n hn1 hk h24 h133 hf
            refine ⟨n, 0, by omega, hk, by omega, ?_⟩
            have ht : tryF n (usOf n) (ordOf n) [x0, x1, x2] (inOf n (0 : Nat)) In.zero = some (⟨(n : Int), (v0 : Int), (v2 : Int), v1, 0⟩, In.zero, []) := by
              have k24 : ¬ (n : Int) = 24 := h24
              have k133 : ¬ (n : Int) = 133 := h133
              rw [hu, ho]
              simp [tryF, useB, fldV, inOf, k24, k133, h0, h1, h2]
            have hnb : nameOfP ⟨(n : Int), (v0 : Int), (v2 : Int), v1, 0⟩ = name := nameP_back hnm _ (by show (n : Int) % 8 = (n : Int) % 8; rfl) (by show (n : Int) / 16 = (n : Int) / 16; rfl) (by intro hle; rfl) (by show (n : Int) = 133 ↔ (n : Int) = 133; exact ⟨fun h => absurd h h133, fun h => absurd h h133⟩) (fun h => absurd h (fun h => h.elim h24 h133))
            rw [tryP_of n 0 (by omega) hk (by omega) name _ _ _ ht hnb, if_neg h24]
    · rw [hf] at hb hws ⊢
      cases h0 : regP (hd rest) with
      | none => simp [runL, stepL, stepB, h0] at hb
      | some v0 =>
        have e : (runL [0] ⟨[⟨(n : Int), 0, 0, 0, 0⟩], rest, false⟩).L = [⟨(n : Int), (v0 : Int), 0, 0, 0⟩] := by simp [runL, stepL, stepI, h0]
        rw [e]
        have hz : (tl rest) = [] := by simpa [runL, stepL] using hws
        have er : rest = [hd rest] := by
          have t0 := reg_hd h0
          rw [hz] at t0
          exact t0
        generalize hx0 : hd rest = x0 at *
        rw [er]
        obtain ⟨hu, ho⟩ := us_0 n hn1 hk h24 h133 hf
        refine ⟨n, 0, by omega, hk, by omega, ?_⟩
        have ht : tryF n (usOf n) (ordOf n) [x0] (inOf n (0 : Nat)) In.zero = some (⟨(n : Int), (v0 : Int), 0, 0, 0⟩, In.zero, []) := by
          have k24 : ¬ (n : Int) = 24 := h24
          have k133 : ¬ (n : Int) = 133 := h133
          rw [hu, ho]
          simp [tryF, useB, fldV, inOf, k24, k133, h0]
        have hnb : nameOfP ⟨(n : Int), (v0 : Int), 0, 0, 0⟩ = name := nameP_back hnm _ (by show (n : Int) % 8 = (n : Int) % 8; rfl) (by show (n : Int) / 16 = (n : Int) / 16; rfl) (by intro hle; rfl) (by show (n : Int) = 133 ↔ (n : Int) = 133; exact ⟨fun h => absurd h h133, fun h => absurd h h133⟩) (fun h => absurd h (fun h => h.elim h24 h133))
        rw [tryP_of n 0 (by omega) hk (by omega) name _ _ _ ht hnb, if_neg h24]
    · rw [hf] at hb hws ⊢
      cases h0 : sgnP 16 (hd rest) with
      | none => simp [runL, stepL, stepB, h0] at hb
      | some v0 =>
        have e : (runL [3] ⟨[⟨(n : Int), 0, 0, 0, 0⟩], rest, false⟩).L = [⟨(n : Int), 0, 0, v0, 0⟩] := by simp [runL, stepL, stepI, h0]
        rw [e]
        have hz : (tl rest) = [] := by simpa [runL, stepL] using hws
        have er : rest = [hd rest] := by
          have t0 := sgn_hd (by omega) (by omega) h0
          rw [hz] at t0
          exact t0
        generalize hx0 : hd rest = x0 at *
        rw [er]
        obtain ⟨hu, ho⟩ := us_3 n hn1 hk h24 h133 hf
        refine ⟨n, 0, by omega, hk, by omega, ?_⟩
        have ht : tryF n (usOf n) (ordOf n) [x0] (inOf n (0 : Nat)) In.zero = some (⟨(n : Int), 0, 0, v0, 0⟩, In.zero, []) := by
          have k24 : ¬ (n : Int) = 24 := h24
          have k133 : ¬ (n : Int) = 133 := h133
          rw [hu, ho]
          simp [tryF, useB, fldV, inOf, k24, k133, h0]
        have hnb : nameOfP ⟨(n : Int), 0, 0, v0, 0⟩ = name := nameP_back hnm _ (by show (n : Int) % 8 = (n : Int) % 8; rfl) (by show (n : Int) / 16 = (n : Int) / 16; rfl) (by intro hle; rfl) (by show (n : Int) = 133 ↔ (n : Int) = 133; exact ⟨fun h => absurd h h133, fun h => absurd h h133⟩) (fun h => absurd h (fun h => h.elim h24 h133))
        rw [tryP_of n 0 (by omega) hk (by omega) name _ _ _ ht hnb, if_neg h24]
    · rw [hf] at hb hws ⊢
      have e : (runL [] ⟨[⟨(n : Int), 0, 0, 0, 0⟩], rest, false⟩).L = [⟨(n : Int), 0, 0, 0, 0⟩] := by simp [runL]
      rw [e]
      have hz : rest = [] := by simpa [runL] using hws
      have er : rest = [] := hz
      rw [er]
      obtain ⟨hu, ho⟩ := us_E n hn1 hk h24 h133 hf
      refine ⟨n, 0, by omega, hk, by omega, ?_⟩
      have ht : tryF n (usOf n) (ordOf n) [] (inOf n (0 : Nat)) In.zero = some (⟨(n : Int), 0, 0, 0, 0⟩, In.zero, []) := by
        have k24 : ¬ (n : Int) = 24 := h24
        have k133 : ¬ (n : Int) = 133 := h133
        rw [hu, ho]
        simp [tryF, useB, inOf, k24, k133]
      have hnb : nameOfP ⟨(n : Int), 0, 0, 0, 0⟩ = name := nameP_back hnm _ (by show (n : Int) % 8 = (n : Int) % 8; rfl) (by show (n : Int) / 16 = (n : Int) / 16; rfl) (by intro hle; rfl) (by show (n : Int) = 133 ↔ (n : Int) = 133; exact ⟨fun h => absurd h h133, fun h => absurd h h133⟩) (fun h => absurd h (fun h => h.elim h24 h133))
      rw [tryP_of n 0 (by omega) hk (by omega) name _ _ _ ht hnb, if_neg h24]
    · obtain ⟨oR1, oR2, oR3, oR4, -, oR5, oR0⟩ := oK (by rw [hf]; decide) hopb
      have hrg : regB n = false := nR (by rw [hf]; decide) hopb
      have hcl : ¬ (n : Int) % 8 ≤ 3 := by
        intro hle
        have h4 : (n : Int) % 8 = 0 ∨ (n : Int) % 8 = 1 ∨ (n : Int) % 8 = 2 ∨ (n : Int) % 8 = 3 := by omega
        rcases h4 with h | h | h | h <;> simp [fieldsP, h] at hf
      by_cases hp : Lib.hasPrefix (hd (tl rest)) [114] = true
      · rw [hf] at hb hws ⊢
        cases h0 : regP (hd rest) with
        | none => simp [runL, stepL, stepB, h0] at hb
        | some v0 =>
          cases h1 : regP (hd (tl rest)) with
          | none => simp [runL, stepL, stepB, h0, h1, hp] at hb
          | some v1 =>
            have e : (runL [0, 2] ⟨[⟨(n : Int), 0, 0, 0, 0⟩], rest, false⟩).L = [⟨orR (n : Int), (v0 : Int), (v1 : Int), 0, 0⟩] := by simp [runL, stepL, stepI, h0, h1, hp]
            rw [e]
            have hz : (tl (tl rest)) = [] := by simpa [runL, stepL] using hws
            have er : rest = [hd rest, hd (tl rest)] := by
              have t0 := reg_hd h0
              have t1 := reg_hd h1
              rw [hz] at t1
              exact t0.trans (congrArg (hd rest :: ·) (t1))
            generalize hx0 : hd rest = x0 at *
            generalize hx1 : hd (tl rest) = x1 at *
            rw [er]
            obtain ⟨m, hm⟩ : ∃ m : Nat, orR (n : Int) = m := ⟨(orR (n : Int)).toNat, by omega⟩
            have hmm : (m : Int) % 8 = (n : Int) % 8 ∧ (m : Int) / 16 = (n : Int) / 16 := by rw [← hm]; unfold orR; split <;> omega
            rw [hm] at oR1 oR2 oR3 oR4 oR5
            obtain ⟨hu, ho⟩ := us_02r m (by omega) oR1 (fun h => oR4 (Or.inl h)) (fun h => oR4 (Or.inr h)) (oR2.trans hf) oR3
            refine ⟨m, 0, by omega, oR1, by omega, ?_⟩
            have ht : tryF m (usOf m) (ordOf m) [x0, x1] (inOf m (0 : Nat)) In.zero = some (⟨(m : Int), (v0 : Int), (v1 : Int), 0, 0⟩, In.zero, []) := by
              have k24 : ¬ (m : Int) = 24 := (fun h => oR4 (Or.inl h))
              have k133 : ¬ (m : Int) = 133 := (fun h => oR4 (Or.inr h))
              rw [hu, ho]
              simp [tryF, useB, fldV, inOf, k24, k133, h0, h1]
            have hnb : nameOfP ⟨(m : Int), (v0 : Int), (v1 : Int), 0, 0⟩ = name := nameP_back hnm _ (by show (m : Int) % 8 = (n : Int) % 8; exact hmm.1) (by show (m : Int) / 16 = (n : Int) / 16; exact hmm.2) (by intro hle; exact absurd hle hcl) (by show (m : Int) = 133 ↔ (n : Int) = 133; exact ⟨fun h => absurd h (fun h => oR4 (Or.inr h)), fun h => absurd h h133⟩) (fun h => absurd h (fun h => h.elim h24 h133))
            rw [hm]
            rw [tryP_of m 0 (by omega) oR1 (by omega) name _ _ _ ht hnb, if_neg (fun h => oR4 (Or.inl h))]
      · rw [hf] at hb hws ⊢
        cases h0 : regP (hd rest) with
        | none => simp [runL, stepL, stepB, h0] at hb
        | some v0 =>
          cases h1 : sgnP 32 (hd (tl rest)) with
          | none => simp [runL, stepL, stepB, h0, h1, hp] at hb
          | some v1 =>
            have e : (runL [0, 2] ⟨[⟨(n : Int), 0, 0, 0, 0⟩], rest, false⟩).L = [⟨(n : Int), (v0 : Int), 0, 0, v1⟩] := by simp [runL, stepL, stepI, h0, h1, hp]
            rw [e]
            have hz : (tl (tl rest)) = [] := by simpa [runL, stepL] using hws
            have er : rest = [hd rest, hd (tl rest)] := by
              have t0 := reg_hd h0
              have t1 := sgn_hd (by omega) (by omega) h1
              rw [hz] at t1
              exact t0.trans (congrArg (hd rest :: ·) (t1))
            generalize hx0 : hd rest = x0 at *
            generalize hx1 : hd (tl rest) = x1 at *
            rw [er]
            obtain ⟨hu, ho⟩ := us_02i n hn1 hk h24 h133 hf hrg
            refine ⟨n, 0, by omega, hk, by omega, ?_⟩
            have ht : tryF n (usOf n) (ordOf n) [x0, x1] (inOf n (0 : Nat)) In.zero = some (⟨(n : Int), (v0 : Int), 0, 0, v1⟩, In.zero, []) := by
              have k24 : ¬ (n : Int) = 24 := h24
              have k133 : ¬ (n : Int) = 133 := h133
              rw [hu, ho]
              simp [tryF, useB, fldV, inOf, k24, k133, h0, h1]
            have hnb : nameOfP ⟨(n : Int), (v0 : Int), 0, 0, v1⟩ = name := nameP_back hnm _ (by show (n : Int) % 8 = (n : Int) % 8; rfl) (by show (n : Int) / 16 = (n : Int) / 16; rfl) (by intro hle; rfl) (by show (n : Int) = 133 ↔ (n : Int) = 133; exact ⟨fun h => absurd h h133, fun h => absurd h h133⟩) (fun h => absurd h (fun h => h.elim h24 h133))
            rw [tryP_of n 0 (by omega) hk (by omega) name _ _ _ ht hnb, if_neg h24]
    · obtain ⟨oR1, oR2, oR3, oR4, -, oR5, oR0⟩ := oK (by rw [hf]; decide) hopb
      have hrg : regB n = false := nR (by rw [hf]; decide) hopb
      have hcl : ¬ (n : Int) % 8 ≤ 3 := by
        intro hle
        have h4 : (n : Int) % 8 = 0 ∨ (n : Int) % 8 = 1 ∨ (n : Int) % 8 = 2 ∨ (n : Int) % 8 = 3 := by omega
        rcases h4 with h | h | h | h <;> simp [fieldsP, h] at hf
      by_cases hp : Lib.hasPrefix (hd (tl rest)) [114] = true
      · rw [hf] at hb hws ⊢
        cases h0 : regP (hd rest) with
        | none => simp [runL, stepL, stepB, h0] at hb
        | some v0 =>
          cases h1 : regP (hd (tl rest)) with
          | none => simp [runL, stepL, stepB, h0, h1, hp] at hb
          | some v1 =>
            cases h2 : sgnP 16 (hd (tl (tl rest))) with
            | none => simp [runL, stepL, stepB, h0, h1, h2, hp] at hb
            | some v2 =>
              have e : (runL [0, 2, 3] ⟨[⟨(n : Int), 0, 0, 0, 0⟩], rest, false⟩).L = [⟨orR (n : Int), (v0 : Int), (v1 : Int), v2, 0⟩] := by simp [runL, stepL, stepI, h0, h1, h2, hp]
              rw [e]
              have hz : (tl (tl (tl rest))) = [] := by simpa [runL, stepL] using hws
              have er : rest = [hd rest, hd (tl rest), hd (tl (tl rest))] := by
                have t0 := reg_hd h0
                have t1 := reg_hd h1
                have t2 := sgn_hd (by omega) (by omega) h2
                rw [hz] at t2
                exact t0.trans (congrArg (hd rest :: ·) (t1.trans (congrArg (hd (tl rest) :: ·) (t2))))
              generalize hx0 : hd rest = x0 at *
              generalize hx1 : hd (tl rest) = x1 at *
              generalize hx2 : hd (tl (tl rest)) = x2 at *
              rw [er]
              obtain ⟨m, hm⟩ : ∃ m : Nat, orR (n : Int) = m := ⟨(orR (n : Int)).toNat, by omega⟩
              have hmm : (m : Int) % 8 = (n : Int) % 8 ∧ (m : Int) / 16 = (n : Int) / 16 := by rw [← hm]; unfold orR; split <;> omega
              rw [hm] at oR1 oR2 oR3 oR4 oR5
              obtain ⟨hu, ho⟩ := us_023r m (by omega) oR1 (fun h => oR4 (Or.inl h)) (fun h => oR4 (Or.inr h)) (oR2.trans hf) oR3
              refine ⟨m, 0, by omega, oR1, by omega, ?_⟩
              have ht : tryF m (usOf m) (ordOf m) [x0, x1, x2] (inOf m (0 : Nat)) In.zero = some (⟨(m : Int), (v0 : Int), (v1 : Int), v2, 0⟩, In.zero, []) := by
                have k24 : ¬ (m : Int) = 24 := (fun h => oR4 (Or.inl h))
                have k133 : ¬ (m : Int) = 133 := (fun h => oR4 (Or.inr h))
                rw [hu, ho]
                simp [tryF, useB, fldV, inOf, k24, k133, h0, h1, h2]
              have hnb : nameOfP ⟨(m : Int), (v0 : Int), (v1 : Int), v2, 0⟩ = name := nameP_back hnm _ (by show (m : Int) % 8 = (n : Int) % 8; exact hmm.1) (by show (m : Int) / 16 = (n : Int) / 16; exact hmm.2) (by intro hle; exact absurd hle hcl) (by show (m : Int) = 133 ↔ (n : Int) = 133; exact ⟨fun h => absurd h (fun h => oR4 (Or.inr h)), fun h => absurd h h133⟩) (fun h => absurd h (fun h => h.elim h24 h133))
              rw [hm]
              rw [tryP_of m 0 (by omega) oR1 (by omega) name _ _ _ ht hnb, if_neg (fun h => oR4 (Or.inl h))]
      · rw [hf] at hb hws ⊢
        cases h0 : regP (hd rest) with
        | none => simp [runL, stepL, stepB, h0] at hb
        | some v0 =>
          cases h1 : sgnP 32 (hd (tl rest)) with
          | none => simp [runL, stepL, stepB, h0, h1, hp] at hb
          | some v1 =>
            cases h2 : sgnP 16 (hd (tl (tl rest))) with
            | none => simp [runL, stepL, stepB, h0, h1, h2, hp] at hb
            | some v2 =>
              have e : (runL [0, 2, 3] ⟨[⟨(n : Int), 0, 0, 0, 0⟩], rest, false⟩).L = [⟨(n : Int), (v0 : Int), 0, v2, v1⟩] := by simp [runL, stepL, stepI, h0, h1, h2, hp]
              rw [e]
              have hz : (tl (tl (tl rest))) = [] := by simpa [runL, stepL] using hws
              have er : rest = [hd rest, hd (tl rest), hd (tl (tl rest))] := by
                have t0 := reg_hd h0
                have t1 := sgn_hd (by omega) (by omega) h1
                have t2 := sgn_hd (by omega) (by omega) h2
                rw [hz] at t2
                exact t0.trans (congrArg (hd rest :: ·) (t1.trans (congrArg (hd (tl rest) :: ·) (t2))))
              generalize hx0 : hd rest = x0 at *
              generalize hx1 : hd (tl rest) = x1 at *
              generalize hx2 : hd (tl (tl rest)) = x2 at *
              rw [er]
              obtain ⟨hu, ho⟩ := us_023i n hn1 hk h24 h133 hf hrg
              refine ⟨n, 0, by omega, hk, by omega, ?_⟩
              have ht : tryF n (usOf n) (ordOf n) [x0, x1, x2] (inOf n (0 : Nat)) In.zero = some (⟨(n : Int), (v0 : Int), 0, v2, v1⟩, In.zero, []) := by
                have k24 : ¬ (n : Int) = 24 := h24
                have k133 : ¬ (n : Int) = 133 := h133
                rw [hu, ho]
                simp [tryF, useB, fldV, inOf, k24, k133, h0, h1, h2]
              have hnb : nameOfP ⟨(n : Int), (v0 : Int), 0, v2, v1⟩ = name := nameP_back hnm _ (by show (n : Int) % 8 = (n : Int) % 8; rfl) (by show (n : Int) / 16 = (n : Int) / 16; rfl) (by intro hle; rfl) (by show (n : Int) = 133 ↔ (n : Int) = 133; exact ⟨fun h => absurd h h133, fun h => absurd h h133⟩) (fun h => absurd h (fun h => h.elim h24 h133))
              rw [tryP_of n 0 (by omega) hk (by omega) name _ _ _ ht hnb, if_neg h24]
  · obtain rfl : n = 133 := by omega
    rw [hf] at hb hws ⊢
    obtain ⟨s, rfl⟩ := Int.eq_ofNat_of_zero_le s0
    cases h0 : sgnP 32 (hd rest) with
    | none => simp [runL, stepL, stepB, h0] at hb
    | some v0 =>
      have e : (runL [4] ⟨[⟨((133 : Nat) : Int), 0, (s : Int), 0, 0⟩], rest, false⟩).L = [⟨((133 : Nat) : Int), 0, (s : Int), 0, v0⟩] := by simp [runL, stepL, stepI, h0]
      rw [e]
      have hz : tl rest = [] := by simpa [runL, stepL] using hws
      have er : rest = [hd rest] := by
        have t0 := sgn_hd (by omega) (by omega) h0
        rw [hz] at t0
        exact t0
      generalize hx0 : hd rest = x0 at *
      rw [er]
      have hu : usOf 133 = ⟨false, false, false, true⟩ := us_of (by decide +kernel)
      have ho : ordOf 133 = [0, 1, 3, 2] := by decide +kernel
      refine ⟨133, s, by omega, hk, by omega, ?_⟩
      have ht : tryF (133 : Nat) (usOf (133 : Nat)) (ordOf (133 : Nat)) [x0] (inOf (133 : Nat) s) In.zero = some (⟨((133 : Nat) : Int), 0, (s : Int), 0, v0⟩, In.zero, []) := by
        show tryF 133 (usOf 133) (ordOf 133) [x0] (inOf 133 s) In.zero = _
        rw [hu, ho]
        simp [tryF, useB, fldV, inOf, h0]
      have hnb : nameOfP ⟨((133 : Nat) : Int), 0, (s : Int), 0, v0⟩ = name := nameP_back hnm _ rfl rfl (fun _ => rfl) Iff.rfl (fun _ => rfl)
      rw [tryP_of 133 s (by omega) hk (by omega) name _ _ _ ht hnb, if_neg (by decide)]
/-- The first operation whose words they are. -/
def findF (name : Bs) (fs : List Bs) : List (Nat × Nat) → Option (List In)
  | [] => none
  | (op, src) :: r => match tryP op src name fs with
    | some L => some L
    | none => findF name fs r
theorem findF_some (name : Bs) (fs : List Bs) : ∀ (l : List (Nat × Nat)) (L : List In), findF name fs l = some L → ∃ op src, (op, src) ∈ l ∧ tryP op src name fs = some L
  | [], L, h => by cases h
  | (op, src) :: r, L, h => by
    unfold findF at h
    split at h
    · rename_i L' hL
      cases h
      exact ⟨op, src, by simp, hL⟩
    · obtain ⟨o', s', h1, h2⟩ := findF_some name fs r L h
      exact ⟨o', s', by simp [h1], h2⟩
theorem findF_none (name : Bs) (fs : List Bs) : ∀ (l : List (Nat × Nat)), findF name fs l = none → ∀ op src, (op, src) ∈ l → tryP op src name fs = none
  | [], _, op, src, h => by cases h
  | (o, s) :: r, h, op, src, hm => by
    unfold findF at h
    split at h
    · cases h
    · rename_i hn
      rcases List.mem_cons.1 hm with e | e
      · cases e
        exact hn
      · exact findF_none name fs r h op src e
/-- All known operations with both sources, in their order. -/
def allOps : List (Nat × Nat) := (List.range 256).flatMap fun op : Nat => if knownB op = true then [(op, 0), (op, 1)] else []
theorem mem_all (op src : Nat) : (op, src) ∈ allOps ↔ op < 256 ∧ knownB op = true ∧ src ≤ 1 := by
  unfold allOps
  simp only [List.mem_flatMap, List.mem_range]
  constructor
  · rintro ⟨o, ho, hm⟩
    split at hm
    · rename_i hk
      simp only [List.mem_cons, Prod.mk.injEq, List.not_mem_nil, or_false] at hm
      rcases hm with ⟨rfl, rfl⟩ | ⟨rfl, rfl⟩
      · exact ⟨ho, hk, by omega⟩
      · exact ⟨ho, hk, by omega⟩
    · cases hm
  · rintro ⟨h1, h2, h3⟩
    refine ⟨op, h1, ?_⟩
    rw [if_pos h2]
    rcases (by omega : src = 0 ∨ src = 1) with rfl | rfl <;> simp
/-- What the reference finds is what the words are read as. -/
theorem find_slots (name : Bs) (fs : List Bs) (hn : name.head? ≠ some 35) : findF name fs allOps = slotsW (name :: fs) := by
  cases hf : findF name fs allOps with
  | some L =>
    obtain ⟨op, src, hm, ht⟩ := findF_some name fs _ L hf
    obtain ⟨h1, h2, h3⟩ := (mem_all op src).1 hm
    exact (tryP_slots op src (by omega) h2 h3 name fs L ht).symm
  | none =>
    have hnone := findF_none name fs _ hf
    rw [slotsW_name name fs hn]
    cases hp : nameP name with
    | none => rfl
    | some j =>
      simp only
      split
      · rfl
      · rename_i hc
        have q := nameP_ok hp
        have hj : 0 ≤ j.op ∧ j.op ≤ 255 := nameP_op hp
        obtain ⟨n, hjn⟩ := Int.eq_ofNat_of_zero_le hj.1
        obtain ⟨op, src, h1, h2, h3, h4⟩ := sim_all j q n hjn (by omega) name hp fs (by
          cases hb : (runL (fieldsP j.op) ⟨[j], fs, false⟩).bad with
          | false => rfl
          | true => exact absurd (Or.inl hb) hc) (by
          cases hw : (runL (fieldsP j.op) ⟨[j], fs, false⟩).ws with
          | nil => rfl
          | cons y r => exact absurd (Or.inr (by rw [hw]; simp)) hc)
        rw [hnone op src ((mem_all op src).2 ⟨by omega, h2, h3⟩)] at h4
        cases h4
end Go.Proofs.YthlfnmjefpdjgaaGreatDoor
