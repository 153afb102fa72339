/-
  A plain instruction's line is read as the instruction.
-/
import Derived.Test.YthlfnmjefpdjgaaGreatDoorPrint
namespace Go.Proofs.YthlfnmjefpdjgaaGreatDoor
open Go.RowKit

/-- An operation as its name alone says it. -/
def opB (x : Int) : Int := if 2 ∈ fieldsP x ∧ x / 8 % 2 = 1 then x - 8 else x
def tupI (i : In) : Int × Int × Int × Int × Int := (i.op, i.dst, i.src, i.off, i.imm)
theorem tupI_inj {i j : In} (h : tupI i = tupI j) : i = j := by
  cases i; cases j
  simp only [tupI, Prod.mk.injEq] at h
  obtain ⟨rfl, rfl, rfl, rfl, rfl⟩ := h
  rfl
theorem nameP_all : ∀ x : Fin 256, ∀ s : Fin 2, knownB x.val = true → (nameP (nameOfP ⟨x.val, 0, s.val, 0, 0⟩)).map tupI = some (opB x.val, 0, if (x.val : Int) = 24 ∨ (x.val : Int) = 133 then (s.val : Int) else 0, 0, 0) := by decide +kernel
theorem uses_all : ∀ x : Fin 256, knownB x.val = true → (usesOf x.val).d = decide (0 ∈ fieldsP x.val) ∧ (usesOf x.val).o = decide (3 ∈ fieldsP x.val) ∧
    (usesOf x.val).s = (decide (1 ∈ fieldsP x.val) || decide (2 ∈ fieldsP x.val) && regB x.val || decide ((x.val : Int) = 24) || decide ((x.val : Int) = 133)) ∧
    (usesOf x.val).i = (decide (4 ∈ fieldsP x.val) || decide (5 ∈ fieldsP x.val) || decide (2 ∈ fieldsP x.val) && !regB x.val) := by decide +kernel
/-- The ten shapes of a line. -/
theorem shapes_all : ∀ x : Fin 256, knownB x.val = true → fieldsP (opB x.val) = fieldsP x.val ∧ ((x.val : Int) = 24 ∧ fieldsP x.val = [0, 5] ∨ ¬ ((x.val : Int) = 24 ∨ (x.val : Int) = 133) ∧ (fieldsP x.val = [0, 1, 3] ∨ fieldsP x.val = [0, 3, 4] ∨ fieldsP x.val = [0, 3, 1] ∨ fieldsP x.val = [0] ∨ fieldsP x.val = [3] ∨ fieldsP x.val = [] ∨
      (fieldsP x.val = [0, 2] ∨ fieldsP x.val = [0, 2, 3])) ∨ (x.val : Int) = 133 ∧ fieldsP x.val = [4]) ∧ (2 ∈ fieldsP x.val → (regB x.val = true → orR (opB x.val) = x.val) ∧ (regB x.val = false → opB x.val = x.val)) ∧ (2 ∉ fieldsP x.val → opB x.val = x.val) ∧
      (wideB x.val = true ↔ (x.val : Int) = 24) := by decide +kernel

structure Good (i : In) : Prop where
  pl : i.Pl
  bad : badB i = false
theorem good_of (i : In) (ok : i.Ok) (h : okB i = true) : Good i := ⟨okB_pl i ok h, by
  simp only [okB, Bool.and_eq_true, Bool.not_eq_true'] at h
  exact h.2⟩
theorem Good.okB {i : In} (g : Good i) : okB i = true := by
  simp [YthlfnmjefpdjgaaGreatDoor.okB, g.pl.known, g.bad]
theorem bad_parts (i : In) : badB i = false ↔ ((usesOf i.op).d = false → i.dst = 0) ∧ ((usesOf i.op).d = true → i.dst ≤ 10) ∧ ((usesOf i.op).s = true → i.src ≤ 10) ∧ ((usesOf i.op).s = false → i.src = 0) ∧ ((usesOf i.op).o = false → i.off = 0) ∧ ((usesOf i.op).i = false → i.imm = 0) ∧ (i.op = 133 ∨ i.op = 24 → i.src ≤ 1) := by
  unfold badB
  rw [decide_eq_false_iff_not]
  constructor
  · intro h
    refine ⟨fun a => ?_, fun a => ?_, fun a => ?_, fun a => ?_, fun a => ?_, fun a => ?_, fun a => ?_⟩
    · exact Classical.byContradiction fun c => h (Or.inl (Or.inr (Or.inl ⟨a, c⟩)))
    · have : ¬ 10 < i.dst := fun c => h (Or.inl (Or.inl ⟨a, c⟩))
      omega
    · have : ¬ 10 < i.src := fun c => h (Or.inl (Or.inr (Or.inr (Or.inl ⟨a, c⟩))))
      omega
    · exact Classical.byContradiction fun c => h (Or.inl (Or.inr (Or.inr (Or.inr (Or.inl ⟨a, c⟩)))))
    · exact Classical.byContradiction fun c => h (Or.inl (Or.inr (Or.inr (Or.inr (Or.inr (Or.inl ⟨a, c⟩))))))
    · exact Classical.byContradiction fun c => h (Or.inl (Or.inr (Or.inr (Or.inr (Or.inr (Or.inr ⟨a, c⟩))))))
    · have : ¬ 1 < i.src := fun c => h (Or.inr ⟨a, c⟩)
      omega
  · rintro ⟨h1, h2, h3, h4, h5, h6, h7⟩ (h | h)
    · rcases h with ⟨a, c⟩ | ⟨a, c⟩ | ⟨a, c⟩ | ⟨a, c⟩ | ⟨a, c⟩ | ⟨a, c⟩
      · have := h2 a; omega
      · exact c (h1 a)
      · have := h3 a; omega
      · exact c (h4 a)
      · exact c (h5 a)
      · exact c (h6 a)
    · have := h7 h.1
      have := h.2
      omega
/-- The name hangs on the operation, and on whether Src is 1 where it has two names. -/
theorem name_as (i : In) (g : Good i) : ∃ s : Fin 2, nameOfP i = nameOfP ⟨i.op, 0, (s.val : Int), 0, 0⟩ ∧ (if i.op = 24 ∨ i.op = 133 then (s.val : Int) else 0) = (if i.op = 24 ∨ i.op = 133 then i.src else 0) := by
  have ok := g.pl.ok
  have hb := (bad_parts i).1 g.bad
  obtain ⟨n, hn⟩ := Int.eq_ofNat_of_zero_le ok.op0
  have hn2 := ok.op1
  have hs0 := ok.src0
  have hnx := g.pl.known
  have sh := (shapes_all ⟨n, by omega⟩ (by rw [← hn]; exact hnx)).2.2.2.2
  simp only [← hn] at sh
  have wc := wide_class i.op ok.op0 ok.op1 hnx
  by_cases hx : i.op = 24 ∨ i.op = 133
  · have h1 := hb.2.2.2.2.2.2 (hx.symm)
    rcases (by omega : i.src = 0 ∨ i.src = 1) with h | h
    · exact ⟨0, by simp [nameOfP, h], by simp [h]⟩
    · exact ⟨1, by simp [nameOfP, h], by simp [h]⟩
  · have h24 : ¬ i.op % 8 = 0 := fun h => hx (Or.inl (sh.1 (wc.2 h)))
    have h133 : ¬ i.op = 133 := fun h => hx (Or.inr h)
    exact ⟨0, by simp [nameOfP, h24, h133], by simp [hx]⟩
theorem name_back (i : In) (g : Good i) : nameP (nameOfP i) = some ⟨opB i.op, 0, if i.op = 24 ∨ i.op = 133 then i.src else 0, 0, 0⟩ := by
  obtain ⟨s, e1, e2⟩ := name_as i g
  obtain ⟨n, hn⟩ := Int.eq_ofNat_of_zero_le g.pl.ok.op0
  have hn2 := g.pl.ok.op1
  have h := nameP_all ⟨n, by omega⟩ s (by rw [← hn]; exact g.pl.known)
  simp only [← hn] at h
  rw [← e1, e2] at h
  cases hp : nameP (nameOfP i) with
  | none => rw [hp] at h; cases h
  | some j =>
    rw [hp] at h
    simp only [Option.map_some, Option.some.injEq] at h
    rw [tupI_inj (i := j) (j := ⟨opB i.op, 0, if i.op = 24 ∨ i.op = 133 then i.src else 0, 0, 0⟩) h]
theorem chars_all : ∀ x : Fin 256, ∀ s : Fin 2, knownB x.val = true → (nameOfP ⟨x.val, 0, s.val, 0, 0⟩) ≠ [] ∧ (nameOfP ⟨x.val, 0, s.val, 0, 0⟩).head? ≠ some 35 ∧ 32 ∉ (nameOfP ⟨x.val, 0, s.val, 0, 0⟩) ∧ 10 ∉ (nameOfP ⟨x.val, 0, s.val, 0, 0⟩) := by decide +kernel
theorem name_chars (i : In) (g : Good i) : nameOfP i ≠ [] ∧ (nameOfP i).head? ≠ some 35 ∧ 32 ∉ nameOfP i ∧ 10 ∉ nameOfP i := by
  obtain ⟨s, e1, _⟩ := name_as i g
  obtain ⟨n, hn⟩ := Int.eq_ofNat_of_zero_le g.pl.ok.op0
  have hn2 := g.pl.ok.op1
  have h := chars_all ⟨n, by omega⟩ s (by rw [← hn]; exact g.pl.known)
  simp only [← hn] at h
  rw [← e1] at h
  exact h
theorem dec_chars (u : Nat) : Lib.decDigits u ≠ [] ∧ 32 ∉ Lib.decDigits u ∧ 10 ∉ Lib.decDigits u := by
  refine ⟨decDigits_ne u, fun h => ?_, fun h => ?_⟩
  · have := decDigits_digit u u (Nat.le_refl _) _ h
    simp at this
  · have := decDigits_digit u u (Nat.le_refl _) _ h
    simp at this
theorem itoa_chars (v : Int) : Lib.itoa v ≠ [] ∧ 32 ∉ Lib.itoa v ∧ 10 ∉ Lib.itoa v := by
  unfold Lib.itoa
  split
  · have := dec_chars v.natAbs
    simp [this]
  · exact dec_chars _
theorem reg_chars (r : Int) : regT r ≠ [] ∧ 32 ∉ regT r ∧ 10 ∉ regT r := by
  have := dec_chars r.toNat
  unfold regT
  simp [this]
theorem print_chars (f : Nat) (i nx : In) : printF f i nx ≠ [] ∧ 32 ∉ printF f i nx ∧ 10 ∉ printF f i nx := by
  unfold printF
  repeat' split
  all_goals first | exact reg_chars _ | exact itoa_chars _ | exact dec_chars _
theorem words_tail (i nx : In) : ∀ (fs : List Nat) (cur : Bs), cur ≠ [] → wordsF cur (tailP i nx fs) = cur :: fs.map (fun f => printF f i nx)
  | [], cur, h => by simp [tailP, wordsF, h]
  | f :: fs, cur, h => by
    have ih := words_tail i nx fs (printF f i nx) (print_chars f i nx).1
    have e : tailP i nx (f :: fs) = 32 :: (printF f i nx ++ tailP i nx fs) := by simp [tailP]
    rw [e]
    simp only [wordsF, if_true, h, if_false, List.map_cons]
    rw [wordsF_app _ _ _ (print_chars f i nx).2.1, List.nil_append, ih]
theorem words_line (i nx : In) (g : Good i) : words (lineP i nx) = nameOfP i :: (fieldsP i.op).map (fun f => printF f i nx) := by
  have h := name_chars i g
  unfold words lineP
  rw [wordsF_app _ _ _ h.2.2.1, List.nil_append, words_tail i nx _ _ h.1]
theorem line_no10 (i nx : In) (g : Good i) : 10 ∉ lineP i nx := by
  have h := name_chars i g
  unfold lineP tailP
  simp only [List.mem_append, List.mem_flatMap, not_or, not_exists, not_and]
  refine ⟨h.2.2.2, fun f _ hm => ?_⟩
  simp only [List.mem_cons] at hm
  rcases hm with hm | hm
  · exact absurd hm (by decide)
  · exact (print_chars f i nx).2.2 hm

theorem regP_back (r : Int) (h0 : 0 ≤ r) (h1 : r ≤ 10) : regP (regT r) = some r.toNat := (regP_iff _ _).2 ⟨rfl, by omega⟩
theorem sgn32_back (v : Int) (h0 : -2147483648 ≤ v) (h1 : v ≤ 2147483647) : sgnP 32 (Lib.itoa v) = some v := (sgnP_iff 32 (by omega) (by omega) _ _).2 ⟨rfl, by
  have e : (2 : Nat) ^ (32 - 1) = 2147483648 := by decide
  rw [e]
  omega⟩
theorem sgn16_back (v : Int) (h0 : -32768 ≤ v) (h1 : v ≤ 32767) : sgnP 16 (Lib.itoa v) = some v := (sgnP_iff 16 (by omega) (by omega) _ _).2 ⟨rfl, by
  have e : (2 : Nat) ^ (16 - 1) = 32768 := by decide
  rw [e]
  omega⟩
theorem prefix_reg (r : Int) : Lib.hasPrefix (regT r) [114] = true := by simp [regT, Lib.hasPrefix, List.isPrefixOf]
theorem prefix_num (v : Int) : Lib.hasPrefix (Lib.itoa v) [114] = false := by
  have hd : ∀ u, Lib.hasPrefix (Lib.decDigits u) [114] = false := fun u => by
    cases h : Lib.decDigits u with
    | nil => rfl
    | cons c r =>
      have := decDigits_digit u u (Nat.le_refl _) c (by rw [h]; simp)
      have hc : ¬ 114 = c := fun e => by subst e; simp at this
      simp [Lib.hasPrefix, List.isPrefixOf, hc]
  unfold Lib.itoa
  split
  · simp [Lib.hasPrefix, List.isPrefixOf]
  · exact hd _

theorem in_eq {i : In} {a b c d e : Int} (h1 : a = i.op) (h2 : b = i.dst) (h3 : c = i.src) (h4 : d = i.off) (h5 : e = i.imm) : (⟨a, b, c, d, e⟩ : In) = i := by
  subst h1 h2 h3 h4 h5
  rfl
theorem toNat_cast {x : Int} (h : 0 ≤ x) : ((x.toNat : Nat) : Int) = x := Int.toNat_of_nonneg h
set_option maxHeartbeats 2000000 in
theorem line_back (i nx : In) (g : Good i) (hn : wideB i.op = true → tailB nx = true ∧ nx.Ok) : slotsW (words (lineP i nx)) = some (if wideB i.op = true then [i, nx] else [i]) := by
  have ok := g.pl.ok
  have hb := (bad_parts i).1 g.bad
  obtain ⟨n, hnn⟩ := Int.eq_ofNat_of_zero_le ok.op0
  have hn2 := ok.op1
  have sh := shapes_all ⟨n, by omega⟩ (by rw [← hnn]; exact g.pl.known)
  have us := uses_all ⟨n, by omega⟩ (by rw [← hnn]; exact g.pl.known)
  simp only [← hnn] at sh us
  obtain ⟨s1, s2, s3, s4, s5⟩ := sh
  obtain ⟨ud, uo, us', ui⟩ := us
  rw [ud, uo, us', ui] at hb
  obtain ⟨b1, b2, b3, b4, b5, b6, b7⟩ := hb
  rw [words_line i nx g, slotsW_name _ _ (name_chars i g).2.1, name_back i g]
  simp only [s1]
  have d0 := ok.dst0
  have d1 := g.pl.dst
  have q0 := ok.src0
  have q1 := g.pl.src
  have R1 := regP_back i.dst d0 d1
  have R2 := regP_back i.src q0 q1
  have N1 := sgn32_back i.imm ok.imm0 ok.imm1
  have N2 := sgn16_back i.off ok.off0 ok.off1
  have P1 := prefix_reg i.src
  have P2 := prefix_num i.imm
  have T1 := toNat_cast d0
  have T2 := toNat_cast q0
  rcases s2 with ⟨hx, hf⟩ | ⟨hx, hf⟩ | ⟨hx, hf⟩
  · have hw : wideB i.op = true := s5.2 hx
    obtain ⟨ht, hok⟩ := hn hw
    have ht := of_decide_eq_true ht
    have hL0 : 0 ≤ longI i nx := by unfold longI; omega
    have NP : natP (Lib.decDigits (longI i nx).toNat) = some (longI i nx).toNat := (natP_iff _ _).2 ⟨rfl, by unfold longI; omega⟩
    have hop := s4 (by rw [hf]; simp)
    have ho : i.off = 0 := b5 (by rw [hf]; rfl)
    have m0 := ok.imm0
    have m1 := ok.imm1
    have k0 := hok.imm0
    have k1 := hok.imm1
    rw [hf]
    have hmax : max (longI i nx) 0 = longI i nx := by omega
    have hsp : splitOf i.dst i.src (longI i nx) = [i, nx] := by
      unfold splitOf longI
      congr 1
      · refine in_eq hx.symm rfl rfl ho.symm ?_
        unfold wrap32; omega
      · congr 1
        refine in_eq ht.1.symm ht.2.1.symm ht.2.2.1.symm ht.2.2.2.symm ?_
        unfold wrap32; omega
    have e : runL [0, 5] ⟨[⟨opB i.op, 0, i.src, 0, 0⟩], [0, 5].map (fun f => printF f i nx), false⟩ = ⟨[i, nx], [], false⟩ := by simp [runL, stepL, stepI, stepB, printF, hd, tl, R1, T1, NP, hmax, hsp]
    simp only [show (i.op = 24 ∨ i.op = 133) = True from eq_true (Or.inl hx), if_true, e, hw]
    simp
  · have hw : wideB i.op = false := by
      cases h : wideB i.op with
      | false => rfl
      | true => exact absurd (Or.inl (s5.1 h)) hx
    have hx1 : ¬ i.op = 24 := fun h => hx (Or.inl h)
    have hx2 : ¬ i.op = 133 := fun h => hx (Or.inr h)
    rcases hf with hf | hf | hf | hf | hf | hf | hf | hf
    · have hop := s4 (by rw [hf]; simp)
      have z_imm : i.imm = 0 := b6 (by rw [hf]; simp)
      rw [hf]
      have e : runL [0, 1, 3] ⟨[⟨opB i.op, 0, 0, 0, 0⟩], [0, 1, 3].map (fun f => printF f i nx), false⟩ = ⟨[⟨i.op, i.dst, i.src, i.off, 0⟩], [], false⟩ := by simp [runL, stepL, stepI, stepB, printF, hd, tl, R1, R2, N2, T1, T2, hop]
      simp only [hx1, hx2, or_self, if_false, e, hw]
      simp only [Bool.false_eq_true, ne_eq, not_true_eq_false, or_self, if_false]
      rw [in_eq (i := i) rfl rfl rfl rfl z_imm.symm]
    · have hop := s4 (by rw [hf]; simp)
      have z_src : i.src = 0 := b4 (by rw [hf]; simp [hx1, hx2])
      rw [hf]
      have e : runL [0, 3, 4] ⟨[⟨opB i.op, 0, 0, 0, 0⟩], [0, 3, 4].map (fun f => printF f i nx), false⟩ = ⟨[⟨i.op, i.dst, 0, i.off, i.imm⟩], [], false⟩ := by simp [runL, stepL, stepI, stepB, printF, hd, tl, R1, N1, N2, T1, hop]
      simp only [hx1, hx2, or_self, if_false, e, hw]
      simp only [Bool.false_eq_true, ne_eq, not_true_eq_false, or_self, if_false]
      rw [in_eq (i := i) rfl rfl z_src.symm rfl rfl]
    · have hop := s4 (by rw [hf]; simp)
      have z_imm : i.imm = 0 := b6 (by rw [hf]; simp)
      rw [hf]
      have e : runL [0, 3, 1] ⟨[⟨opB i.op, 0, 0, 0, 0⟩], [0, 3, 1].map (fun f => printF f i nx), false⟩ = ⟨[⟨i.op, i.dst, i.src, i.off, 0⟩], [], false⟩ := by simp [runL, stepL, stepI, stepB, printF, hd, tl, R1, R2, N2, T1, T2, hop]
      simp only [hx1, hx2, or_self, if_false, e, hw]
      simp only [Bool.false_eq_true, ne_eq, not_true_eq_false, or_self, if_false]
      rw [in_eq (i := i) rfl rfl rfl rfl z_imm.symm]
    · have hop := s4 (by rw [hf]; simp)
      have z_src : i.src = 0 := b4 (by rw [hf]; simp [hx1, hx2])
      have z_off : i.off = 0 := b5 (by rw [hf]; simp)
      have z_imm : i.imm = 0 := b6 (by rw [hf]; simp)
      rw [hf]
      have e : runL [0] ⟨[⟨opB i.op, 0, 0, 0, 0⟩], [0].map (fun f => printF f i nx), false⟩ = ⟨[⟨i.op, i.dst, 0, 0, 0⟩], [], false⟩ := by simp [runL, stepL, stepI, stepB, printF, hd, tl, R1, T1, hop]
      simp only [hx1, hx2, or_self, if_false, e, hw]
      simp only [Bool.false_eq_true, ne_eq, not_true_eq_false, or_self, if_false]
      rw [in_eq (i := i) rfl rfl z_src.symm z_off.symm z_imm.symm]
    · have hop := s4 (by rw [hf]; simp)
      have z_dst : i.dst = 0 := b1 (by rw [hf]; simp)
      have z_src : i.src = 0 := b4 (by rw [hf]; simp [hx1, hx2])
      have z_imm : i.imm = 0 := b6 (by rw [hf]; simp)
      rw [hf]
      have e : runL [3] ⟨[⟨opB i.op, 0, 0, 0, 0⟩], [3].map (fun f => printF f i nx), false⟩ = ⟨[⟨i.op, 0, 0, i.off, 0⟩], [], false⟩ := by simp [runL, stepL, stepI, stepB, printF, hd, tl, N2, hop]
      simp only [hx1, hx2, or_self, if_false, e, hw]
      simp only [Bool.false_eq_true, ne_eq, not_true_eq_false, or_self, if_false]
      rw [in_eq (i := i) rfl z_dst.symm z_src.symm rfl z_imm.symm]
    · have hop := s4 (by rw [hf]; simp)
      have z_dst : i.dst = 0 := b1 (by rw [hf]; simp)
      have z_src : i.src = 0 := b4 (by rw [hf]; simp [hx1, hx2])
      have z_off : i.off = 0 := b5 (by rw [hf]; simp)
      have z_imm : i.imm = 0 := b6 (by rw [hf]; simp)
      rw [hf]
      have e : runL [] ⟨[⟨opB i.op, 0, 0, 0, 0⟩], [].map (fun f => printF f i nx), false⟩ = ⟨[⟨i.op, 0, 0, 0, 0⟩], [], false⟩ := by simp [runL, printF, hop]
      simp only [hx1, hx2, or_self, if_false, e, hw]
      simp only [Bool.false_eq_true, ne_eq, not_true_eq_false, or_self, if_false]
      rw [in_eq (i := i) rfl z_dst.symm z_src.symm z_off.symm z_imm.symm]
    · have h2 := s3 (by rw [hf]; simp)
      have z_off : i.off = 0 := b5 (by rw [hf]; simp)
      rw [hf]
      cases hr : regB i.op with
      | true =>
        have hop := h2.1 hr
        have z_imm : i.imm = 0 := b6 (by rw [hf]; simp [hr])
        have e : runL [0, 2] ⟨[⟨opB i.op, 0, 0, 0, 0⟩], [0, 2].map (fun f => printF f i nx), false⟩ = ⟨[⟨i.op, i.dst, i.src, 0, 0⟩], [], false⟩ := by simp [runL, stepL, stepI, stepB, printF, hd, tl, R1, R2, P1, T1, T2, hop, hr]
        simp only [hx1, hx2, or_self, if_false, e, hw]
        simp only [Bool.false_eq_true, ne_eq, not_true_eq_false, or_self, if_false]
        rw [in_eq (i := i) rfl rfl rfl z_off.symm z_imm.symm]
      | false =>
        have hop := h2.2 hr
        have z_src : i.src = 0 := b4 (by rw [hf]; simp [hx1, hx2, hr])
        have e : runL [0, 2] ⟨[⟨opB i.op, 0, 0, 0, 0⟩], [0, 2].map (fun f => printF f i nx), false⟩ = ⟨[⟨i.op, i.dst, 0, 0, i.imm⟩], [], false⟩ := by simp [runL, stepL, stepI, stepB, printF, hd, tl, R1, N1, P2, T1, hop, hr]
        simp only [hx1, hx2, or_self, if_false, e, hw]
        simp only [Bool.false_eq_true, ne_eq, not_true_eq_false, or_self, if_false]
        rw [in_eq (i := i) rfl rfl z_src.symm z_off.symm rfl]
    · have h2 := s3 (by rw [hf]; simp)
      rw [hf]
      cases hr : regB i.op with
      | true =>
        have hop := h2.1 hr
        have z_imm : i.imm = 0 := b6 (by rw [hf]; simp [hr])
        have e : runL [0, 2, 3] ⟨[⟨opB i.op, 0, 0, 0, 0⟩], [0, 2, 3].map (fun f => printF f i nx), false⟩ = ⟨[⟨i.op, i.dst, i.src, i.off, 0⟩], [], false⟩ := by simp [runL, stepL, stepI, stepB, printF, hd, tl, R1, R2, N2, P1, T1, T2, hop, hr]
        simp only [hx1, hx2, or_self, if_false, e, hw]
        simp only [Bool.false_eq_true, ne_eq, not_true_eq_false, or_self, if_false]
        rw [in_eq (i := i) rfl rfl rfl rfl z_imm.symm]
      | false =>
        have hop := h2.2 hr
        have z_src : i.src = 0 := b4 (by rw [hf]; simp [hx1, hx2, hr])
        have e : runL [0, 2, 3] ⟨[⟨opB i.op, 0, 0, 0, 0⟩], [0, 2, 3].map (fun f => printF f i nx), false⟩ = ⟨[⟨i.op, i.dst, 0, i.off, i.imm⟩], [], false⟩ := by simp [runL, stepL, stepI, stepB, printF, hd, tl, R1, N1, N2, P2, T1, hop, hr]
        simp only [hx1, hx2, or_self, if_false, e, hw]
        simp only [Bool.false_eq_true, ne_eq, not_true_eq_false, or_self, if_false]
        rw [in_eq (i := i) rfl rfl z_src.symm rfl rfl]
  · have hw : wideB i.op = false := by
      cases h : wideB i.op with
      | false => rfl
      | true => have := s5.1 h; omega
    have hop := s4 (by rw [hf]; simp)
    have z_dst : i.dst = 0 := b1 (by rw [hf]; simp)
    have z_off : i.off = 0 := b5 (by rw [hf]; simp)
    rw [hf]
    have e : runL [4] ⟨[⟨opB i.op, 0, i.src, 0, 0⟩], [4].map (fun f => printF f i nx), false⟩ = ⟨[⟨i.op, 0, i.src, 0, i.imm⟩], [], false⟩ := by simp [runL, stepL, stepI, stepB, printF, hd, tl, N1, hop]
    simp only [show (i.op = 24 ∨ i.op = 133) = True from eq_true (Or.inr hx), if_true, e, hw]
    simp only [Bool.false_eq_true, ne_eq, not_true_eq_false, or_self, if_false]
    rw [in_eq (i := i) rfl z_dst.symm rfl z_off.symm rfl]
end Go.Proofs.YthlfnmjefpdjgaaGreatDoor
