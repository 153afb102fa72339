/-
  Two regions side by side: what each call answers of them (for MemApart).
-/
import Derived.Test.YtbidppeelophhaaFirst
import Derived.Test.YtbidppeelophhaaKill
namespace Go.Proofs.Ytbidppeelophhaa
open Go.RowKit

theorem mod_some (s : Int) : 1 ≤ wrap64 (1 + wrap64 ((IntKind.u64.wrap s).tmod 16)) ∧ wrap64 (1 + wrap64 ((IntKind.u64.wrap s).tmod 16)) ≤ 16 := by
  rw [IntKind.wrap_u64, Int.tmod_eq_emod_of_nonneg (by omega)]
  unfold wrap64
  omega
theorem mod_perm (s : Int) : 0 ≤ wrap64 ((IntKind.u64.wrap s).tmod 8) ∧ wrap64 ((IntKind.u64.wrap s).tmod 8) ≤ 7 := by
  rw [IntKind.wrap_u64, Int.tmod_eq_emod_of_nonneg (by omega)]
  unfold wrap64
  omega
theorem and_base (b : Int) (h0 : 0 ≤ b) (h1 : b ≤ 18446744073709551615) : 0 ≤ bits .and .u64 b 281474976710655 ∧ bits .and .u64 b 281474976710655 ≤ 281474976710655 := by
  obtain ⟨a, rfl⟩ := Int.eq_ofNat_of_zero_le h0
  have := u64_and_nat a 281474976710655 (by omega) (by omega)
  rw [show ((281474976710655 : Nat) : Int) = 281474976710655 from rfl] at this
  rw [this]
  have h2 : a &&& 281474976710655 ≤ 281474976710655 := Nat.and_le_right
  omega

/-- Two regions, the second right behind the first. -/
structure Two (rs : List Reg) (B X Y P Q : Int) (a c : Reg) : Prop where
  rs : rs = [a, c]
  abase : a.base = B
  alen : (a.bytes.length : Int) = X
  aperm : a.perm = P
  aid : a.id = 0
  cbase : c.base = B + X
  clen : (c.bytes.length : Int) = Y
  cperm : c.perm = Q
  cid : c.id = 1

theorem findR_two (a c : Reg) (addr : Int) : findR [a, c] addr = if hasB a addr = true then some a else if hasB c addr = true then some c else none := by
  unfold findR
  rw [List.find?_cons]
  cases hasB a addr
  · simp only [Bool.false_eq_true, ↓reduceIte]
    exact findR_one c addr
  · rfl

theorem Two.at0 {rs : List Reg} {B X Y P Q : Int} {a c : Reg} (h : Two rs B X Y P Q a c) (_hX : 1 ≤ X) (_hY : 1 ≤ Y) (addr : Int) (h1 : B ≤ addr) (h2 : addr < B + X) : findR rs addr = some a := by
  rw [h.rs, findR_two, if_pos]
  unfold hasB
  rw [h.abase, h.alen]
  exact decide_eq_true ⟨h1, h2⟩
theorem Two.at1 {rs : List Reg} {B X Y P Q : Int} {a c : Reg} (h : Two rs B X Y P Q a c) (_hX : 1 ≤ X) (_hY : 1 ≤ Y) (addr : Int) (h1 : B + X ≤ addr) (h2 : addr < B + X + Y) : findR rs addr = some c := by
  rw [h.rs, findR_two, if_neg, if_pos]
  · unfold hasB
    rw [h.cbase, h.clen]
    exact decide_eq_true ⟨h1, h2⟩
  · unfold hasB
    rw [h.abase, h.alen]
    simp
    omega
theorem Two.readEdge {rs : List Reg} {B X Y P Q : Int} {a c : Reg} (h : Two rs B X Y P Q a c) (hX : 1 ≤ X) (hY : 1 ≤ Y) : readE rs (B + X - 1) 2 = 10 := by
  unfold readE
  rw [if_neg (by decide), if_neg (by decide)]
  unfold lookE
  rw [h.at0 hX hY _ (by omega) (by omega)]
  simp only
  rw [if_neg]
  unfold mayB
  rw [h.abase, h.alen]
  simp
  omega
theorem Two.read0 {rs : List Reg} {B X Y P Q : Int} {a c : Reg} (h : Two rs B X Y P Q a c) (hX : 1 ≤ X) (hY : 1 ≤ Y) : (readE rs B 1 = 10 ↔ bits .and .i64 P 1 = 0) := by
  unfold readE
  rw [if_neg (by decide), if_neg (by decide)]
  unfold lookE
  rw [h.at0 hX hY _ (by omega) (by omega)]
  simp only
  have hm : mayB a B 1 1 = !(bits .and .i64 P 1 == 0) := by
    unfold mayB
    rw [h.abase, h.alen, h.aperm]
    by_cases hp : bits .and .i64 P 1 = 0
    · simp [hp]
    · have e1 : (bits .and .i64 P 1 == 0) = false := by simpa using hp
      rw [e1]
      exact decide_eq_true ⟨by omega, hp⟩
  rw [hm]
  by_cases hp : bits .and .i64 P 1 = 0
  · simp [hp]
  · simp [hp]
    split <;> decide
theorem Two.read1 {rs : List Reg} {B X Y P Q : Int} {a c : Reg} (h : Two rs B X Y P Q a c) (hX : 1 ≤ X) (hY : 1 ≤ Y) : (readE rs (B + X) 1 = 10 ↔ bits .and .i64 Q 1 = 0) := by
  unfold readE
  rw [if_neg (by decide), if_neg (by decide)]
  unfold lookE
  rw [h.at1 hX hY _ (by omega) (by omega)]
  simp only
  have hm : mayB c (B + X) 1 1 = !(bits .and .i64 Q 1 == 0) := by
    unfold mayB
    rw [h.cbase, h.clen, h.cperm]
    by_cases hp : bits .and .i64 Q 1 = 0
    · simp [hp]
    · have e1 : (bits .and .i64 Q 1 == 0) = false := by simpa using hp
      rw [e1]
      exact decide_eq_true ⟨by omega, hp⟩
  rw [hm]
  by_cases hp : bits .and .i64 Q 1 = 0
  · simp [hp]
  · simp [hp]
    split <;> decide
theorem Two.writeEdge {rs : List Reg} {B X Y P Q : Int} {a c : Reg} (h : Two rs B X Y P Q a c) (hX : 1 ≤ X) (hY : 1 ≤ Y) : writeE rs (B + X - 1) [1, 2] = 10 ∧ writeRs rs (B + X - 1) [1, 2] = rs := by
  have hm : mayB a (B + X - 1) 2 2 = false := by
    unfold mayB
    rw [h.abase, h.alen]
    refine decide_eq_false (fun hh => ?_)
    have := hh.1
    omega
  constructor
  · unfold writeE
    rw [if_neg (by simp)]
    unfold layE
    rw [h.at0 hX hY _ (by omega) (by omega)]
    simp [hm]
  · unfold writeRs
    rw [if_neg (by simp)]
    unfold layRs
    rw [h.at0 hX hY _ (by omega) (by omega)]
    simp [hm]
theorem Two.write0 {rs : List Reg} {B X Y P Q : Int} {a c : Reg} (h : Two rs B X Y P Q a c) (hX : 1 ≤ X) (hY : 1 ≤ Y) : (writeE rs B [7] = 0 ↔ bits .and .i64 P 2 ≠ 0) ∧ ∃ a', Two (writeRs rs B [7]) B X Y P Q a' c := by
  have hm : mayB a B 1 2 = !(bits .and .i64 P 2 == 0) := by
    unfold mayB
    rw [h.abase, h.alen, h.aperm]
    by_cases hp : bits .and .i64 P 2 = 0
    · simp [hp]
    · have e1 : (bits .and .i64 P 2 == 0) = false := by simpa using hp
      rw [e1]
      exact decide_eq_true ⟨by omega, hp⟩
  have hE : writeE rs B [7] = if mayB a B 1 2 = true then 0 else 10 := by
    unfold writeE
    rw [if_neg (by simp)]
    unfold layE
    rw [h.at0 hX hY _ (by omega) (by omega)]
    rfl
  have hR : writeRs rs B [7] = if mayB a B 1 2 = true then updR rs a.id (layR · (B - a.base).toNat [7]) else rs := by
    unfold writeRs
    rw [if_neg (by simp)]
    unfold layRs
    rw [h.at0 hX hY _ (by omega) (by omega)]
    rfl
  rw [hE, hR, hm]
  by_cases hp : bits .and .i64 P 2 = 0
  · refine ⟨by simp [hp], a, ?_⟩
    simpa [hp] using h
  · refine ⟨by simp [hp], layR a 0 [7], ?_⟩
    have e : updR rs a.id (layR · (B - a.base).toNat [7]) = [layR a 0 [7], c] := by
      rw [h.rs, h.abase]
      unfold updR
      simp [h.aid, h.cid]
    have e1 : (bits .and .i64 P 2 == 0) = false := by simpa using hp
    simp only [e1, Bool.not_false, ↓reduceIte]
    rw [e]
    refine ⟨rfl, h.abase, ?_, h.aperm, h.aid, h.cbase, h.clen, h.cperm, h.cid⟩
    have hl := h.alen
    rw [layR_len (by simp; omega)]
    exact hl
theorem Two.addBusy {rs : List Reg} {B X Y P Q : Int} {a c : Reg} (h : Two rs B X Y P Q a c) (hX : 1 ≤ X) (_hY : 1 ≤ Y) (_hb : 0 ≤ B) (hfit : B + X ≤ 18446744073709551616) : addE rs (B + X - 1) 1 1 = 12 := by
  unfold addE
  rw [if_neg, if_pos]
  · rw [h.rs]
    exact busy_of (r := a) (by simp) (by rw [h.abase]; omega) (by rw [h.abase, h.alen]; omega)
  · unfold mayBeB
    simp
    omega
theorem Two.kill0 {rs : List Reg} {B X Y P Q : Int} {a c : Reg} (h : Two rs B X Y P Q a c) (_hX : 1 ≤ X) (_hY : 1 ≤ Y) : killE rs 0 = 0 ∧ killRs rs 0 = [c] := by
  constructor
  · unfold killE regOf
    rw [h.rs]
    simp [h.aid]
  · unfold killRs
    rw [h.rs]
    simp [h.aid, h.cid]
end Go.Proofs.Ytbidppeelophhaa
