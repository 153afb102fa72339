/-
  What the reference's Line answers.
-/
import Derived.Test.YthlfnmjefpdjgaaGreatDoorRNum
import Derived.Test.YthlfnmjefpdjgaaGreatDoorRound
import Derived.Deep.CutRange
namespace Go.Proofs.YthlfnmjefpdjgaaGreatDoor
open Go.RowKit

theorem rnumber_int (v : Int) (h0 : 0 ≤ v) (h1 : v < 18446744073709551616) (w : World) :
    Calls Tryz.prog 34 #[.int .u64 v] w fun e w' => e = .returned (.string ⟨(Lib.decDigits v.toNat).toArray⟩) ∧ Touch [] w w' := by
  obtain ⟨n, rfl⟩ := Int.eq_ofNat_of_zero_le h0
  exact rnumber_any n (by omega) w

/-- A name by its number. -/
theorem ralu_any (k : Nat) (s : Bs) (h : aluN[k]? = some s) (w : World) :
    Calls Tryz.prog 37 #[.int .i64 (k : Int)] w fun e w' => e = .returned (.string ⟨s.toArray⟩) ∧ Touch [] w w' := by
  have hk : k < 13 := (List.getElem?_eq_some_iff.1 h).1
  have hA := Blk.newA w #[str [97, 100, 100], str [115, 117, 98], str [109, 117, 108], str [100, 105, 118], str [111, 114], str [97, 110, 100], str [108, 115, 104], str [114, 115, 104], str [110, 101, 103], str [109, 111, 100], str [120, 111, 114], str [109, 111, 118], str [97, 114, 115, 104]] (aluN.map str) 9 rfl
  have c := hA.cell (i := k) (v := str s) (by rw [List.getElem?_map, h]; rfl)
  unfold str at c
  go_enter Tryz.func37, Tryz.ntmps37
  go_wp2
  go_ret
  exact ⟨rfl, (Touch.refl _ w).alloc _⟩
theorem rjump_any (k : Nat) (s : Bs) (h : jmpN[k]? = some s) (w : World) :
    Calls Tryz.prog 38 #[.int .i64 (k : Int)] w fun e w' => e = .returned (.string ⟨s.toArray⟩) ∧ Touch [] w w' := by
  have hk : k < 14 := (List.getElem?_eq_some_iff.1 h).1
  have hA := Blk.newA w #[str [106, 97], str [106, 101, 113], str [106, 103, 116], str [106, 103, 101], str [106, 115, 101, 116], str [106, 110, 101], str [106, 115, 103, 116], str [106, 115, 103, 101], str [99, 97, 108, 108], str [101, 120, 105, 116], str [106, 108, 116], str [106, 108, 101], str [106, 115, 108, 116], str [106, 115, 108, 101]] (jmpN.map str) 9 rfl
  have c := hA.cell (i := k) (v := str s) (by rw [List.getElem?_map, h]; rfl)
  unfold str at c
  go_enter Tryz.func38, Tryz.ntmps38
  go_wp2
  go_ret
  exact ⟨rfl, (Touch.refl _ w).alloc _⟩

def dT (i : In) : Bs := [32, 114] ++ Lib.decDigits i.dst.toNat
def sT (i : In) : Bs := [32, 114] ++ Lib.decDigits i.src.toNat
def oT (i : In) : Bs := [32] ++ Lib.itoa i.off
def iT (i : In) : Bs := [32] ++ Lib.itoa i.imm

theorem six_all : ∀ x : Fin 256, knownB x.val = true → ((x.val : Int) % 8 = 0 → (x.val : Int) = 24) ∧ ((x.val : Int) % 8 = 6 → (x.val : Int) / 16 ≠ 0 ∧ (x.val : Int) / 16 ≠ 8 ∧ (x.val : Int) / 16 ≠ 9) ∧ ((x.val : Int) % 8 = 5 → (x.val : Int) / 16 = 8 → (x.val : Int) = 133) := by decide +kernel
theorem six_of (x : Int) (h0 : 0 ≤ x) (h1 : x ≤ 255) (hk : knownB x = true) : (x % 8 = 0 → x = 24) ∧ (x % 8 = 6 → x / 16 ≠ 0 ∧ x / 16 ≠ 8 ∧ x / 16 ≠ 9) ∧ (x % 8 = 5 → x / 16 = 8 → x = 133) := by
  obtain ⟨n, rfl⟩ := Int.eq_ofNat_of_zero_le h0
  exact six_all ⟨n, by omega⟩ hk
theorem line_0a (i nx : In) (h : i.op = 24) (hs : i.src = 1) : lineP i nx = [108, 100, 109, 97, 112] ++ dT i ++ [32] ++ Lib.decDigits (longI i nx).toNat := by
  simp [lineP, nameOfP, fieldsP, tailP, printF, regT, dT, h, hs]
theorem line_0b (i nx : In) (h : i.op = 24) (hs : i.src = 0) : lineP i nx = [108, 100, 100, 119] ++ dT i ++ [32] ++ Lib.decDigits (longI i nx).toNat := by
  simp [lineP, nameOfP, fieldsP, tailP, printF, regT, dT, h, hs]
theorem line_1 (i nx : In) (h : i.op % 8 = 1) : lineP i nx = [108, 100, 120] ++ at0 sizN (i.op / 8 % 4) ++ dT i ++ sT i ++ oT i := by
  have e : at0 accN 0 = [108, 100, 120] := rfl
  simp [lineP, nameOfP, fieldsP, tailP, printF, regT, dT, sT, oT, h, e]
theorem line_2 (i nx : In) (h : i.op % 8 = 2) : lineP i nx = [115, 116] ++ at0 sizN (i.op / 8 % 4) ++ dT i ++ oT i ++ iT i := by
  have e : at0 accN 1 = [115, 116] := rfl
  simp [lineP, nameOfP, fieldsP, tailP, printF, regT, dT, iT, oT, h, e]
theorem line_3 (i nx : In) (h : i.op % 8 = 3) : lineP i nx = [115, 116, 120] ++ at0 sizN (i.op / 8 % 4) ++ dT i ++ oT i ++ sT i := by
  have e : at0 accN 2 = [115, 116, 120] := rfl
  simp [lineP, nameOfP, fieldsP, tailP, printF, regT, dT, sT, oT, h, e]
def xT (i : In) : Bs := if i.op / 8 % 2 = 1 then sT i else iT i
theorem x_eq (i nx : In) : 32 :: printF 2 i nx = xT i := by
  unfold xT printF regB
  by_cases h : i.op / 8 % 2 = 1
  · simp [h, regT, sT]
  · simp [h, iT]
theorem d_eq (i nx : In) : 32 :: printF 0 i nx = dT i := rfl
theorem o_eq (i nx : In) : 32 :: printF 3 i nx = oT i := rfl
theorem tail_02 (i nx : In) : tailP i nx [0, 2] = dT i ++ xT i := by
  rw [← d_eq i nx, ← x_eq i nx]; simp [tailP]
theorem tail_023 (i nx : In) : tailP i nx [0, 2, 3] = dT i ++ xT i ++ oT i := by
  rw [← d_eq i nx, ← x_eq i nx, ← o_eq i nx]; simp [tailP]
theorem line_4a (i nx : In) (h : i.op % 8 = 4) (hq : i.op / 16 = 8) : lineP i nx = [110, 101, 103, 51, 50] ++ dT i := by
  have e : at0 aluN 8 = [110, 101, 103] := rfl
  simp [lineP, nameOfP, fieldsP, tailP, printF, regT, dT, h, hq, e]
theorem line_4b (i nx : In) (h : i.op % 8 = 4) (hq : ¬ i.op / 16 = 8) : lineP i nx = at0 aluN (i.op / 16) ++ [51, 50] ++ dT i ++ xT i := by
  have e : ¬ i.op / 16 * 16 = 128 := by omega
  simp [lineP, nameOfP, fieldsP, h, e, tail_02]
theorem line_7a (i nx : In) (h : i.op % 8 = 7) (hq : i.op / 16 = 8) : lineP i nx = [110, 101, 103] ++ dT i := by
  have e : at0 aluN 8 = [110, 101, 103] := rfl
  simp [lineP, nameOfP, fieldsP, tailP, printF, regT, dT, h, hq, e]
theorem line_7b (i nx : In) (h : i.op % 8 = 7) (hq : ¬ i.op / 16 = 8) : lineP i nx = at0 aluN (i.op / 16) ++ dT i ++ xT i := by
  have e : ¬ i.op / 16 * 16 = 128 := by omega
  simp [lineP, nameOfP, fieldsP, h, e, tail_02]
theorem line_5a (i nx : In) (h : i.op % 8 = 5) (hq : i.op / 16 = 0) : lineP i nx = [106, 97] ++ oT i := by
  have e : at0 jmpN 0 = [106, 97] := rfl
  have e' : ¬ i.op = 133 := by omega
  simp [lineP, nameOfP, fieldsP, jumpF, tailP, printF, oT, h, hq, e, e']
theorem line_5b (i nx : In) (h : i.op = 133) (hs : i.src = 1) : lineP i nx = [99, 97, 108, 108, 112] ++ iT i := by
  simp [lineP, nameOfP, fieldsP, jumpF, tailP, printF, iT, h, hs]
theorem line_5c (i nx : In) (h : i.op % 8 = 5) (hq : i.op / 16 = 8) (hs : ¬ i.src = 1) : lineP i nx = [99, 97, 108, 108] ++ iT i := by
  have e : at0 jmpN 8 = [99, 97, 108, 108] := rfl
  simp [lineP, nameOfP, fieldsP, jumpF, tailP, printF, iT, h, hq, e, hs]
theorem line_5d (i nx : In) (h : i.op % 8 = 5) (hq : i.op / 16 = 9) : lineP i nx = [101, 120, 105, 116] := by
  have e : at0 jmpN 9 = [101, 120, 105, 116] := rfl
  have e' : ¬ i.op = 133 := by omega
  simp [lineP, nameOfP, fieldsP, jumpF, tailP, h, hq, e, e']
theorem line_5e (i nx : In) (h : i.op % 8 = 5) (h0 : ¬ i.op / 16 = 0) (h8 : ¬ i.op / 16 = 8) (h9 : ¬ i.op / 16 = 9) : lineP i nx = at0 jmpN (i.op / 16) ++ dT i ++ xT i ++ oT i := by
  have e0 : ¬ i.op / 16 * 16 = 0 := by omega
  have e1 : ¬ i.op / 16 * 16 = 128 := by omega
  have e2 : ¬ i.op / 16 * 16 = 144 := by omega
  have e' : ¬ i.op = 133 := by omega
  have ej : jumpF i.op = [0, 2, 3] := by rw [jumpF, if_neg e0, if_neg e1, if_neg e2]
  simp [lineP, nameOfP, fieldsP, h, e', ej, tail_023]
theorem line_6 (i nx : In) (h : i.op % 8 = 6) (h0 : ¬ i.op / 16 = 0) (h8 : ¬ i.op / 16 = 8) (h9 : ¬ i.op / 16 = 9) : lineP i nx = at0 jmpN (i.op / 16) ++ [51, 50] ++ dT i ++ xT i ++ oT i := by
  have e0 : ¬ i.op / 16 * 16 = 0 := by omega
  have e1 : ¬ i.op / 16 * 16 = 128 := by omega
  have e2 : ¬ i.op / 16 * 16 = 144 := by omega
  have ej : jumpF i.op = [0, 2, 3] := by rw [jumpF, if_neg e0, if_neg e1, if_neg e2]
  simp [lineP, nameOfP, fieldsP, h, ej, tail_023]

set_option maxRecDepth 100000 in
set_option maxHeartbeats 8000000 in
theorem rline_any (i nx : In) (ok : i.Ok) (hk : knownB i.op = true) (hsrc : i.op = 24 ∨ i.op = 133 → i.src ≤ 1) (w0 : World) (r : Bs) (hr : r = lineP i nx) :
    Calls Tryz.prog 19 #[i.v, nx.v] w0 fun e w' => e = .returned (.string ⟨r.toArray⟩) ∧ Touch [] w0 w' := by
  have q0 := ok.op0
  have q1 := ok.op1
  have d0 := ok.dst0
  have d1 := ok.dst1
  have s0 := ok.src0
  have s1 := ok.src1
  have o0 := ok.off0
  have o1 := ok.off1
  have m0 := ok.imm0
  have m1 := ok.imm1
  have e1 : IntKind.u64.wrap i.dst = i.dst := by rw [IntKind.wrap_u64]; omega
  have e2 : IntKind.u64.wrap i.src = i.src := by rw [IntKind.wrap_u64]; omega
  have e3 : IntKind.i64.wrap i.off = i.off := by rw [IntKind.wrap_i64]; omega
  have e4 : IntKind.i64.wrap i.imm = i.imm := by rw [IntKind.wrap_i64]; omega
  have e5 : IntKind.i64.wrap i.op = i.op := by rw [IntKind.wrap_i64]; omega
  have hld : ¬ 9223372036854775807 < 2 + (Lib.decDigits i.dst.toNat).length := by
    rw [Lib.decDigits_length]; have := nDigits_le20 i.dst.toNat (by omega); omega
  have hls : ¬ 9223372036854775807 < 2 + (Lib.decDigits i.src.toNat).length := by
    rw [Lib.decDigits_length]; have := nDigits_le20 i.src.toNat (by omega); omega
  have hlo : ¬ 9223372036854775807 < 1 + (Lib.itoa i.off).length := by have := Lib.itoa_length_le i.off (by omega) (by omega); omega
  have hlm : ¬ 9223372036854775807 < 1 + (Lib.itoa i.imm).length := by have := Lib.itoa_length_le i.imm (by omega) (by omega); omega
  have hbd : ((⟨#[32, 114]⟩ : ByteArray) ++ ⟨(Lib.decDigits i.dst.toNat).toArray⟩) = ⟨(dT i).toArray⟩ := ba_append [32, 114] _
  have hbs : ((⟨#[32, 114]⟩ : ByteArray) ++ ⟨(Lib.decDigits i.src.toNat).toArray⟩) = ⟨(sT i).toArray⟩ := ba_append [32, 114] _
  have hbo : ((⟨#[32]⟩ : ByteArray) ++ ⟨(Lib.itoa i.off).toArray⟩) = ⟨(oT i).toArray⟩ := ba_append [32] _
  have hbm : ((⟨#[32]⟩ : ByteArray) ++ ⟨(Lib.itoa i.imm).toArray⟩) = ⟨(iT i).toArray⟩ := ba_append [32] _
  have HA := Blk.newA w0 #[.int .u8 i.op, .int .u8 i.dst, .int .u8 i.src, .int .i16 i.off, .int .i32 i.imm] i.cells 41 rfl
  have HA := HA.alloc (.cells #[.int .u8 nx.op, .int .u8 nx.dst, .int .u8 nx.src, .int .i16 nx.off, .int .i32 nx.imm] 41)
  have HB := Blk.newA (w0.alloc (.cells #[.int .u8 i.op, .int .u8 i.dst, .int .u8 i.src, .int .i16 i.off, .int .i32 i.imm] 41)) #[.int .u8 nx.op, .int .u8 nx.dst, .int .u8 nx.src, .int .i16 nx.off, .int .i32 nx.imm] nx.cells 41 rfl
  have HT0 := toHid (((Touch.refl [] w0).alloc (.cells #[.int .u8 i.op, .int .u8 i.dst, .int .u8 i.src, .int .i16 i.off, .int .i32 i.imm] 41)).alloc (.cells #[.int .u8 nx.op, .int .u8 nx.dst, .int .u8 nx.src, .int .i16 nx.off, .int .i32 nx.imm] 41))
  simp only [In.v]
  go_enter Tryz.func19, Tryz.ntmps19
  go_upto_region 2 with fail
  generalize hW : ((w0.alloc (.cells #[.int .u8 i.op, .int .u8 i.dst, .int .u8 i.src, .int .i16 i.off, .int .i32 i.imm] 41)).alloc (.cells #[.int .u8 nx.op, .int .u8 nx.dst, .int .u8 nx.src, .int .i16 nx.off, .int .i32 nx.imm] 41)) = W at *
  have hB2 : (w0.alloc (.cells #[.int .u8 i.op, .int .u8 i.dst, .int .u8 i.src, .int .i16 i.off, .int .i32 i.imm] 41)).heap.size = w0.heap.size + 1 := by simp
  rw [hB2] at HB
  clear hB2 hW
  generalize hC : w0.heap.size + 1 = C at *
  clear hC
  generalize hBB : w0.heap.size = B at *
  clear hBB
  have c0 := HA.cell (i := 0) (v := .int .u8 i.op) rfl
  have c1 := HA.cell (i := 1) (v := .int .u8 i.dst) rfl
  have c2 := HA.cell (i := 2) (v := .int .u8 i.src) rfl
  have c3 := HA.cell (i := 3) (v := .int .i16 i.off) rfl
  have c4 := HA.cell (i := 4) (v := .int .i32 i.imm) rfl
  have HT := HT0
  have HNX := toHid HB
  clear HA HB HT0
  go_cut [6, 7] from 6 to 25 (fun a b wx => a = .string ⟨(dT i).toArray⟩ ∧ b = .string ⟨(sT i).toArray⟩ ∧ (wx.cell? ⟨B, 0, none⟩ = some (.int .u8 i.op) ∧ wx.cell? ⟨B, 1, none⟩ = some (.int .u8 i.dst) ∧ wx.cell? ⟨B, 2, none⟩ = some (.int .u8 i.src) ∧ wx.cell? ⟨B, 3, none⟩ = some (.int .i16 i.off) ∧ wx.cell? ⟨B, 4, none⟩ = some (.int .i32 i.imm)) ∧ Hid (Touch [] W wx))
  case first =>
    refine wp_region_held_drew (S := (fun w' => (w'.cell? ⟨B, 0, none⟩ = some (.int .u8 i.op) ∧ w'.cell? ⟨B, 1, none⟩ = some (.int .u8 i.dst) ∧ w'.cell? ⟨B, 2, none⟩ = some (.int .u8 i.src) ∧ w'.cell? ⟨B, 3, none⟩ = some (.int .i16 i.off) ∧ w'.cell? ⟨B, 4, none⟩ = some (.int .i32 i.imm)) ∧ Hid (Touch [] W w'))) (by kernel_rfl) ?_ (fun hHeld => ?_)
    · exact ⟨⟨c0, c1, c2, c3, c4⟩, toHid ((Touch.refl [] W).drew)⟩
    refine wpAnyH_take (i := 0) (v := ?_) rfl (by kernel_rfl) (by kernel_rfl) (by kernel_rfl) (fun _ _ _ h => h) (Or.inl ⟨by rfl, ?_⟩) (by assumption) ?_
    rotate_left
    · (intro w hSw; (try dsimp only at hSw); go_simp; try with_reducible rfl)
    simp only [Act.put, List.getElem_toArray, List.getElem_cons_zero, List.setIfInBounds_toArray, List.set_cons_zero, List.set_cons_succ]
    refine wpAnyH_take (i := 1) (v := ?_) rfl (by kernel_rfl) (by kernel_rfl) (by kernel_rfl) (fun _ _ _ h => h) (Or.inl ⟨by rfl, ?_⟩) (by assumption) ?_
    rotate_left
    · (intro w hSw; (try dsimp only at hSw); go_simp; try with_reducible rfl)
    simp only [Act.put, List.getElem_toArray, List.getElem_cons_zero, List.getElem_cons_succ, List.setIfInBounds_toArray, List.set_cons_zero, List.set_cons_succ]
    refine wpAnyH_take (i := 2) (v := ?_) rfl (by kernel_rfl) (by kernel_rfl) (by kernel_rfl) (fun _ _ _ h => h) (Or.inl ⟨by rfl, ?_⟩) (by assumption) ?_
    rotate_left
    · (intro w hSw; (try dsimp only at hSw); go_simp; try with_reducible rfl)
    simp only [Act.put, List.getElem_toArray, List.getElem_cons_zero, List.getElem_cons_succ, List.setIfInBounds_toArray, List.set_cons_zero, List.set_cons_succ]
    refine wpAnyH_take (i := 5) (v := ?_) rfl (by kernel_rfl) (by kernel_rfl) (by kernel_rfl) (fun _ _ _ h => h) (Or.inl ⟨by rfl, ?_⟩) (by assumption) ?_
    rotate_left
    · (intro w hSw; (try dsimp only at hSw); go_simp; try with_reducible rfl)
    simp only [Act.put, List.getElem_toArray, List.getElem_cons_zero, List.getElem_cons_succ, List.setIfInBounds_toArray, List.set_cons_zero, List.set_cons_succ]
    refine wpAnyH_take (i := 6) (v := ?_) rfl (by kernel_rfl) (by kernel_rfl) (by kernel_rfl) (fun _ _ _ h => h) (Or.inl ⟨by rfl, ?_⟩) (by assumption) ?_
    rotate_left
    · (intro w hSw; (try dsimp only at hSw); go_simp; try with_reducible rfl)
    simp only [Act.put, List.getElem_toArray, List.getElem_cons_zero, List.getElem_cons_succ, List.setIfInBounds_toArray, List.set_cons_zero, List.set_cons_succ]
    refine wpAnyH_take (i := 7) (v := ?_) rfl (by kernel_rfl) (by kernel_rfl) (by kernel_rfl) (fun _ _ _ h => h) (Or.inl ⟨by rfl, ?_⟩) (by assumption) ?_
    rotate_left
    · (intro w hSw; (try dsimp only at hSw); go_simp; try with_reducible rfl)
    simp only [Act.put, List.getElem_toArray, List.getElem_cons_zero, List.getElem_cons_succ, List.setIfInBounds_toArray, List.set_cons_zero, List.set_cons_succ]
    refine wpAnyH_ready (rs := [3]) (by kernel_rfl) (by simp) ?_
    refine AllReadyH.cons rfl (fun K hK => ?_) AllReadyH.nil
    simp only [List.getElem_toArray, List.getElem_cons_zero, List.getElem_cons_succ]
    go_simp
    refine (rnumber_int i.dst d0 (by omega) _).mono ?_; rintro e w1 ⟨rfl, ht1⟩
    go_wp2_with fail
    refine hK.out _ _ ?_ (fun hHeld => ?_)
    · exact ⟨⟨ht1.cell hHeld.1.1 (by simp), ht1.cell hHeld.1.2.1 (by simp), ht1.cell hHeld.1.2.2.1 (by simp), ht1.cell hHeld.1.2.2.2.1 (by simp), ht1.cell hHeld.1.2.2.2.2 (by simp)⟩, toHid ((show Touch [] W _ from hHeld.2).trans ht1 (by simp))⟩
    clear hK K ht1
    try simp only [Act.put, List.getElem_toArray, List.getElem_cons_zero, List.getElem_cons_succ, List.setIfInBounds_toArray, List.set_cons_zero, List.set_cons_succ]
    refine wpAnyH_take (i := 4) (v := ?_) rfl (by kernel_rfl) (by kernel_rfl) (by kernel_rfl) (fun _ _ _ h => h) (Or.inl ⟨by rfl, ?_⟩) (by assumption) ?_
    rotate_left
    · (intro w hSw; (try dsimp only at hSw); go_simp; try with_reducible rfl)
    simp only [Act.put, List.getElem_toArray, List.getElem_cons_zero, List.getElem_cons_succ, List.setIfInBounds_toArray, List.set_cons_zero, List.set_cons_succ]
    refine wpAnyH_ready (rs := [8]) (by kernel_rfl) (by simp) ?_
    refine AllReadyH.cons rfl (fun K hK => ?_) AllReadyH.nil
    simp only [List.getElem_toArray, List.getElem_cons_zero, List.getElem_cons_succ]
    go_simp
    refine (rnumber_int i.src s0 (by omega) _).mono ?_; rintro e w1 ⟨rfl, ht1⟩
    go_wp2_with fail
    refine hK.out _ _ ?_ (fun hHeld => ?_)
    · exact ⟨⟨ht1.cell hHeld.1.1 (by simp), ht1.cell hHeld.1.2.1 (by simp), ht1.cell hHeld.1.2.2.1 (by simp), ht1.cell hHeld.1.2.2.2.1 (by simp), ht1.cell hHeld.1.2.2.2.2 (by simp)⟩, toHid ((show Touch [] W _ from hHeld.2).trans ht1 (by simp))⟩
    clear hK K ht1
    try simp only [Act.put, List.getElem_toArray, List.getElem_cons_zero, List.getElem_cons_succ, List.setIfInBounds_toArray, List.set_cons_zero, List.set_cons_succ]
    refine wpAnyH_take (i := 9) (v := ?_) rfl (by kernel_rfl) (by kernel_rfl) (by kernel_rfl) (fun _ _ _ h => h) (Or.inl ⟨by rfl, ?_⟩) (by assumption) ?_
    rotate_left
    · (intro w hSw; (try dsimp only at hSw); go_simp; try with_reducible rfl)
    simp only [Act.put, List.getElem_toArray, List.getElem_cons_zero, List.getElem_cons_succ, List.setIfInBounds_toArray, List.set_cons_zero, List.set_cons_succ]
    refine wpAnyH_ready (rs := [10]) (by kernel_rfl) (by simp) ?_
    refine AllReadyH.cons rfl (fun K hK => ?_) AllReadyH.nil
    simp only [List.getElem_toArray, List.getElem_cons_zero, List.getElem_cons_succ]
    go_simp
    refine hK.out _ _ ?_ (fun hHeld => ?_)
    · exact hHeld
    clear hK K
    try simp only [Act.put, List.getElem_toArray, List.getElem_cons_zero, List.getElem_cons_succ, List.setIfInBounds_toArray, List.set_cons_zero, List.set_cons_succ]
    refine wpAnyH_ready (rs := [11]) (by kernel_rfl) (by simp) ?_
    refine AllReadyH.cons rfl (fun K hK => ?_) AllReadyH.nil
    simp only [List.getElem_toArray, List.getElem_cons_zero, List.getElem_cons_succ]
    go_simp
    refine hK.out _ _ ?_ (fun hHeld => ?_)
    · exact hHeld
    clear hK K
    try simp only [Act.put, List.getElem_toArray, List.getElem_cons_zero, List.getElem_cons_succ, List.setIfInBounds_toArray, List.set_cons_zero, List.set_cons_succ]
    refine wpAnyH_done (by kernel_rfl) ?_ _
    go_wp2_with fail
    go_meet
    exact ⟨rfl, rfl, hHeld⟩
  case rest =>
    obtain ⟨rfl, rfl, hc1, HT1⟩ := hcut
    have HNX1 := toHid ((show Touch [] W wc from HT1).blk HNX (by simp))
    have HT2 := toHid ((show Touch [] w0 W from HT).trans HT1 (by simp))
    clear HT HT1 HNX c0 c1 c2 c3 c4
    obtain ⟨c0, c1, c2, c3, c4⟩ := hc1
    go_upto_region 3 with fail
    go_cut [8, 9] from 8 to 35 (fun a b wx => a = .string ⟨(oT i).toArray⟩ ∧ b = .string ⟨(iT i).toArray⟩ ∧ (wx.cell? ⟨B, 0, none⟩ = some (.int .u8 i.op) ∧ wx.cell? ⟨B, 1, none⟩ = some (.int .u8 i.dst) ∧ wx.cell? ⟨B, 2, none⟩ = some (.int .u8 i.src) ∧ wx.cell? ⟨B, 3, none⟩ = some (.int .i16 i.off) ∧ wx.cell? ⟨B, 4, none⟩ = some (.int .i32 i.imm)) ∧ Hid (Touch [] wc wx))
    case first =>
      refine wp_region_held_drew (S := (fun w' => (w'.cell? ⟨B, 0, none⟩ = some (.int .u8 i.op) ∧ w'.cell? ⟨B, 1, none⟩ = some (.int .u8 i.dst) ∧ w'.cell? ⟨B, 2, none⟩ = some (.int .u8 i.src) ∧ w'.cell? ⟨B, 3, none⟩ = some (.int .i16 i.off) ∧ w'.cell? ⟨B, 4, none⟩ = some (.int .i32 i.imm)) ∧ Hid (Touch [] wc w'))) (by kernel_rfl) ?_ (fun hHeld => ?_)
      · exact ⟨⟨c0, c1, c2, c3, c4⟩, toHid ((Touch.refl [] wc).drew)⟩
      refine wpAnyH_take (i := 0) (v := ?_) rfl (by kernel_rfl) (by kernel_rfl) (by kernel_rfl) (fun _ _ _ h => h) (Or.inl ⟨by rfl, ?_⟩) (by assumption) ?_
      rotate_left
      · (intro w hSw; (try dsimp only at hSw); go_simp; try with_reducible rfl)
      simp only [Act.put, List.getElem_toArray, List.getElem_cons_zero, List.setIfInBounds_toArray, List.set_cons_zero, List.set_cons_succ]
      refine wpAnyH_take (i := 1) (v := ?_) rfl (by kernel_rfl) (by kernel_rfl) (by kernel_rfl) (fun _ _ _ h => h) (Or.inl ⟨by rfl, ?_⟩) (by assumption) ?_
      rotate_left
      · (intro w hSw; (try dsimp only at hSw); go_simp; try with_reducible rfl)
      simp only [Act.put, List.getElem_toArray, List.getElem_cons_zero, List.getElem_cons_succ, List.setIfInBounds_toArray, List.set_cons_zero, List.set_cons_succ]
      refine wpAnyH_take (i := 2) (v := ?_) rfl (by kernel_rfl) (by kernel_rfl) (by kernel_rfl) (fun _ _ _ h => h) (Or.inl ⟨by rfl, ?_⟩) (by assumption) ?_
      rotate_left
      · (intro w hSw; (try dsimp only at hSw); go_simp; try with_reducible rfl)
      simp only [Act.put, List.getElem_toArray, List.getElem_cons_zero, List.getElem_cons_succ, List.setIfInBounds_toArray, List.set_cons_zero, List.set_cons_succ]
      refine wpAnyH_take (i := 5) (v := ?_) rfl (by kernel_rfl) (by kernel_rfl) (by kernel_rfl) (fun _ _ _ h => h) (Or.inl ⟨by rfl, ?_⟩) (by assumption) ?_
      rotate_left
      · (intro w hSw; (try dsimp only at hSw); go_simp; try with_reducible rfl)
      simp only [Act.put, List.getElem_toArray, List.getElem_cons_zero, List.getElem_cons_succ, List.setIfInBounds_toArray, List.set_cons_zero, List.set_cons_succ]
      refine wpAnyH_take (i := 6) (v := ?_) rfl (by kernel_rfl) (by kernel_rfl) (by kernel_rfl) (fun _ _ _ h => h) (Or.inl ⟨by rfl, ?_⟩) (by assumption) ?_
      rotate_left
      · (intro w hSw; (try dsimp only at hSw); go_simp; try with_reducible rfl)
      simp only [Act.put, List.getElem_toArray, List.getElem_cons_zero, List.getElem_cons_succ, List.setIfInBounds_toArray, List.set_cons_zero, List.set_cons_succ]
      refine wpAnyH_take (i := 7) (v := ?_) rfl (by kernel_rfl) (by kernel_rfl) (by kernel_rfl) (fun _ _ _ h => h) (Or.inl ⟨by rfl, ?_⟩) (by assumption) ?_
      rotate_left
      · (intro w hSw; (try dsimp only at hSw); go_simp; try with_reducible rfl)
      simp only [Act.put, List.getElem_toArray, List.getElem_cons_zero, List.getElem_cons_succ, List.setIfInBounds_toArray, List.set_cons_zero, List.set_cons_succ]
      refine wpAnyH_ready (rs := [3]) (by kernel_rfl) (by simp) ?_
      refine AllReadyH.cons rfl (fun K hK => ?_) AllReadyH.nil
      simp only [List.getElem_toArray, List.getElem_cons_zero, List.getElem_cons_succ]
      go_simp
      refine (rsigned_any i.off (by omega) (by omega) _).mono ?_; rintro e w1 ⟨rfl, ht1⟩
      go_wp2_with fail
      refine hK.out _ _ ?_ (fun hHeld => ?_)
      · exact ⟨⟨ht1.cell hHeld.1.1 (by simp), ht1.cell hHeld.1.2.1 (by simp), ht1.cell hHeld.1.2.2.1 (by simp), ht1.cell hHeld.1.2.2.2.1 (by simp), ht1.cell hHeld.1.2.2.2.2 (by simp)⟩, toHid ((show Touch [] wc _ from hHeld.2).trans ht1 (by simp))⟩
      clear hK K ht1
      try simp only [Act.put, List.getElem_toArray, List.getElem_cons_zero, List.getElem_cons_succ, List.setIfInBounds_toArray, List.set_cons_zero, List.set_cons_succ]
      refine wpAnyH_take (i := 4) (v := ?_) rfl (by kernel_rfl) (by kernel_rfl) (by kernel_rfl) (fun _ _ _ h => h) (Or.inl ⟨by rfl, ?_⟩) (by assumption) ?_
      rotate_left
      · (intro w hSw; (try dsimp only at hSw); go_simp; try with_reducible rfl)
      simp only [Act.put, List.getElem_toArray, List.getElem_cons_zero, List.getElem_cons_succ, List.setIfInBounds_toArray, List.set_cons_zero, List.set_cons_succ]
      refine wpAnyH_ready (rs := [8]) (by kernel_rfl) (by simp) ?_
      refine AllReadyH.cons rfl (fun K hK => ?_) AllReadyH.nil
      simp only [List.getElem_toArray, List.getElem_cons_zero, List.getElem_cons_succ]
      go_simp
      refine (rsigned_any i.imm (by omega) (by omega) _).mono ?_; rintro e w1 ⟨rfl, ht1⟩
      go_wp2_with fail
      refine hK.out _ _ ?_ (fun hHeld => ?_)
      · exact ⟨⟨ht1.cell hHeld.1.1 (by simp), ht1.cell hHeld.1.2.1 (by simp), ht1.cell hHeld.1.2.2.1 (by simp), ht1.cell hHeld.1.2.2.2.1 (by simp), ht1.cell hHeld.1.2.2.2.2 (by simp)⟩, toHid ((show Touch [] wc _ from hHeld.2).trans ht1 (by simp))⟩
      clear hK K ht1
      try simp only [Act.put, List.getElem_toArray, List.getElem_cons_zero, List.getElem_cons_succ, List.setIfInBounds_toArray, List.set_cons_zero, List.set_cons_succ]
      refine wpAnyH_take (i := 9) (v := ?_) rfl (by kernel_rfl) (by kernel_rfl) (by kernel_rfl) (fun _ _ _ h => h) (Or.inl ⟨by rfl, ?_⟩) (by assumption) ?_
      rotate_left
      · (intro w hSw; (try dsimp only at hSw); go_simp; try with_reducible rfl)
      simp only [Act.put, List.getElem_toArray, List.getElem_cons_zero, List.getElem_cons_succ, List.setIfInBounds_toArray, List.set_cons_zero, List.set_cons_succ]
      refine wpAnyH_ready (rs := [10]) (by kernel_rfl) (by simp) ?_
      refine AllReadyH.cons rfl (fun K hK => ?_) AllReadyH.nil
      simp only [List.getElem_toArray, List.getElem_cons_zero, List.getElem_cons_succ]
      go_simp
      refine hK.out _ _ ?_ (fun hHeld => ?_)
      · exact hHeld
      clear hK K
      try simp only [Act.put, List.getElem_toArray, List.getElem_cons_zero, List.getElem_cons_succ, List.setIfInBounds_toArray, List.set_cons_zero, List.set_cons_succ]
      refine wpAnyH_ready (rs := [11]) (by kernel_rfl) (by simp) ?_
      refine AllReadyH.cons rfl (fun K hK => ?_) AllReadyH.nil
      simp only [List.getElem_toArray, List.getElem_cons_zero, List.getElem_cons_succ]
      go_simp
      refine hK.out _ _ ?_ (fun hHeld => ?_)
      · exact hHeld
      clear hK K
      try simp only [Act.put, List.getElem_toArray, List.getElem_cons_zero, List.getElem_cons_succ, List.setIfInBounds_toArray, List.set_cons_zero, List.set_cons_succ]
      refine wpAnyH_done (by kernel_rfl) ?_ _
      go_wp2_with fail
      go_meet
      exact ⟨rfl, rfl, hHeld⟩
    case rest =>
      obtain ⟨rfl, rfl, hc1, HT1⟩ := hcut
      have HNX3 := toHid ((show Touch [] _ wc from HT1).blk HNX1 (by simp))
      have HT3 := toHid (HT2.out.trans HT1 (by simp))
      clear HT2 HT1 HNX1 c0 c1 c2 c3 c4 hbd hbs hbo hbm hld hls hlo hlm e1 e2 e3 e4
      obtain ⟨c0, c1, c2, c3, c4⟩ := hc1
      obtain ⟨D, hD⟩ : ∃ D, D = dT i := ⟨_, rfl⟩
      obtain ⟨S, hS⟩ : ∃ S, S = sT i := ⟨_, rfl⟩
      obtain ⟨O, hO⟩ : ∃ O, O = oT i := ⟨_, rfl⟩
      obtain ⟨M, hM⟩ : ∃ M, M = iT i := ⟨_, rfl⟩
      have lD : D.length ≤ 30 := by rw [hD]; unfold dT; have := nDigits_le20 i.dst.toNat (by omega); rw [← Lib.decDigits_length] at this; simp; omega
      have lS : S.length ≤ 30 := by rw [hS]; unfold sT; have := nDigits_le20 i.src.toNat (by omega); rw [← Lib.decDigits_length] at this; simp; omega
      have lO : O.length ≤ 30 := by rw [hO]; unfold oT; have := Lib.itoa_length_le i.off (by omega) (by omega); simp; omega
      have lM : M.length ≤ 30 := by rw [hM]; unfold iT; have := Lib.itoa_length_le i.imm (by omega) (by omega); simp; omega
      rw [← hD, ← hS, ← hO, ← hM]
      have HD := toHid hD
      have HS := toHid hS
      have HO := toHid hO
      have HM := toHid hM
      clear hD hS hO hM
      obtain ⟨j, hj⟩ : ∃ j : Nat, i.op / 8 % 4 = j := ⟨(i.op / 8 % 4).toNat, by omega⟩
      obtain ⟨z, hz⟩ : ∃ z, sizN[j]? = some z := ⟨_, List.getElem?_eq_getElem (by simp [sizN]; omega)⟩
      have lz : z.length ≤ 4 := names_len.2.1 z (List.mem_of_getElem? hz)
      have HZ : Hid (at0 sizN (i.op / 8 % 4) = z) := toHid (by rw [hj]; simp [at0, hz])
      have hA := Blk.newA wc #[str [119], str [104], str [98], str [100, 119]] (sizN.map str) 9 rfl
      have cz := hA.cell (i := j) (v := str z) (by rw [List.getElem?_map, hz]; rfl)
      have htA := (Touch.refl [] wc).alloc (.cells #[str [119], str [104], str [98], str [100, 119]] 9)
      have HT4 := toHid ((show Touch [] w0 wc from HT3).trans htA (by simp))
      have c2' := htA.cell c2 (by simp)
      have HNX4 := toHid (htA.blk HNX3 (by simp))
      have hcA := htA.cell c0 (by simp)
      have hcB := htA.cell c1 (by simp)
      have hcC := htA.cell c3 (by simp)
      have hcD := htA.cell c4 (by simp)
      unfold str at cz htA HT4 HNX4 c2' hcA hcB hcC hcD
      have hj4 : j < 4 := by omega
      clear hA htA HT3 HNX3 c1 c3 c4
      by_cases hx : i.op / 8 % 2 = 1
      · have hxT : xT i = S := by unfold xT; rw [if_pos hx]; exact HS.out.symm
        have HXT := toHid hxT
        clear hxT
        go_upto_region 9 with fail
        clear c0 c2 cz
        generalize wc.alloc (.cells #[.string ⟨#[119]⟩, .string ⟨#[104]⟩, .string ⟨#[98]⟩, .string ⟨#[100, 119]⟩] 9) = W2 at *
        have hkb := kind_bd i.op q0 q1 hk
        have h6 := six_of i.op q0 q1 hk
        obtain ⟨k, hq⟩ : ∃ k : Nat, i.op / 16 = k := ⟨(i.op / 16).toNat, by omega⟩
        have HR : Hid (r = lineP i nx) := toHid hr
        clear hr
        have h8 : i.op % 8 = 0 ∨ i.op % 8 = 1 ∨ i.op % 8 = 2 ∨ i.op % 8 = 3 ∨ i.op % 8 = 4 ∨ i.op % 8 = 7 ∨ i.op % 8 = 5 ∨ i.op % 8 = 6 := by omega
        rcases h8 with hc | hc | hc | hc | hc | hc | hc | hc
        · have h24 := h6.1 hc
          have hnx : Blk W2 C nx.cells 41 := HNX4
          have k0 := hnx.cell (i := 0) (v := .int .u8 nx.op) rfl
          have k1 := hnx.cell (i := 1) (v := .int .u8 nx.dst) rfl
          have k2 := hnx.cell (i := 2) (v := .int .u8 nx.src) rfl
          have k3 := hnx.cell (i := 3) (v := .int .i16 nx.off) rfl
          have k4 := hnx.cell (i := 4) (v := .int .i32 nx.imm) rfl
          have hl0 : 0 ≤ longR i.imm nx.imm := by unfold longR; omega
          have hl1 : longR i.imm nx.imm < 18446744073709551616 := by unfold longR; omega
          have HLL : Hid (longI i nx = longR i.imm nx.imm) := toHid rfl
          have hll : (Lib.decDigits (longR i.imm nx.imm).toNat).length ≤ 20 := by rw [Lib.decDigits_length]; exact nDigits_le20 _ (by omega)
          have hs1 := hsrc (Or.inl h24)
          clear hnx
          by_cases hsr : i.src = 1
          · have n0 : ¬ 9223372036854775807 < 5 + D.length := by omega
            have n1 : ¬ 9223372036854775807 < 5 + D.length + 1 := by omega
            have n2 : ¬ 9223372036854775807 < 5 + D.length + 1 + (Lib.decDigits (longR i.imm nx.imm).toNat).length := by omega
            go_wp2_with (first | (go_at_call 36; refine (rlong_raw _ _ _ _ _ _ _ _ _ _ _).mono ?_; rintro e w1 ⟨rfl, ht1⟩) | (go_at_call 34; refine (rnumber_int _ hl0 hl1 _).mono ?_; rintro e w2 ⟨rfl, ht2⟩))
            go_ret
            exact ⟨congrArg (fun b => Ending.returned (.string b)) (by rw [HR.out, line_0a i nx h24 hsr]; simp only [HD.out, HLL.out, ba_append]), ((show Touch [] w0 W2 from HT4).trans ht1 (by simp)).trans ht2 (by simp)⟩
          · have n0 : ¬ 9223372036854775807 < 4 + D.length := by omega
            have n1 : ¬ 9223372036854775807 < 4 + D.length + 1 := by omega
            have n2 : ¬ 9223372036854775807 < 4 + D.length + 1 + (Lib.decDigits (longR i.imm nx.imm).toNat).length := by omega
            go_wp2_with (first | (go_at_call 36; refine (rlong_raw _ _ _ _ _ _ _ _ _ _ _).mono ?_; rintro e w1 ⟨rfl, ht1⟩) | (go_at_call 34; refine (rnumber_int _ hl0 hl1 _).mono ?_; rintro e w2 ⟨rfl, ht2⟩))
            go_ret
            exact ⟨congrArg (fun b => Ending.returned (.string b)) (by rw [HR.out, line_0b i nx h24 (by omega)]; simp only [HD.out, HLL.out, ba_append]), ((show Touch [] w0 W2 from HT4).trans ht1 (by simp)).trans ht2 (by simp)⟩
        · have n0 : ¬ 9223372036854775807 < 3 + z.length := by omega
          have n1 : ¬ 9223372036854775807 < 3 + z.length + D.length := by omega
          have n2 : ¬ 9223372036854775807 < 3 + z.length + D.length + S.length := by omega
          have n3 : ¬ 9223372036854775807 < 3 + z.length + D.length + S.length + O.length := by omega
          go_wp2
          go_ret
          exact ⟨congrArg (fun b => Ending.returned (.string b)) (by rw [HR.out, line_1 i nx hc]; simp only [HZ.out, HD.out, HS.out, HO.out, ba_append]), HT4⟩
        · have n0 : ¬ 9223372036854775807 < 2 + z.length := by omega
          have n1 : ¬ 9223372036854775807 < 2 + z.length + D.length := by omega
          have n2 : ¬ 9223372036854775807 < 2 + z.length + D.length + O.length := by omega
          have n3 : ¬ 9223372036854775807 < 2 + z.length + D.length + O.length + M.length := by omega
          go_wp2
          go_ret
          exact ⟨congrArg (fun b => Ending.returned (.string b)) (by rw [HR.out, line_2 i nx hc]; simp only [HZ.out, HD.out, HM.out, HO.out, ba_append]), HT4⟩
        · have n0 : ¬ 9223372036854775807 < 3 + z.length := by omega
          have n1 : ¬ 9223372036854775807 < 3 + z.length + D.length := by omega
          have n2 : ¬ 9223372036854775807 < 3 + z.length + D.length + O.length := by omega
          have n3 : ¬ 9223372036854775807 < 3 + z.length + D.length + O.length + S.length := by omega
          go_wp2
          go_ret
          exact ⟨congrArg (fun b => Ending.returned (.string b)) (by rw [HR.out, line_3 i nx hc]; simp only [HZ.out, HD.out, HS.out, HO.out, ba_append]), HT4⟩
        · by_cases hk8 : i.op / 16 = 8
          · have n0 : ¬ 9223372036854775807 < 5 + D.length := by omega
            go_wp2
            go_ret
            exact ⟨congrArg (fun b => Ending.returned (.string b)) (by rw [HR.out, line_4a i nx hc hk8]; simp only [HD.out, ba_append]), HT4⟩
          · have g8 : ¬ (k : Int) = 8 := by omega
            obtain ⟨s, hs⟩ : ∃ s, aluN[k]? = some s := ⟨_, List.getElem?_eq_getElem (by simp [aluN]; omega)⟩
            have HA : Hid (at0 aluN (i.op / 16) = s) := toHid (by rw [hq]; simp [at0, hs])
            have ls : s.length ≤ 4 := names_len.2.2.1 s (List.mem_of_getElem? hs)
            have n0 : ¬ 9223372036854775807 < s.length + 2 := by omega
            have n1 : ¬ 9223372036854775807 < s.length + 2 + D.length := by omega
            have n2 : ¬ 9223372036854775807 < s.length + 2 + D.length + S.length := by omega
            simp only [hq]
            go_wp2_with (go_at_call 37; refine (ralu_any k s hs _).mono ?_; rintro e w1 ⟨rfl, ht1⟩)
            go_ret
            exact ⟨congrArg (fun b => Ending.returned (.string b)) (by rw [HR.out, line_4b i nx hc hk8]; simp only [HA.out, HD.out, HXT.out, ba_append]), (show Touch [] w0 W2 from HT4).trans ht1 (by simp)⟩
        · by_cases hk8 : i.op / 16 = 8
          · have n0 : ¬ 9223372036854775807 < 3 + D.length := by omega
            go_wp2
            go_ret
            exact ⟨congrArg (fun b => Ending.returned (.string b)) (by rw [HR.out, line_7a i nx hc hk8]; simp only [HD.out, ba_append]), HT4⟩
          · have g8 : ¬ (k : Int) = 8 := by omega
            obtain ⟨s, hs⟩ : ∃ s, aluN[k]? = some s := ⟨_, List.getElem?_eq_getElem (by simp [aluN]; omega)⟩
            have HA : Hid (at0 aluN (i.op / 16) = s) := toHid (by rw [hq]; simp [at0, hs])
            have ls : s.length ≤ 4 := names_len.2.2.1 s (List.mem_of_getElem? hs)
            have n0 : ¬ 9223372036854775807 < s.length + D.length := by omega
            have n1 : ¬ 9223372036854775807 < s.length + D.length + S.length := by omega
            simp only [hq]
            go_wp2_with (go_at_call 37; refine (ralu_any k s hs _).mono ?_; rintro e w1 ⟨rfl, ht1⟩)
            go_ret
            exact ⟨congrArg (fun b => Ending.returned (.string b)) (by rw [HR.out, line_7b i nx hc hk8]; simp only [HA.out, HD.out, HXT.out, ba_append]), (show Touch [] w0 W2 from HT4).trans ht1 (by simp)⟩
        · by_cases hk0 : i.op / 16 = 0
          · have n0 : ¬ 9223372036854775807 < 2 + O.length := by omega
            go_wp2
            go_ret
            exact ⟨congrArg (fun b => Ending.returned (.string b)) (by rw [HR.out, line_5a i nx hc hk0]; simp only [HO.out, ba_append]), HT4⟩
          by_cases hk8 : i.op / 16 = 8
          · exact absurd (h6.2.2 hc hk8) (by omega)
          by_cases hk9 : i.op / 16 = 9
          · go_wp2
            go_ret
            exact ⟨by rw [HR.out, line_5d i nx hc hk9]; rfl, HT4⟩
          have g0 : ¬ (k : Int) = 0 := by omega
          have g8 : ¬ (k : Int) = 8 := by omega
          have g9 : ¬ (k : Int) = 9 := by omega
          obtain ⟨s, hs⟩ : ∃ s, jmpN[k]? = some s := ⟨_, List.getElem?_eq_getElem (by simp [jmpN]; omega)⟩
          have HA : Hid (at0 jmpN (i.op / 16) = s) := toHid (by rw [hq]; simp [at0, hs])
          have ls : s.length ≤ 4 := names_len.2.2.2 s (List.mem_of_getElem? hs)
          have n0 : ¬ 9223372036854775807 < s.length + D.length := by omega
          have n1 : ¬ 9223372036854775807 < s.length + D.length + S.length := by omega
          have n2 : ¬ 9223372036854775807 < s.length + D.length + S.length + O.length := by omega
          simp only [hq]
          go_wp2_with (go_at_call 38; refine (rjump_any k s hs _).mono ?_; rintro e w1 ⟨rfl, ht1⟩)
          go_ret
          exact ⟨congrArg (fun b => Ending.returned (.string b)) (by rw [HR.out, line_5e i nx hc hk0 hk8 hk9]; simp only [HA.out, HD.out, HXT.out, HO.out, ba_append]), (show Touch [] w0 W2 from HT4).trans ht1 (by simp)⟩
        · obtain ⟨hk0, hk8, hk9⟩ := h6.2.1 hc
          have g0 : ¬ (k : Int) = 0 := by omega
          have g8 : ¬ (k : Int) = 8 := by omega
          have g9 : ¬ (k : Int) = 9 := by omega
          obtain ⟨s, hs⟩ : ∃ s, jmpN[k]? = some s := ⟨_, List.getElem?_eq_getElem (by simp [jmpN]; omega)⟩
          have HA : Hid (at0 jmpN (i.op / 16) = s) := toHid (by rw [hq]; simp [at0, hs])
          have ls : s.length ≤ 4 := names_len.2.2.2 s (List.mem_of_getElem? hs)
          have n0 : ¬ 9223372036854775807 < s.length + 2 := by omega
          have n1 : ¬ 9223372036854775807 < s.length + 2 + D.length := by omega
          have n2 : ¬ 9223372036854775807 < s.length + 2 + D.length + S.length := by omega
          have n3 : ¬ 9223372036854775807 < s.length + 2 + D.length + S.length + O.length := by omega
          simp only [hq]
          go_wp2_with (go_at_call 38; refine (rjump_any k s hs _).mono ?_; rintro e w1 ⟨rfl, ht1⟩)
          go_ret
          exact ⟨congrArg (fun b => Ending.returned (.string b)) (by rw [HR.out, line_6 i nx hc hk0 hk8 hk9]; simp only [HA.out, HD.out, HXT.out, HO.out, ba_append]), (show Touch [] w0 W2 from HT4).trans ht1 (by simp)⟩
      · have hxT : xT i = M := by unfold xT; rw [if_neg hx]; exact HM.out.symm
        have HXT := toHid hxT
        clear hxT
        go_upto_region 9 with fail
        clear c0 c2 cz
        generalize wc.alloc (.cells #[.string ⟨#[119]⟩, .string ⟨#[104]⟩, .string ⟨#[98]⟩, .string ⟨#[100, 119]⟩] 9) = W2 at *
        have hkb := kind_bd i.op q0 q1 hk
        have h6 := six_of i.op q0 q1 hk
        obtain ⟨k, hq⟩ : ∃ k : Nat, i.op / 16 = k := ⟨(i.op / 16).toNat, by omega⟩
        have HR : Hid (r = lineP i nx) := toHid hr
        clear hr
        have h8 : i.op % 8 = 0 ∨ i.op % 8 = 1 ∨ i.op % 8 = 2 ∨ i.op % 8 = 3 ∨ i.op % 8 = 4 ∨ i.op % 8 = 7 ∨ i.op % 8 = 5 ∨ i.op % 8 = 6 := by omega
        rcases h8 with hc | hc | hc | hc | hc | hc | hc | hc
        · exact absurd (h6.1 hc) (by omega)
        · have n0 : ¬ 9223372036854775807 < 3 + z.length := by omega
          have n1 : ¬ 9223372036854775807 < 3 + z.length + D.length := by omega
          have n2 : ¬ 9223372036854775807 < 3 + z.length + D.length + S.length := by omega
          have n3 : ¬ 9223372036854775807 < 3 + z.length + D.length + S.length + O.length := by omega
          go_wp2
          go_ret
          exact ⟨congrArg (fun b => Ending.returned (.string b)) (by rw [HR.out, line_1 i nx hc]; simp only [HZ.out, HD.out, HS.out, HO.out, ba_append]), HT4⟩
        · have n0 : ¬ 9223372036854775807 < 2 + z.length := by omega
          have n1 : ¬ 9223372036854775807 < 2 + z.length + D.length := by omega
          have n2 : ¬ 9223372036854775807 < 2 + z.length + D.length + O.length := by omega
          have n3 : ¬ 9223372036854775807 < 2 + z.length + D.length + O.length + M.length := by omega
          go_wp2
          go_ret
          exact ⟨congrArg (fun b => Ending.returned (.string b)) (by rw [HR.out, line_2 i nx hc]; simp only [HZ.out, HD.out, HM.out, HO.out, ba_append]), HT4⟩
        · have n0 : ¬ 9223372036854775807 < 3 + z.length := by omega
          have n1 : ¬ 9223372036854775807 < 3 + z.length + D.length := by omega
          have n2 : ¬ 9223372036854775807 < 3 + z.length + D.length + O.length := by omega
          have n3 : ¬ 9223372036854775807 < 3 + z.length + D.length + O.length + S.length := by omega
          go_wp2
          go_ret
          exact ⟨congrArg (fun b => Ending.returned (.string b)) (by rw [HR.out, line_3 i nx hc]; simp only [HZ.out, HD.out, HS.out, HO.out, ba_append]), HT4⟩
        · by_cases hk8 : i.op / 16 = 8
          · have n0 : ¬ 9223372036854775807 < 5 + D.length := by omega
            go_wp2
            go_ret
            exact ⟨congrArg (fun b => Ending.returned (.string b)) (by rw [HR.out, line_4a i nx hc hk8]; simp only [HD.out, ba_append]), HT4⟩
          · have g8 : ¬ (k : Int) = 8 := by omega
            obtain ⟨s, hs⟩ : ∃ s, aluN[k]? = some s := ⟨_, List.getElem?_eq_getElem (by simp [aluN]; omega)⟩
            have HA : Hid (at0 aluN (i.op / 16) = s) := toHid (by rw [hq]; simp [at0, hs])
            have ls : s.length ≤ 4 := names_len.2.2.1 s (List.mem_of_getElem? hs)
            have n0 : ¬ 9223372036854775807 < s.length + 2 := by omega
            have n1 : ¬ 9223372036854775807 < s.length + 2 + D.length := by omega
            have n2 : ¬ 9223372036854775807 < s.length + 2 + D.length + M.length := by omega
            simp only [hq]
            go_wp2_with (go_at_call 37; refine (ralu_any k s hs _).mono ?_; rintro e w1 ⟨rfl, ht1⟩)
            go_ret
            exact ⟨congrArg (fun b => Ending.returned (.string b)) (by rw [HR.out, line_4b i nx hc hk8]; simp only [HA.out, HD.out, HXT.out, ba_append]), (show Touch [] w0 W2 from HT4).trans ht1 (by simp)⟩
        · by_cases hk8 : i.op / 16 = 8
          · have n0 : ¬ 9223372036854775807 < 3 + D.length := by omega
            go_wp2
            go_ret
            exact ⟨congrArg (fun b => Ending.returned (.string b)) (by rw [HR.out, line_7a i nx hc hk8]; simp only [HD.out, ba_append]), HT4⟩
          · have g8 : ¬ (k : Int) = 8 := by omega
            obtain ⟨s, hs⟩ : ∃ s, aluN[k]? = some s := ⟨_, List.getElem?_eq_getElem (by simp [aluN]; omega)⟩
            have HA : Hid (at0 aluN (i.op / 16) = s) := toHid (by rw [hq]; simp [at0, hs])
            have ls : s.length ≤ 4 := names_len.2.2.1 s (List.mem_of_getElem? hs)
            have n0 : ¬ 9223372036854775807 < s.length + D.length := by omega
            have n1 : ¬ 9223372036854775807 < s.length + D.length + M.length := by omega
            simp only [hq]
            go_wp2_with (go_at_call 37; refine (ralu_any k s hs _).mono ?_; rintro e w1 ⟨rfl, ht1⟩)
            go_ret
            exact ⟨congrArg (fun b => Ending.returned (.string b)) (by rw [HR.out, line_7b i nx hc hk8]; simp only [HA.out, HD.out, HXT.out, ba_append]), (show Touch [] w0 W2 from HT4).trans ht1 (by simp)⟩
        · by_cases hk0 : i.op / 16 = 0
          · have n0 : ¬ 9223372036854775807 < 2 + O.length := by omega
            go_wp2
            go_ret
            exact ⟨congrArg (fun b => Ending.returned (.string b)) (by rw [HR.out, line_5a i nx hc hk0]; simp only [HO.out, ba_append]), HT4⟩
          by_cases hk8 : i.op / 16 = 8
          · by_cases hsr : i.src = 1
            · have n0 : ¬ 9223372036854775807 < 5 + M.length := by omega
              go_wp2
              go_ret
              exact ⟨congrArg (fun b => Ending.returned (.string b)) (by rw [HR.out, line_5b i nx (h6.2.2 hc hk8) hsr]; simp only [HM.out, ba_append]), HT4⟩
            · have n0 : ¬ 9223372036854775807 < 4 + M.length := by omega
              go_wp2
              go_ret
              exact ⟨congrArg (fun b => Ending.returned (.string b)) (by rw [HR.out, line_5c i nx hc hk8 hsr]; simp only [HM.out, ba_append]), HT4⟩
          by_cases hk9 : i.op / 16 = 9
          · go_wp2
            go_ret
            exact ⟨by rw [HR.out, line_5d i nx hc hk9]; rfl, HT4⟩
          have g0 : ¬ (k : Int) = 0 := by omega
          have g8 : ¬ (k : Int) = 8 := by omega
          have g9 : ¬ (k : Int) = 9 := by omega
          obtain ⟨s, hs⟩ : ∃ s, jmpN[k]? = some s := ⟨_, List.getElem?_eq_getElem (by simp [jmpN]; omega)⟩
          have HA : Hid (at0 jmpN (i.op / 16) = s) := toHid (by rw [hq]; simp [at0, hs])
          have ls : s.length ≤ 4 := names_len.2.2.2 s (List.mem_of_getElem? hs)
          have n0 : ¬ 9223372036854775807 < s.length + D.length := by omega
          have n1 : ¬ 9223372036854775807 < s.length + D.length + M.length := by omega
          have n2 : ¬ 9223372036854775807 < s.length + D.length + M.length + O.length := by omega
          simp only [hq]
          go_wp2_with (go_at_call 38; refine (rjump_any k s hs _).mono ?_; rintro e w1 ⟨rfl, ht1⟩)
          go_ret
          exact ⟨congrArg (fun b => Ending.returned (.string b)) (by rw [HR.out, line_5e i nx hc hk0 hk8 hk9]; simp only [HA.out, HD.out, HXT.out, HO.out, ba_append]), (show Touch [] w0 W2 from HT4).trans ht1 (by simp)⟩
        · obtain ⟨hk0, hk8, hk9⟩ := h6.2.1 hc
          have g0 : ¬ (k : Int) = 0 := by omega
          have g8 : ¬ (k : Int) = 8 := by omega
          have g9 : ¬ (k : Int) = 9 := by omega
          obtain ⟨s, hs⟩ : ∃ s, jmpN[k]? = some s := ⟨_, List.getElem?_eq_getElem (by simp [jmpN]; omega)⟩
          have HA : Hid (at0 jmpN (i.op / 16) = s) := toHid (by rw [hq]; simp [at0, hs])
          have ls : s.length ≤ 4 := names_len.2.2.2 s (List.mem_of_getElem? hs)
          have n0 : ¬ 9223372036854775807 < s.length + 2 := by omega
          have n1 : ¬ 9223372036854775807 < s.length + 2 + D.length := by omega
          have n2 : ¬ 9223372036854775807 < s.length + 2 + D.length + M.length := by omega
          have n3 : ¬ 9223372036854775807 < s.length + 2 + D.length + M.length + O.length := by omega
          simp only [hq]
          go_wp2_with (go_at_call 38; refine (rjump_any k s hs _).mono ?_; rintro e w1 ⟨rfl, ht1⟩)
          go_ret
          exact ⟨congrArg (fun b => Ending.returned (.string b)) (by rw [HR.out, line_6 i nx hc hk0 hk8 hk9]; simp only [HA.out, HD.out, HXT.out, HO.out, ba_append]), (show Touch [] w0 W2 from HT4).trans ht1 (by simp)⟩
end Go.Proofs.YthlfnmjefpdjgaaGreatDoor
