/-
  The small functions of package alu: what each call returns.
-/
import Derived.Test.YtfcekjdjhgoofaaRows
import Derived.Test.YtfcekjdjhgoofaaPure
namespace Go.Proofs.Ytfcekjdjhgoofaa
open Go.RowKit

set_option maxHeartbeats 400000 in
theorem within_any (wide : Bool) (a : Int) (w : World) :
    Calls Try.prog 18 #[.bool wide, .int .u64 a] w fun e w' => e = .returned (.int .u64 (cutI wide a)) ∧ w' = w := by
  cases wide
  all_goals
    go_enter Try.func18, Try.ntmps18
    go_wp2
    go_ret
    exact ⟨rfl, rfl⟩
theorem sgn_w (a : Int) (h : U64 a) : wrap64 a = sgnI true a := by
  obtain ⟨h0, h1⟩ := h
  simp only [wrap64, sgnI, cutI, halfI, modI, ↓reduceIte]
  split <;> omega
theorem sgn_n (a : Int) (h : U64 a) : wrap64 (wrap32 a) = sgnI false a := by
  obtain ⟨h0, h1⟩ := h
  simp only [wrap64, wrap32, sgnI, cutI, halfI, modI, Bool.false_eq_true, ↓reduceIte]
  split <;> omega
theorem sgn_bd {a : Int} (h : U64 a) (w : Bool) : -9223372036854775808 ≤ sgnI w a ∧ sgnI w a ≤ 9223372036854775807 := by
  obtain ⟨h0, h1⟩ := h
  cases w <;> simp only [sgnI, cutI, halfI, modI, Bool.false_eq_true, ↓reduceIte] <;> split <;> omega
set_option maxHeartbeats 400000 in
theorem signed_any (wide : Bool) (a : Int) (w : World) (h : U64 a) :
    Calls Try.prog 24 #[.bool wide, .int .u64 a] w fun e w' => e = .returned (.int .i64 (sgnI wide a)) ∧ w' = w := by
  cases wide
  · go_enter Try.func24, Try.ntmps24
    go_wp2
    go_ret
    exact ⟨ret_int (sgn_n a h), rfl⟩
  · go_enter Try.func24, Try.ntmps24
    go_wp2
    go_ret
    exact ⟨ret_int (sgn_w a h), rfl⟩
set_option maxHeartbeats 400000 in
theorem quotient_any (a b : Int) (w : World) (ha : U64 a) (hb : U64 b) :
    Calls Try.prog 27 #[.int .u64 a, .int .u64 b] w fun e w' => e = .returned (.int .u64 (a / b)) ∧ w' = w := by
  obtain ⟨h0, h1⟩ := ha
  obtain ⟨g0, g1⟩ := hb
  have h2 : 0 ≤ a / b := Int.ediv_nonneg h0 g0
  have h3 : a / b ≤ a := Int.ediv_le_self b h0
  by_cases hb : b = 0
  · subst hb
    go_enter Try.func27, Try.ntmps27
    go_wp2
    go_ret
    exact ⟨ret_int (by simp), rfl⟩
  · go_enter Try.func27, Try.ntmps27
    go_wp2
    go_ret
    exact ⟨rfl, rfl⟩
set_option maxHeartbeats 400000 in
theorem rest_any (a b : Int) (w : World) (ha : U64 a) (hb : U64 b) :
    Calls Try.prog 28 #[.int .u64 a, .int .u64 b] w fun e w' => e = .returned (.int .u64 (a % b)) ∧ w' = w := by
  obtain ⟨h0, h1⟩ := ha
  obtain ⟨g0, g1⟩ := hb
  by_cases hb : b = 0
  · subst hb
    go_enter Try.func28, Try.ntmps28
    go_wp2
    go_ret
    exact ⟨ret_int (by simp), rfl⟩
  · go_enter Try.func28, Try.ntmps28
    go_wp2
    go_ret
    exact ⟨rfl, rfl⟩

theorem tmod16 (k : Int) : k.tmod 16 = 0 ↔ k % 16 = 0 := by
  rw [← Int.dvd_iff_tmod_eq_zero, Int.dvd_iff_emod_eq_zero]
set_option maxHeartbeats 400000 in
theorem isOperation_any (k : Int) (w : World) :
    Calls Try.prog 15 #[.int .i64 k] w fun e w' => e = .returned (.bool (okOp k)) ∧ w' = w := by
  go_enter Try.func15, Try.ntmps15
  go_wp2
  all_goals
    go_ret
    refine ⟨ret_bool ?_, rfl⟩
    unfold okOp
    rw [Bool.eq_iff_iff]
    simp_all [tmod16]
    try omega
set_option maxHeartbeats 400000 in
theorem isShift_any (k : Int) (w : World) :
    Calls Try.prog 16 #[.int .i64 k] w fun e w' => e = .returned (.bool (decide (k = 96 ∨ k = 112 ∨ k = 192))) ∧ w' = w := by
  go_enter Try.func16, Try.ntmps16
  go_wp2
  all_goals
    go_ret
    refine ⟨ret_bool ?_, rfl⟩
    rw [Bool.eq_iff_iff]
    simp_all
set_option maxHeartbeats 400000 in
theorem isCondition_any (k : Int) (w : World) :
    Calls Try.prog 21 #[.int .i64 k] w fun e w' => e = .returned (.bool (okCond k)) ∧ w' = w := by
  go_enter Try.func21, Try.ntmps21
  go_wp2
  all_goals
    go_ret
    refine ⟨ret_bool ?_, rfl⟩
    unfold okCond
    rw [Bool.eq_iff_iff]
    simp_all
    try omega
def sigB (k : Int) : Bool := decide (k = 96 ∨ k = 112 ∨ k = 192 ∨ k = 208)
set_option maxHeartbeats 400000 in
theorem isSigned_any (k : Int) (w : World) :
    Calls Try.prog 22 #[.int .i64 k] w fun e w' => e = .returned (.bool (sigB k)) ∧ w' = w := by
  go_enter Try.func22, Try.ntmps22
  go_wp2
  all_goals
    go_ret
    refine ⟨ret_bool ?_, rfl⟩
    unfold sigB
    rw [Bool.eq_iff_iff]
    simp_all
def ordI (k a b : Int) : Bool := if k = 96 then decide (b < a) else if k = 112 then decide (b ≤ a) else if k = 192 then decide (a < b) else decide (a ≤ b)
set_option maxHeartbeats 400000 in
theorem ordered_any (k a b : Int) (w : World) :
    Calls Try.prog 23 #[.int .i64 k, .int .i64 a, .int .i64 b] w fun e w' => e = .returned (.bool (ordI k a b)) ∧ w' = w := by
  go_enter Try.func23, Try.ntmps23
  go_wp2
  all_goals
    go_ret
    refine ⟨ret_bool ?_, rfl⟩
    unfold ordI
    rw [Bool.eq_iff_iff]
    simp_all
def cmpI (k a b : Int) : Bool := if k = 16 then decide (a = b) else if k = 80 then decide (a ≠ b) else if k = 32 then decide (b < a) else if k = 48 then decide (b ≤ a) else if k = 160 then decide (a < b)
  else if k = 176 then decide (a ≤ b) else decide (bits .and .u64 a b ≠ 0)
set_option maxHeartbeats 400000 in
theorem compared_any (k a b : Int) (w : World) :
    Calls Try.prog 25 #[.int .i64 k, .int .u64 a, .int .u64 b] w fun e w' => e = .returned (.bool (cmpI k a b)) ∧ w' = w := by
  go_enter Try.func25, Try.ntmps25
  go_wp2
  all_goals
    go_ret
    refine ⟨ret_bool ?_, rfl⟩
    unfold cmpI
    rw [Bool.eq_iff_iff]
    simp_all
def recI (k a b : Int) : Int := if k = 0 then (a + b) % 18446744073709551616 else if k = 16 then (a - b) % 18446744073709551616 else if k = 32 then (a * b) % 18446744073709551616
  else if k = 48 then a / b else if k = 144 then a % b else if k = 64 then bits .or .u64 a b else if k = 80 then bits .and .u64 a b else if k = 160 then bits .xor .u64 a b
  else if k = 128 then (-a) % 18446744073709551616 else b
set_option maxHeartbeats 400000 in
theorem reckoned_any (k a b : Int) (w : World) (ha : U64 a) (hb : U64 b) :
    Calls Try.prog 19 #[.int .i64 k, .int .u64 a, .int .u64 b] w fun e w' => e = .returned (.int .u64 (recI k a b)) ∧ w' = w := by
  go_enter Try.func19, Try.ntmps19
  go_wp2_with (first | (go_at_call 27; refine (quotient_any _ _ _ ha hb).mono ?_; rintro e w ⟨rfl, rfl⟩) | (go_at_call 28; refine (rest_any _ _ _ ha hb).mono ?_; rintro e w ⟨rfl, rfl⟩))
  all_goals
    go_ret
    refine ⟨ret_int ?_, rfl⟩
    simp_all [recI, IntKind.wrap_u64]
set_option maxHeartbeats 400000 in
theorem bitsOf_any (wide : Bool) (w : World) :
    Calls Try.prog 11 #[.bool wide] w fun e w' => e = .returned (.int .i64 (lenI wide)) ∧ w' = w := by
  cases wide
  all_goals
    go_enter Try.func11, Try.ntmps11
    go_wp2
    go_ret
    exact ⟨rfl, rfl⟩
set_option maxHeartbeats 400000 in
theorem shifted_any (k : Int) (wide : Bool) (a b : Int) (w : World) (hk : k = 96 ∨ k = 112 ∨ k = 192) (ha : U64 a) (hb : U64 b) :
    Calls Try.prog 17 #[.int .i64 k, .bool wide, .int .u64 a, .int .u64 b] w fun e w' => e = .returned (.int .u64 (opI k wide a b)) ∧ w' = w := by
  have m1 := and31 hb
  have m2 := and63 hb
  obtain ⟨g0, g1⟩ := hb
  cases wide <;> rcases hk with rfl | rfl | rfl
  all_goals go_enter Try.func17, Try.ntmps17
  all_goals go_wp2_with (first | (go_at_call 18; refine (within_any _ _ _).mono ?_; rintro e w ⟨rfl, rfl⟩) | (go_at_call 24; refine (signed_any _ _ _ ha).mono ?_; rintro e w ⟨rfl, rfl⟩))
  all_goals go_ret
  all_goals refine ⟨ret_int ?_, rfl⟩
  all_goals first | (rw [op96, IntKind.wrap_u64]; rfl) | (rw [op112]; rfl) | (rw [op192, IntKind.wrap_u64]; rfl)
theorem do_pure (k : Int) (w : Bool) (a b : Int) (hk : okOp k = true) (hs : decide (k = 96 ∨ k = 112 ∨ k = 192) = false) (ha : U64 a) (hb : U64 b) : cutI w (recI k (cutI w a) (cutI w b)) = opI k w a b := by
  unfold okOp at hk
  simp at hk hs
  have hl := bit_lt ha hb w
  have h1 := ha.cut w
  have h2 := hb.cut w
  have : k = 0 ∨ k = 16 ∨ k = 32 ∨ k = 48 ∨ k = 64 ∨ k = 80 ∨ k = 128 ∨ k = 144 ∨ k = 160 ∨ k = 176 := by omega
  rcases this with rfl | rfl | rfl | rfl | rfl | rfl | rfl | rfl | rfl | rfl
  · exact wrap_cut w _
  · exact wrap_cut w _
  · exact wrap_cut w _
  · refine cut_of w (Int.ediv_nonneg h1.1 h2.1) ?_
    have := Int.ediv_le_self (cutI w b) h1.1
    show cutI w a / cutI w b < modI w
    omega
  · exact cut_of w hl.2.1.1 hl.2.1.2
  · exact cut_of w hl.1.1 hl.1.2
  · exact wrap_cut w _
  · show cutI w (cutI w a % cutI w b) = cutI w a % cutI w b
    by_cases hz : cutI w b = 0
    · rw [hz, Int.emod_zero]
      exact cut_cut w a
    · have g1 := Int.emod_nonneg (cutI w a) hz
      have g2 := Int.emod_lt_of_pos (cutI w a) (show 0 < cutI w b by omega)
      exact cut_of w g1 (by omega)
  · exact cut_of w hl.2.2.1 hl.2.2.2
  · exact cut_cut w b
set_option maxHeartbeats 400000 in
theorem do_ok (k : Int) (wide : Bool) (a b : Int) (w : World) (hk : okOp k = true) (ha : U64 a) (hb : U64 b) :
    Calls Try.prog 9 #[.int .i64 k, .bool wide, .int .u64 a, .int .u64 b] w fun e w' => e = .returned (.tuple #[.int .u64 (opI k wide a b), .int .i64 0]) ∧ w' = w := by
  by_cases hs : k = 96 ∨ k = 112 ∨ k = 192
  · have hs' : decide (k = 96 ∨ k = 112 ∨ k = 192) = true := by simpa using hs
    have H1 := toHid hs
    clear hs
    go_enter Try.func9, Try.ntmps9
    go_wp2_with (first | (go_at_call 15; refine (isOperation_any _ _).mono ?_; rintro e w ⟨rfl, rfl⟩) | (go_at_call 16; refine (isShift_any _ _).mono ?_; rintro e w ⟨rfl, rfl⟩) | (go_at_call 17; refine (shifted_any _ _ _ _ _ H1.out ha hb).mono ?_; rintro e w ⟨rfl, rfl⟩))
    go_ret2
    exact ⟨rfl, rfl⟩
  · have hs' : decide (k = 96 ∨ k = 112 ∨ k = 192) = false := by simpa using hs
    clear hs
    go_enter Try.func9, Try.ntmps9
    go_wp2_with (first | (go_at_call 15; refine (isOperation_any _ _).mono ?_; rintro e w ⟨rfl, rfl⟩) | (go_at_call 16; refine (isShift_any _ _).mono ?_; rintro e w ⟨rfl, rfl⟩) | (go_at_call 18; refine (within_any _ _ _).mono ?_; rintro e w ⟨rfl, rfl⟩) |
      (go_at_call 19; refine (reckoned_any _ _ _ _ (ha.cut64 _) (hb.cut64 _)).mono ?_; rintro e w ⟨rfl, rfl⟩))
    go_ret2
    exact ⟨by rw [← do_pure k wide a b hk hs' ha hb]; rfl, rfl⟩
set_option maxHeartbeats 400000 in
theorem do_bad (k : Int) (wide : Bool) (a b : Int) (w : World) (hk : okOp k = false) :
    Calls Try.prog 9 #[.int .i64 k, .bool wide, .int .u64 a, .int .u64 b] w fun e w' => e = .returned (.tuple #[.int .u64 0, .int .i64 2]) ∧ w' = w := by
  go_enter Try.func9, Try.ntmps9
  go_wp2_with (go_at_call 15; refine (isOperation_any _ _).mono ?_; rintro e w ⟨rfl, rfl⟩)
  go_ret2
  exact ⟨rfl, rfl⟩
theorem hold_ord (k : Int) (w : Bool) (a b : Int) (hk : sigB k = true) : ordI k (sgnI w a) (sgnI w b) = holdI k w a b := by
  simp [sigB] at hk
  rcases hk with rfl | rfl | rfl | rfl <;> rfl
theorem hold_cmp (k : Int) (w : Bool) (a b : Int) (ho : okCond k = true) (hk : sigB k = false) : cmpI k (cutI w a) (cutI w b) = holdI k w a b := by
  simp [sigB] at hk
  simp [okCond] at ho
  have : k = 16 ∨ k = 80 ∨ k = 32 ∨ k = 48 ∨ k = 160 ∨ k = 176 ∨ k = 64 := by omega
  rcases this with rfl | rfl | rfl | rfl | rfl | rfl | rfl <;> rfl
set_option maxHeartbeats 400000 in
theorem holds_ok (k : Int) (wide : Bool) (a b : Int) (w : World) (hk : okCond k = true) (ha : U64 a) (hb : U64 b) :
    Calls Try.prog 12 #[.int .i64 k, .bool wide, .int .u64 a, .int .u64 b] w fun e w' => e = .returned (.tuple #[.bool (holdI k wide a b), .int .i64 0]) ∧ w' = w := by
  cases hs : sigB k
  · go_enter Try.func12, Try.ntmps12
    go_wp2_with (first | (go_at_call 21; refine (isCondition_any _ _).mono ?_; rintro e w ⟨rfl, rfl⟩) | (go_at_call 22; refine (isSigned_any _ _).mono ?_; rintro e w ⟨rfl, rfl⟩) | (go_at_call 18; refine (within_any _ _ _).mono ?_; rintro e w ⟨rfl, rfl⟩) |
      (go_at_call 25; refine (compared_any _ _ _ _).mono ?_; rintro e w ⟨rfl, rfl⟩))
    go_ret2
    exact ⟨by rw [← hold_cmp k wide a b hk hs]; rfl, rfl⟩
  · go_enter Try.func12, Try.ntmps12
    go_wp2_with (first | (go_at_call 21; refine (isCondition_any _ _).mono ?_; rintro e w ⟨rfl, rfl⟩) | (go_at_call 22; refine (isSigned_any _ _).mono ?_; rintro e w ⟨rfl, rfl⟩) | (go_at_call 24; refine (signed_any _ _ _ (by assumption)).mono ?_; rintro e w ⟨rfl, rfl⟩) |
      (go_at_call 23; refine (ordered_any _ _ _ _).mono ?_; rintro e w ⟨rfl, rfl⟩))
    go_ret2
    exact ⟨by rw [← hold_ord k wide a b hs]; rfl, rfl⟩
set_option maxHeartbeats 400000 in
theorem holds_bad (k : Int) (wide : Bool) (a b : Int) (w : World) (hk : okCond k = false) :
    Calls Try.prog 12 #[.int .i64 k, .bool wide, .int .u64 a, .int .u64 b] w fun e w' => e = .returned (.tuple #[.bool false, .int .i64 2]) ∧ w' = w := by
  go_enter Try.func12, Try.ntmps12
  go_wp2_with (go_at_call 21; refine (isCondition_any _ _).mono ?_; rintro e w ⟨rfl, rfl⟩)
  go_ret2
  exact ⟨rfl, rfl⟩
theorem and8 (x : Int) (h0 : 0 ≤ x) (h1 : x ≤ 255) : bits .and .u8 x 8 = x / 8 % 2 * 8 := by
  have : ∀ x : Fin 256, bits .and .u8 (x.val : Int) 8 = (x.val : Int) / 8 % 2 * 8 := by decide +kernel
  obtain ⟨n, rfl⟩ := Int.eq_ofNat_of_zero_le h0
  exact this ⟨n, by omega⟩
def regB (op : Int) : Bool := decide (op / 8 % 2 = 1)
set_option maxHeartbeats 400000 in
theorem byReg_any (op : Int) (w : World) (h0 : 0 ≤ op) (h1 : op ≤ 255) :
    Calls Try.prog 26 #[.int .u8 op] w fun e w' => e = .returned (.bool (regB op)) ∧ w' = w := by
  have hm := and8 op h0 h1
  go_enter Try.func26, Try.ntmps26
  go_wp2
  go_ret
  refine ⟨ret_bool ?_, rfl⟩
  unfold regB
  rw [Bool.eq_iff_iff]
  simp
  omega
theorem u64_a : U64 2147483648 := by unfold U64; omega
theorem u64_b : U64 1 := by unfold U64; omega
theorem u64_c : U64 0 := by unfold U64; omega
theorem u64_d : U64 4294967295 := by unfold U64; omega
theorem first_do : opI 192 false 2147483648 1 = 3221225472 := by decide +kernel
theorem first_holds : holdI 96 false 0 4294967295 = true := by decide +kernel
set_option maxHeartbeats 400000 in
theorem first_any (w : World) : Calls Try.prog 8 #[] w fun e w' => e = .returned (.bool true) ∧ w' = w := by
  have e1 := first_do
  have e2 := first_holds
  go_enter Try.func8, Try.ntmps8
  go_wp2_with (first | (go_at_call 9; refine (do_ok _ _ _ _ _ (by decide) u64_a u64_b).mono ?_; rintro e w ⟨rfl, rfl⟩) | (go_at_call 12; refine (holds_ok _ _ _ _ _ (by decide) u64_c u64_d).mono ?_; rintro e w ⟨rfl, rfl⟩))
  go_ret
  exact ⟨rfl, rfl⟩
end Go.Proofs.Ytfcekjdjhgoofaa
