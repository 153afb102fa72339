/-
  Package array: numbers and their bytes, lowest first; Find, Put, Del.
-/
import Derived.Test.YtppcpdmhgjnfiaaRows
import Derived.Test.YtppcpdmhgjnfiaaKit
namespace Go.Proofs.Ytppcpdmhgjnfiaa
open Go.RowKit

/-- The number of the first n bytes, lowest first. -/
def num (bs : Nat → Int) : Nat → Int
  | 0 => 0
  | n + 1 => num bs n + bs n * 256 ^ n

theorem num_bd (bs : Nat → Int) : ∀ n, (∀ j, j < n → 0 ≤ bs j ∧ bs j ≤ 255) → 0 ≤ num bs n ∧ num bs n < 256 ^ n
  | 0, _ => by simp [num]
  | n + 1, h => by
    have h1 := num_bd bs n (fun j hj => h j (by omega))
    have h2 := h n (by omega)
    have h3 : (0 : Int) < 256 ^ n := Int.pow_pos (by omega)
    have h4 : bs n * 256 ^ n ≤ 255 * 256 ^ n := Int.mul_le_mul_of_nonneg_right h2.2 (by omega)
    have h5 : 0 ≤ bs n * 256 ^ n := Int.mul_nonneg h2.1 (by omega)
    unfold num
    rw [Int.pow_succ]
    omega
theorem or_place (a x : Int) (k : Nat) (hk : k ≤ 3) (ha0 : 0 ≤ a) (ha1 : a < 256 ^ k) (hx0 : 0 ≤ x) (hx1 : x ≤ 255) :
    bits .or .u32 a (x * 2 ^ (8 * k) % 4294967296) = a + x * 256 ^ k := by
  obtain ⟨A, rfl⟩ := Int.eq_ofNat_of_zero_le ha0
  obtain ⟨X, rfl⟩ := Int.eq_ofNat_of_zero_le hx0
  have hp : (2 : Int) ^ (8 * k) = 256 ^ k := by rw [Int.pow_mul]; rfl
  have hA : A < 2 ^ (8 * k) := by
    have : ((A : Nat) : Int) < ((2 ^ (8 * k) : Nat) : Int) := by rw [Int.natCast_pow]; show (A : Int) < (2 : Int) ^ (8 * k); rw [hp]; exact ha1
    omega
  have hle : (2 : Nat) ^ (8 * k) ≤ 2 ^ 24 := Nat.pow_le_pow_right (by omega) (by omega)
  have hX : 2 ^ (8 * k) * X < 4294967296 := by
    have : 2 ^ (8 * k) * X ≤ 2 ^ 24 * 255 := Nat.mul_le_mul hle (by omega)
    omega
  have hc : (X : Int) * 2 ^ (8 * k) = ((2 ^ (8 * k) * X : Nat) : Int) := by rw [Int.natCast_mul, Int.natCast_pow, Int.mul_comm]; rfl
  rw [← hp, hc, Int.emod_eq_of_lt (by omega) (by omega), u32_or_nat A _ (by omega) hX, Nat.or_comm, ← Nat.two_pow_add_eq_or_of_lt hA]
  omega

/-- Bytes that lie in memory, as a slice says. -/
def KeyAt (w : World) (sa : Option Addr) (sl : Nat) (bs : List Int) : Prop := sl = bs.length ∧ (∀ x ∈ bs, 0 ≤ x ∧ x ≤ 255) ∧ bs.length ≤ 9223372036854775807 ∧
  (1 ≤ bs.length → ∃ b off, sa = some ⟨b, off, none⟩ ∧ ∀ j, j < bs.length → w.cell? ⟨b, off + j, none⟩ = some (.int .u8 (bs.getD j 0)))
theorem getD_bd {bs : List Int} (h : ∀ x ∈ bs, 0 ≤ x ∧ x ≤ 255) (j : Nat) : 0 ≤ bs.getD j 0 ∧ bs.getD j 0 ≤ 255 := by
  rw [List.getD_eq_getElem?_getD]
  cases hq : bs[j]? with
  | none => simp
  | some x => exact h x (List.mem_of_getElem? hq)
theorem KeyAt.nums {w : World} {sa : Option Addr} {sl : Nat} {bs : List Int} (h : KeyAt w sa sl bs) (n : Nat) : 0 ≤ num (fun j => bs.getD j 0) n ∧ num (fun j => bs.getD j 0) n < 256 ^ n := num_bd _ n fun j _ => getD_bd h.2.1 j

set_option maxHeartbeats 1000000 in
set_option maxRecDepth 100000 in
theorem number_any (b off c : Nat) (bs : Nat → Int) (w : World)
    (hc : ∀ j, j < 4 → w.cell? ⟨b, off + j, none⟩ = some (.int .u8 (bs j))) (hb : ∀ j, j < 4 → 0 ≤ bs j ∧ bs j ≤ 255) :
    Calls Try.prog 24 #[.slice (some ⟨b, off, none⟩) 4 c] w fun e w' => e = .returned (.int .u32 (num bs 4)) ∧ w' = w := by
  have HC := toHid hc
  have HB := toHid hb
  clear hc hb
  go_enter Try.func24, Try.ntmps24
  go_wp2
  go_loop [3, 5] (fun v t => ∃ k : Nat, k ≤ 4 ∧ t = .int .i64 k ∧ v = .int .u32 (num bs k)) (fun _ t => 4 - (intOf t).toNat)
  case atStart => exact ⟨0, by omega, rfl, rfl⟩
  case round =>
    obtain ⟨k, hk, rfl, rfl⟩ := hrel
    by_cases hlt : k < 4
    · have c1 := HC.out k hlt
      have c2 := HB.out k hlt
      go_wp2
      refine ⟨⟨k + 1, by omega, by go_num, ?_⟩, by simp [intOf]; omega⟩
      have h1 := num_bd bs k (fun j hj => HB.out j (by omega))
      rw [or_place _ _ k (by omega) h1.1 h1.2 c2.1 c2.2]
      rfl
    · have hkn : k = 4 := by omega
      subst hkn
      go_wp2
      go_ret
      exact ⟨rfl, rfl⟩

/-- The keys of an array: how many. -/
def IdxAt (w : World) (x m : Nat) : Prop := Blk w x [.int .u32 (m : Int)] 54 ∧ 1 ≤ m ∧ m ≤ 64
theorem IdxAt.touch {S : List Nat} {w w' : World} {x m : Nat} (h : IdxAt w x m) (ht : Touch S w w') (hx : x ∉ S) : IdxAt w' x m := ⟨ht.blk h.1 hx, h.2⟩

def slotI (m n : Int) : Int × Bool := if n < m then (n, true) else (0, false)
set_option maxHeartbeats 1000000 in
set_option maxRecDepth 100000 in
theorem slot_any (x m : Nat) (n : Int) (w : World) (h : IdxAt w x m) (h0 : 0 ≤ n) (h1 : n ≤ 4294967295) :
    Calls Try.prog 23 #[.pointer (some ⟨x, 0, none⟩), .int .u32 n] w fun e w' => e = .returned (.tuple #[.int .i64 (slotI m n).1, .bool (slotI m n).2]) ∧ w' = w := by
  have c0 : w.cell? ⟨x, 0, none⟩ = some (.int .u32 (m : Int)) := h.1.cell rfl
  have hm := h.2
  have w1 : IntKind.i64.wrap n = n := by rw [IntKind.wrap_i64]; omega
  clear h
  by_cases hlt : n < m
  · rw [show slotI m n = (n, true) from if_pos hlt]
    have hd : ¬ (m : Int) ≤ n := by omega
    go_enter Try.func23, Try.ntmps23
    go_wp2
    go_ret2
    exact ⟨rfl, rfl⟩
  · rw [show slotI m n = (0, false) from if_neg hlt]
    have hd : (m : Int) ≤ n := by omega
    go_enter Try.func23, Try.ntmps23
    go_wp2
    go_ret2
    exact ⟨rfl, rfl⟩

/-- The number of a key. -/
def keyNum (bs : List Int) : Int := num (fun j => bs.getD j 0) 4
def findI (m : Int) (bs : List Int) : Int × Bool := if bs.length = 4 then slotI m (keyNum bs) else (0, false)
def putI (m : Int) (bs : List Int) (fl : Int) : Int × Int :=
  if bs.length = 4 then (if 2 < fl then (0, 72) else if keyNum bs < m then (if fl = 1 then (0, 70) else (keyNum bs, 0)) else (0, 71)) else (0, 2)
theorem KeyAt.number {w : World} {sa : Option Addr} {bs : List Int} {sl : Nat} (h : KeyAt w sa sl bs) (h4 : bs.length = 4) (c : Nat) : Calls Try.prog 24 #[.slice sa 4 c] w fun e w' => e = .returned (.int .u32 (keyNum bs)) ∧ w' = w := by
  obtain ⟨b, off, rfl, hc⟩ := h.2.2.2 (by omega)
  exact number_any b off c _ w (fun j hj => hc j (by omega)) (fun j _ => getD_bd h.2.1 j)
theorem KeyAt.num4 {w : World} {sa : Option Addr} {sl : Nat} {bs : List Int} (h : KeyAt w sa sl bs) : 0 ≤ keyNum bs ∧ keyNum bs ≤ 4294967295 := by
  have := h.nums 4
  unfold keyNum
  omega

set_option maxHeartbeats 1000000 in
set_option maxRecDepth 100000 in
theorem find_any {w : World} {x m : Nat} (h : IdxAt w x m) {sa : Option Addr} {sl : Nat} {bs : List Int} (hk : KeyAt w sa sl bs) (sc : Nat) :
    Calls Try.prog 13 #[.pointer (some ⟨x, 0, none⟩), .slice sa sl sc] w fun e w' => e = .returned (.tuple #[.int .i64 (findI m bs).1, .bool (findI m bs).2]) ∧ w' = w := by
  have hl := hk.1
  have hb := hk.2.2.1
  by_cases h4 : bs.length = 4
  · obtain rfl : sl = 4 := by omega
    have H1 := toHid (hk.number h4 sc)
    have H2 := toHid (slot_any x m (keyNum bs) w h hk.num4.1 hk.num4.2)
    rw [show findI m bs = slotI m (keyNum bs) from if_pos h4]
    generalize slotI m (keyNum bs) = p at *
    clear h hk hl hb h4
    go_enter Try.func13, Try.ntmps13
    go_wp2_with fail
    refine Calls.mono H1.out ?_
    rintro e w ⟨rfl, rfl⟩
    go_wp2_with fail
    refine Calls.mono H2.out ?_
    rintro e w ⟨rfl, rfl⟩
    go_wp2
    go_ret2
    exact ⟨rfl, rfl⟩
  · have hs : ((sl : Int) != 4) = true := by simp; omega
    rw [show findI m bs = (0, false) from if_neg h4]
    clear h hk hl h4
    go_enter Try.func13, Try.ntmps13
    go_wp2
    go_ret2
    exact ⟨rfl, rfl⟩

set_option maxHeartbeats 1000000 in
set_option maxRecDepth 100000 in
theorem put_any {w : World} {x m : Nat} (h : IdxAt w x m) {sa : Option Addr} {sl : Nat} {bs : List Int} (hk : KeyAt w sa sl bs) (sc : Nat) (fl : Int) (f0 : 0 ≤ fl) :
    Calls Try.prog 14 #[.pointer (some ⟨x, 0, none⟩), .slice sa sl sc, .int .u64 fl] w fun e w' => e = .returned (.tuple #[.int .i64 (putI m bs fl).1, .bool false, .int .i64 (putI m bs fl).2]) ∧ w' = w := by
  have hl := hk.1
  have hb := hk.2.2.1
  by_cases h4 : bs.length = 4
  · obtain rfl : sl = 4 := by omega
    unfold putI
    rw [if_pos h4]
    by_cases hf : 2 < fl
    · rw [if_pos hf]
      clear h hk hl hb h4
      go_enter Try.func14, Try.ntmps14
      go_wp2
      go_ret3
      exact ⟨rfl, rfl⟩
    · rw [if_neg hf]
      have H1 := toHid (hk.number h4 sc)
      have H2 := toHid (slot_any x m (keyNum bs) w h hk.num4.1 hk.num4.2)
      unfold slotI at H2
      by_cases hm : keyNum bs < m
      · rw [if_pos hm]
        rw [if_pos hm] at H2
        generalize keyNum bs = p at *
        clear h hk hl hb h4
        by_cases h1 : fl = 1
        · subst h1
          rw [if_pos rfl]
          go_enter Try.func14, Try.ntmps14
          go_wp2_with fail
          refine Calls.mono H1.out ?_
          rintro e w ⟨rfl, rfl⟩
          go_wp2_with fail
          refine Calls.mono H2.out ?_
          rintro e w ⟨rfl, rfl⟩
          go_wp2
          go_ret3
          exact ⟨rfl, rfl⟩
        · rw [if_neg h1]
          go_enter Try.func14, Try.ntmps14
          go_wp2_with fail
          refine Calls.mono H1.out ?_
          rintro e w ⟨rfl, rfl⟩
          go_wp2_with fail
          refine Calls.mono H2.out ?_
          rintro e w ⟨rfl, rfl⟩
          go_wp2
          go_ret3
          exact ⟨rfl, rfl⟩
      · rw [if_neg hm]
        rw [if_neg hm] at H2
        generalize keyNum bs = p at *
        clear h hk hl hb h4
        go_enter Try.func14, Try.ntmps14
        go_wp2_with fail
        refine Calls.mono H1.out ?_
        rintro e w ⟨rfl, rfl⟩
        go_wp2_with fail
        refine Calls.mono H2.out ?_
        rintro e w ⟨rfl, rfl⟩
        go_wp2
        go_ret3
        exact ⟨rfl, rfl⟩
  · have hs : ((sl : Int) != 4) = true := by simp; omega
    rw [show putI m bs fl = (0, 2) from if_neg h4]
    clear h hk hl h4
    go_enter Try.func14, Try.ntmps14
    go_wp2
    go_ret3
    exact ⟨rfl, rfl⟩

set_option maxHeartbeats 1000000 in
set_option maxRecDepth 100000 in
theorem del_any (w : World) (x : Nat) (sa : Option Addr) (sl sc : Nat) :
    Calls Try.prog 15 #[.pointer (some ⟨x, 0, none⟩), .slice sa sl sc] w fun e w' => e = .returned (.tuple #[.int .i64 0, .int .i64 2]) ∧ w' = w := by
  go_enter Try.func15, Try.ntmps15
  go_wp2
  go_ret2
  exact ⟨rfl, rfl⟩

/-- Of a nil index. -/
theorem nil_find (w : World) (sa : Option Addr) (sl sc : Nat) : Calls Try.prog 13 #[.pointer none, .slice sa sl sc] w fun e w' => e = .returned (.tuple #[.int .i64 0, .bool false]) ∧ w' = w := by
  go_enter Try.func13, Try.ntmps13
  go_wp2
  go_ret2
  exact ⟨rfl, rfl⟩
theorem nil_put (w : World) (sa : Option Addr) (sl sc : Nat) (fl : Int) : Calls Try.prog 14 #[.pointer none, .slice sa sl sc, .int .u64 fl] w fun e w' => e = .returned (.tuple #[.int .i64 0, .bool false, .int .i64 1]) ∧ w' = w := by
  go_enter Try.func14, Try.ntmps14
  go_wp2
  go_ret3
  exact ⟨rfl, rfl⟩
theorem nil_del (w : World) (sa : Option Addr) (sl sc : Nat) : Calls Try.prog 15 #[.pointer none, .slice sa sl sc] w fun e w' => e = .returned (.tuple #[.int .i64 0, .int .i64 1]) ∧ w' = w := by
  go_enter Try.func15, Try.ntmps15
  go_wp2
  go_ret2
  exact ⟨rfl, rfl⟩
theorem nil_keys (w : World) : Calls Try.prog 11 #[.pointer none] w fun e w' => e = .returned (.slice none 0 0) ∧ w' = w := by
  go_enter Try.func11, Try.ntmps11
  go_wp2
  go_ret
  exact ⟨rfl, rfl⟩
theorem nil_copy (w : World) : Calls Try.prog 16 #[.pointer none] w fun e w' => e = .returned (.pointer none) ∧ w' = w := by
  go_enter Try.func16, Try.ntmps16
  go_wp2
  go_ret
  exact ⟨rfl, rfl⟩

set_option maxHeartbeats 1000000 in
set_option maxRecDepth 100000 in
theorem copy_any {w : World} {x m : Nat} (h : IdxAt w x m) : Calls Try.prog 16 #[.pointer (some ⟨x, 0, none⟩)] w fun e w' => e = .returned (.pointer (some ⟨w.heap.size, 0, none⟩)) ∧ IdxAt w' w.heap.size m ∧ Touch [] w w' := by
  have c0 : w.cell? ⟨x, 0, none⟩ = some (.int .u32 (m : Int)) := h.1.cell rfl
  have HH := toHid h.2
  clear h
  go_enter Try.func16, Try.ntmps16
  go_wp2
  go_ret
  exact ⟨rfl, ⟨Blk.newA w #[.int .u32 (m : Int)] _ 54 rfl, HH.out⟩, (Touch.refl _ w).alloc _⟩

set_option maxHeartbeats 1000000 in
set_option maxRecDepth 100000 in
theorem new_any (w : World) (m : Nat) (h1 : 1 ≤ m) (h2 : m ≤ 64) : Calls Try.prog 7 #[.int .i64 (m : Int)] w fun e w' => e = .returned (.tuple #[.pointer (some ⟨w.heap.size, 0, none⟩), .int .i64 0]) ∧ IdxAt w' w.heap.size m ∧ Touch [] w w' := by
  have w1 : IntKind.u32.wrap (m : Int) = m := by rw [IntKind.wrap_u32]; omega
  go_enter Try.func7, Try.ntmps7
  go_wp2
  go_ret2
  exact ⟨rfl, ⟨Blk.newA w #[.int .u32 (m : Int)] _ 54 rfl, h1, h2⟩, (Touch.refl _ w).alloc _⟩
theorem new_bad (w : World) (m : Int) (h1 : ¬ (1 ≤ m ∧ m ≤ 64)) : Calls Try.prog 7 #[.int .i64 m] w fun e w' => e = .returned (.tuple #[.pointer none, .int .i64 2]) ∧ w' = w := by
  by_cases h : m < 1
  · go_enter Try.func7, Try.ntmps7
    go_wp2
    go_ret2
    exact ⟨rfl, rfl⟩
  · have h2 : 64 < m := by omega
    go_enter Try.func7, Try.ntmps7
    go_wp2
    go_ret2
    exact ⟨rfl, rfl⟩
end Go.Proofs.Ytppcpdmhgjnfiaa
