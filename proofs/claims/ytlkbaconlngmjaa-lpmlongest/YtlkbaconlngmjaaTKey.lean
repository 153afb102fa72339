/-
  Package lpm: the bits of a key as a path.
-/
import Derived.Test.YtlkbaconlngmjaaTTree
namespace Go.Proofs.Ytlkbaconlngmjaa
open Go.RowKit

theorem or_place (a x : Int) (k : Nat) (hk : k ≤ 3) (ha0 : 0 ≤ a) (ha1 : a < 256 ^ k) (hx0 : 0 ≤ x) (hx1 : x ≤ 255) :
    bits .or .u32 a (x * 2 ^ (8 * k) % 4294967296) = a + x * 256 ^ k := by
  obtain ⟨A, rfl⟩ := Int.eq_ofNat_of_zero_le ha0
  obtain ⟨X, rfl⟩ := Int.eq_ofNat_of_zero_le hx0
  have hp : (2 : Int) ^ (8 * k) = 256 ^ k := by rw [Int.pow_mul]; rfl
  have hA : A < 2 ^ (8 * k) := by
    have : ((A : Nat) : Int) < ((2 ^ (8 * k) : Nat) : Int) := by rw [Int.natCast_pow]; show (A : Int) < (2 : Int) ^ (8 * k); rw [hp]; exact ha1
    omega
  have hle : (2 : Nat) ^ (8 * k) ≤ 2 ^ 24 := Nat.pow_le_pow_right (by omega) (by omega)
  have hX : 2 ^ (8 * k) * X < 4294967296 := by
    have : 2 ^ (8 * k) * X ≤ 2 ^ 24 * 255 := Nat.mul_le_mul hle (by omega)
    omega
  have hc : (X : Int) * 2 ^ (8 * k) = ((2 ^ (8 * k) * X : Nat) : Int) := by rw [Int.natCast_mul, Int.natCast_pow, Int.mul_comm]; rfl
  rw [← hp, hc, Int.emod_eq_of_lt (by omega) (by omega), u32_or_nat A _ (by omega) hX, Nat.or_comm, ← Nat.two_pow_add_eq_or_of_lt hA]
  omega

set_option maxHeartbeats 2000000 in
set_option maxRecDepth 100000 in
theorem length_any (b off n c : Nat) (bs : Nat → Int) (w : World) (hn : n ≤ 4)
    (hc : ∀ j, j < n → w.cell? ⟨b, off + j, none⟩ = some (.int .u8 (bs j))) (hb : ∀ j, j < n → 0 ≤ bs j ∧ bs j ≤ 255) :
    Calls Try.prog 39 #[.slice (some ⟨b, off, none⟩) n c] w fun e w' => e = .returned (.int .u32 (num bs n)) ∧ w' = w := by
  have HC := toHid hc
  have HB := toHid hb
  clear hc hb
  go_enter Try.func39, Try.ntmps39
  go_wp2_with fail
  go_loop [3, 8] (fun x t => ∃ k : Nat, k ≤ n ∧ t = .int .i64 k ∧ x = .int .u32 (num bs k)) (fun _ t => n - (intOf t).toNat)
  case atStart => exact ⟨0, by omega, rfl, rfl⟩
  case round =>
    obtain ⟨k, hk, rfl, rfl⟩ := hrel
    by_cases hlt : k < n
    · have c1 := HC.out k hlt
      have c2 := HB.out k hlt
      go_wp2
      refine ⟨⟨k + 1, by omega, by go_num, ?_⟩, by simp [intOf]; omega⟩
      have h1 := num_bd bs k (fun j hj => HB.out j (by omega))
      rw [or_place _ _ k (by omega) h1.1 h1.2 c2.1 c2.2]
      rfl
    · obtain rfl : k = n := by omega
      go_wp2
      go_ret
      exact ⟨rfl, rfl⟩
theorem length_key {w : World} {sa : Option Addr} {sl : Nat} {bs : List Int} (h : KeyAt w sa sl bs) (h4 : 4 ≤ bs.length) (sc : Nat) :
    Calls Try.prog 39 #[.slice sa 4 sc] w fun e w' => e = .returned (.int .u32 (keyNum bs)) ∧ w' = w := by
  obtain ⟨b, off, rfl, _, hcell⟩ := h.cut4 h4
  exact length_any b off 4 sc (fun j => bs.getD j 0) w (by omega) (fun j hj => hcell j (by omega)) (fun j _ => getD_bd h.2.1 j)

/-- A row of bits of a call's own. -/
def bitV (b : Bool) : Value := .int .i64 (bI b)
def OwnPath (w0 w : World) (v : Value) (p : List Bool) : Prop := ∃ g, v = .slice (some ⟨g, 0, none⟩) p.length p.length ∧ Blk w g (p.map bitV) 3 ∧ w0.heap.size ≤ g ∧ p.length ≤ 1000
theorem blk_path {w : World} {g : Nat} {p : List Bool} (h : Blk w g (p.map bitV) 3) (hp : p.length ≤ 1000) : PathAt w (some ⟨g, 0, none⟩) p := by
  refine ⟨hp, fun _ => ⟨g, 0, rfl, fun j hj => ?_⟩⟩
  rw [Nat.zero_add]
  refine h.cell ?_
  rw [List.getElem?_map, List.getD_eq_getElem?_getD, List.getElem?_eq_getElem hj]
  rfl
/-- May it be a key of n bytes of bits? -/
def fitsK (bs : List Int) (n : Nat) : Bool := decide (bs.length = n + 4) && decide (keyNum bs ≤ 8 * (n : Int))
def PathPost (w : World) (n : Nat) (bs : List Int) (e : Ending) (w' : World) : Prop :=
  if fitsK bs n = true then ∃ g, e = .returned (.tuple #[.slice (some ⟨g, 0, none⟩) (pathP bs).length (pathP bs).length, .bool true]) ∧ Blk w' g ((pathP bs).map bitV) 3 ∧ w.heap.size ≤ g ∧ (pathP bs).length ≤ 1000 ∧ Touch [] w w'
  else e = .returned (.tuple #[.slice none 0 0, .bool false]) ∧ w' = w
theorem PathPost.no {w : World} {n : Nat} {bs : List Int} (h : fitsK bs n = false) : PathPost w n bs (.returned (.tuple #[.slice none 0 0, .bool false])) w := by
  unfold PathPost
  rw [if_neg (by rw [h]; decide)]
  exact ⟨rfl, rfl⟩
theorem info59e : (Try.prog.info? 3).map (fun i => (i.zero, i.size, i.bytes)) = some (some (.int .i64 0), 1, 8) := info3
/-- The first k bits are laid. -/
def PathTo (w : World) (bs : List Int) (n k : Nat) (wr : World) : Prop := Blk wr w.heap.size (((pathP bs).take k).map bitV ++ List.replicate (n - k) (.int .i64 0)) 3 ∧ Touch [] w wr
theorem PathTo.next {w wr : World} {bs : List Int} {n k : Nat} (h : PathTo w bs n k wr) (hk : k < n) (hn : (pathP bs).length = n) : PathTo w bs n (k + 1) (wr.setCell ⟨w.heap.size, k, none⟩ (.int .i64 (bitP bs k))) := by
  refine ⟨?_, h.2.setCell _ _ (Or.inr (Nat.le_refl _))⟩
  have h1 := h.1.setCell k (.int .i64 (bitP bs k))
  have hl : (((pathP bs).take k).map bitV).length = k := by simp; omega
  rw [List.set_append_right _ _ (by omega), hl, Nat.sub_self] at h1
  obtain ⟨q, hq⟩ : ∃ q, n - k = q + 1 := ⟨n - k - 1, by omega⟩
  rw [hq, List.replicate_succ, List.set_cons_zero] at h1
  rw [show n - (k + 1) = q by omega, List.take_add_one, List.map_append]
  have e : (pathP bs)[k]?.toList.map bitV = [.int .i64 (bitP bs k)] := by
    have hg : (pathP bs)[k]? = some (decide (bitP bs k = 1)) := by
      have := pathP_len bs
      unfold pathP
      rw [List.getElem?_map, List.getElem?_range (by omega)]
      rfl
    rw [hg]
    show [bitV (decide (bitP bs k = 1))] = _
    unfold bitV
    rw [bI_of (bitP_bd bs k)]
  rw [e, List.append_assoc]
  exact h1
theorem PathTo.cell {w wr : World} {bs : List Int} {n k : Nat} (h : PathTo w bs n k wr) (hk : k < n) (hn : (pathP bs).length = n) : ∃ v, wr.cell? ⟨w.heap.size, k, none⟩ = some v :=
  ⟨_, h.1.cellN (i := k) (by simp; omega)⟩
theorem wrap64_id {x : Int} (h0 : 0 ≤ x) (h1 : x ≤ 255) : wrap64 x = x := by
  unfold wrap64
  omega
theorem i64_and1 (n : Int) : bits .and .i64 n 1 = n % 2 := by
  have h1 : (BitVec.ofInt 64 1).toNat = 2 ^ 1 - 1 := by decide
  have key : (BitVec.ofInt 64 n &&& BitVec.ofInt 64 1).toNat = (n % ((2 ^ 64 : Nat) : Int)).toNat % 2 ^ 1 := by
    rw [BitVec.toNat_and, BitVec.toNat_ofInt, h1, Nat.and_two_pow_sub_one_eq_mod]
  show IntKind.i64.wrap ((BitVec.ofInt 64 n &&& BitVec.ofInt 64 1).toNat : Nat) = n % 2
  rw [key, IntKind.wrap_i64]
  omega
set_option maxHeartbeats 4000000 in
set_option maxRecDepth 100000 in
theorem pathOf_any {w : World} {sa : Option Addr} {sl : Nat} {bs : List Int} (h : KeyAt w sa sl bs) (n : Nat) (hn : n ≤ 12) (sc : Nat) (hsc : sl ≤ sc) :
    Calls Try.prog 27 #[.slice sa sl sc, .int .i64 (n : Int)] w (PathPost w n bs) := by
  have hl := h.1
  have hb := h.2.2.1
  by_cases h4 : bs.length = n + 4
  · have hs : ((sl : Int) != 4 + n) = false := by simp; omega
    have hsc4 : (4 : Int) ≤ sc := by omega
    have hsl4 : (4 : Int) ≤ sl := by omega
    have hw : IntKind.u32.wrap (8 * (n : Int)) = 8 * n := by rw [IntKind.wrap_u32]; omega
    have H1 := toHid (length_key h (by omega) sc)
    have HL := toHid (length_key h (by omega) 4)
    have hkb := keyNum_bd h.2.1
    obtain ⟨kb, off, rfl, _, hcell⟩ := h.cut4 (by omega)
    by_cases hk : keyNum bs ≤ 8 * (n : Int)
    · have HW : Hid (∀ e w', ((∃ g, e = .returned (.tuple #[.slice (some ⟨g, 0, none⟩) (pathP bs).length (pathP bs).length, .bool true]) ∧ Blk w' g ((pathP bs).map bitV) 3 ∧ w.heap.size ≤ g ∧ (pathP bs).length ≤ 1000 ∧ Touch [] w w')) → PathPost w n bs e w') := by
        intro e w' h9
        unfold PathPost
        rw [if_pos (by simp [fitsK, h4, hk])]
        exact h9
      have hpl := pathP_len bs
      obtain ⟨q, hq⟩ : ∃ q : Nat, keyNum bs = q := ⟨(keyNum bs).toNat, by omega⟩
      rw [hq] at H1 HL hk hkb hpl
      rw [Int.toNat_natCast] at hpl
      have HPL := toHid hpl
      have HKA := toHid (And.intro h (And.intro hcell h4))
      have hmk := @run_make_blk Try.prog 59 3 (.int .i64 0) 8 Try.underlying59 info3 rfl q (by omega) (by omega) .u32 w
      have HI0 : Hid (PathTo w bs q 0 (w.alloc (.cells (List.replicate q (.int .i64 0)).toArray 3))) := ⟨by simpa using Blk.newA w (List.replicate q (Value.int .i64 0)).toArray _ 3 rfl, (Touch.refl [] w).alloc _⟩
      clear h hb hl hcell hq hpl h4
      go_enter Try.func27, Try.ntmps27
      go_wp2_with fail
      refine Calls.mono H1.out ?_
      rintro e w ⟨rfl, rfl⟩
      go_wp2_with fail
      clear H1 HL
      go_loopw [26] (fun t wr => ∃ k : Nat, k ≤ q ∧ t = .int .i64 k ∧ Hid (PathTo w bs q k wr)) (fun t _ => q - (intOf t).toNat)
      case atStart => exact ⟨0, by omega, rfl, HI0⟩
      case round =>
        clear HI0 hmk
        obtain ⟨k, hkq, rfl, HI⟩ := hrel
        by_cases hlt : k < q
        · have c1 := HI.out.2.cell (HKA.out.2.1 (4 + k / 8) (by have := HKA.out.2.2; omega)) (by simp)
          have hbd := getD_bd HKA.out.1.2.1 (4 + k / 8)
          have hsl : 4 + k / 8 < sl := by have := HKA.out.2.2; have := HKA.out.1.1; omega
          have HV : Hid (bitP bs k = bs.getD (4 + k / 8) 0 / 2 ^ (7 - k % 8) % 2) := rfl
          have HN := toHid (HI.out.next hlt HPL.out)
          obtain ⟨old, d1⟩ := HI.out.cell hlt HPL.out
          have d2 := HI.out.1.frozen k
          generalize bs.getD (4 + k / 8) 0 = v at *
          generalize bitP bs k = r at *
          have e1 : ((k : Int) / 8) = ((k / 8 : Nat) : Int) := by omega
          have e2 : ((k : Int) % 8) = ((k % 8 : Nat) : Int) := by omega
          have hm8 : k % 8 < 8 := Nat.mod_lt _ (by omega)
          generalize hd : k / 8 = d at *
          generalize hm : k % 8 = m at *
          clear HI
          have HB1 : Hid (bits .and .i64 (wrap64 (v / 2 ^ (7 - m))) 1 = r) := by
            have q0 : 0 ≤ v / 2 ^ (7 - m) := Int.ediv_nonneg hbd.1 (Int.pow_nonneg (by omega))
            have q1 : v / 2 ^ (7 - m) ≤ v := Int.ediv_le_self _ hbd.1
            show bits .and .i64 (wrap64 (v / 2 ^ (7 - m))) 1 = r
            rw [HV.out, i64_and1]
            rw [show wrap64 (v / 2 ^ (7 - m)) = v / 2 ^ (7 - m) from wrap64_id q0 (by omega)]
          go_wp2
          refine ⟨⟨k + 1, by omega, by go_num, ?_⟩, by simp [intOf]; omega⟩
          rw [HB1.out]
          exact HN
        · obtain rfl : k = q := by omega
          have HF := toHid (HW.out _ _ ⟨w.heap.size, rfl, by
            have := HI.out.1
            rw [Nat.sub_self, List.take_of_length_le (by have := HPL.out; omega)] at this
            simpa using this, Nat.le_refl _, by have := HPL.out; omega, HI.out.2⟩)
          rw [HPL.out] at HF
          go_wp2
          go_ret2
          exact HF.out
    · have HF := toHid (PathPost.no (w := w) (n := n) (bs := bs) (by simp [fitsK]; intro _; omega))
      have hk' : 8 * (n : Int) < keyNum bs := by omega
      generalize keyNum bs = kn at *
      clear h hb hl h4 hcell hk
      go_enter Try.func27, Try.ntmps27
      go_wp2_with fail
      refine Calls.mono H1.out ?_
      rintro e w ⟨rfl, rfl⟩
      go_wp2
      go_ret2
      exact HF.out
  · have hs : ((sl : Int) != 4 + n) = true := by simp; omega
    have HF := toHid (PathPost.no (w := w) (n := n) (bs := bs) (by simp [fitsK, h4]))
    clear h hb hl h4
    go_enter Try.func27, Try.ntmps27
    go_wp2
    go_ret2
    exact HF.out
end Go.Proofs.Ytlkbaconlngmjaa
