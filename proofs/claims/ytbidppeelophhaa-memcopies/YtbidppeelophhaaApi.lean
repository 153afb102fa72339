/-
  look, Store, Load, Read, Write of a memory.
-/
import Derived.Test.YtbidppeelophhaaLay
namespace Go.Proofs.Ytbidppeelophhaa
open Go.RowKit

def lookE (rs : List Reg) (addr n : Int) : Int := match findR rs addr with
  | none => 10
  | some r => if mayB r addr n 1 = true then (if allSetB r (addr - r.base).toNat n.toNat = true then 0 else 11) else 10
/-- The bytes that are told. -/
def tellR (rs : List Reg) (addr n : Int) : List Int := match findR rs addr with
  | none => []
  | some r => if mayB r addr n 1 = true ∧ allSetB r (addr - r.base).toNat n.toNat = true then (r.bytes.drop (addr - r.base).toNat).take n.toNat else []

/-- Behind look. -/
def LookPost (w : World) (s : MS) (addr : Int) (n : Nat) (e : Ending) (w' : World) : Prop := (∃ k, w' = w.drewN k) ∧
      ((lookE s.rs addr n ≠ 0 ∧ tellR s.rs addr n = [] ∧ e = .returned (.tuple #[.slice none 0 0, .int .i64 (lookE s.rs addr n)])) ∨
       (lookE s.rs addr n = 0 ∧ ∃ r ∈ s.rs, ∃ a : Nat, a + n ≤ r.bytes.length ∧ tellR s.rs addr n = (r.bytes.drop a).take n ∧ e = .returned (.tuple #[.slice (some ⟨r.bb, a, none⟩) n n, .int .i64 0])))

set_option maxHeartbeats 1000000 in
set_option maxRecDepth 100000 in
theorem look_any {w : World} {s : MS} (h : MemAt w s) (addr : Int) (n : Nat) (ha0 : 0 ≤ addr) (ha1 : addr ≤ 18446744073709551615) (hn1 : 1 ≤ n) (hn2 : n ≤ 9223372036854775807) :
    Calls Try.prog 46 #[.pointer (some ⟨s.m, 0, none⟩), .int .u64 addr, .int .i64 n] w (LookPost w s addr n) := by
  have hA := access_any h addr n 1 ha0 ha1 (by omega) (by omega)
  cases hf : findR s.rs addr with
  | none =>
    rw [hf] at hA
    have HF : ∀ k, Hid (LookPost w s addr n (.returned (.tuple #[.slice none 0 0, .int .i64 10])) (w.drewN k)) := fun k => by
      have he : lookE s.rs addr n = 10 := by simp only [lookE, hf]
      exact ⟨⟨k, rfl⟩, Or.inl ⟨by rw [he]; decide, by simp only [tellR, hf], by rw [he]⟩⟩
    have HA := toHid hA
    clear hA h hf
    go_enter Try.func46, Try.ntmps46
    go_wp2_with (go_at_call 59; refine HA.out.mono ?_; rintro e w' ⟨rfl, k2, rfl⟩; simp only [accessV])
    go_ret2
    exact (HF _).out
  | some r =>
    rw [hf, accessV_mayB] at hA
    have hr := findR_mem hf
    cases hm : mayB r addr n 1 with
    | false =>
      rw [hm] at hA
      have HF : ∀ k, Hid (LookPost w s addr n (.returned (.tuple #[.slice none 0 0, .int .i64 10])) (w.drewN k)) := fun k => by
        have he : lookE s.rs addr n = 10 := by simp [lookE, hf, hm]
        exact ⟨⟨k, rfl⟩, Or.inl ⟨by rw [he]; decide, by simp [tellR, hf, hm], by rw [he]⟩⟩
      have HA := toHid hA
      clear hA h hf
      go_enter Try.func46, Try.ntmps46
      go_wp2_with (go_at_call 59; refine HA.out.mono ?_; rintro e w' ⟨rfl, k2, rfl⟩; simp only [Bool.false_eq_true, ↓reduceIte])
      go_ret2
      exact (HF _).out
    | true =>
      rw [hm] at hA
      have hin := of_decide_eq_true hr.2
      have hreach := (of_decide_eq_true hm).1
      obtain ⟨a, ha⟩ : ∃ a : Nat, addr - r.base = a := ⟨(addr - r.base).toNat, by omega⟩
      rw [ha] at hA hreach
      have hc3 := (h.regs r hr.1).c3
      have hsz := (h.ok r hr.1).size2
      have hal : a + n ≤ r.bytes.length := by omega
      have HS := fun k2 => toHid (allSet_any ((h.regs r hr.1).touch ((Touch.refl [] w).drewN k2) (by simp)) (h.ok r hr.1) a n hn1 hal)
      have HA := toHid hA
      cases hset : allSetB r a n with
      | false =>
        have HF : ∀ k, Hid (LookPost w s addr n (.returned (.tuple #[.slice none 0 0, .int .i64 11])) (w.drewN k)) := fun k => by
          have he : lookE s.rs addr n = 11 := by simp [lookE, hf, hm, ha, hset]
          exact ⟨⟨k, rfl⟩, Or.inl ⟨by rw [he]; decide, by simp [tellR, hf, hm, ha, hset], by rw [he]⟩⟩
        rw [hset] at HS
        clear hA h hf hset hm
        go_enter Try.func46, Try.ntmps46
        go_wp2_with (first | (go_at_call 59; refine HA.out.mono ?_; rintro e w' ⟨rfl, k2, rfl⟩; simp only [↓reduceIte]) | (go_at_call 60; refine (HS _).out.mono ?_; rintro e w' ⟨rfl, rfl⟩))
        go_ret2
        exact (HF _).out
      | true =>
        have HF : ∀ k, Hid (LookPost w s addr n (.returned (.tuple #[.slice (some ⟨r.bb, a, none⟩) (a + n - a) (a + n - a), .int .i64 0])) (w.drewN k)) := fun k => by
          have he : lookE s.rs addr n = 0 := by simp [lookE, hf, hm, ha, hset]
          exact ⟨⟨k, rfl⟩, Or.inr ⟨he, r, hr.1, a, hal, by simp [tellR, hf, hm, ha, hset], by rw [Nat.add_sub_cancel_left]⟩⟩
        rw [hset] at HS
        have q1 : ¬ (a + n = a) := by omega
        have q2 : (a : Int) + n ≤ r.bytes.length := by omega
        clear hA h hf hset hm hr
        go_enter Try.func46, Try.ntmps46
        go_wp2_with (first | (go_at_call 59; refine HA.out.mono ?_; rintro e w' ⟨rfl, k2, rfl⟩; simp only [↓reduceIte]) | (go_at_call 60; refine (HS _).out.mono ?_; rintro e w' ⟨rfl, rfl⟩))
        go_ret2
        exact (HF _).out

def wordB (n : Int) : Bool := n == 1 || n == 2 || n == 4 || n == 8
theorem word_of {n : Int} (h : wordB n = true) : n = 1 ∨ n = 2 ∨ n = 4 ∨ n = 8 := by
  unfold wordB at h
  simp at h
  omega

def loadE (rs : List Reg) (addr n : Int) : Int := if wordB n = true then lookE rs addr n else 2
def loadV (rs : List Reg) (addr n : Int) : Int := if wordB n = true ∧ lookE rs addr n = 0 then num (fun j => (tellR rs addr n).getD j 0) n.toNat else 0
def storeE (rs : List Reg) (addr n : Int) : Int := if wordB n = true then layE rs addr n else 2
def storeRs (rs : List Reg) (addr n v : Int) : List Reg := if wordB n = true then layRs rs addr ((List.range n.toNat).map (byteOf v)) else rs

set_option maxHeartbeats 1000000 in
set_option maxRecDepth 100000 in
theorem load_any {w : World} {s : MS} (h : MemAt w s) (addr n : Int) (ha0 : 0 ≤ addr) (ha1 : addr ≤ 18446744073709551615) :
    Calls Try.prog 20 #[.pointer (some ⟨s.m, 0, none⟩), .int .u64 addr, .int .i64 n] w fun e w' => e = .returned (.tuple #[.int .u64 (loadV s.rs addr n), .int .i64 (loadE s.rs addr n)]) ∧ ∃ k, w' = w.drewN k := by
  cases hw : wordB n with
  | false =>
    have he : loadE s.rs addr n = 2 := by unfold loadE; rw [hw]; rfl
    have hv : loadV s.rs addr n = 0 := by unfold loadV; rw [hw]; rfl
    rw [he, hv]
    have HW : Hid ((n == 1 || n == 2 || n == 4 || n == 8) = false) := hw
    clear h he hv hw
    go_enter Try.func20, Try.ntmps20
    go_wp2_with (go_at_call 43; refine (isWord_any n _).mono ?_; rintro e w' ⟨rfl, rfl⟩; rw [HW.out])
    go_ret2
    exact ⟨rfl, 0, rfl⟩
  | true =>
    have hnn := word_of hw
    obtain ⟨z, rfl⟩ : ∃ z : Nat, n = z := ⟨n.toNat, by omega⟩
    have hz1 : 1 ≤ z := by omega
    have hz2 : z ≤ 8 := by omega
    clear hnn
    have HL := toHid (look_any h addr z ha0 ha1 hz1 (by omega))
    have HW : Hid (((z : Int) == 1 || (z : Int) == 2 || (z : Int) == 4 || (z : Int) == 8) = true) := hw
    have he : loadE s.rs addr z = lookE s.rs addr z := by unfold loadE; rw [hw]; rfl
    by_cases h0 : lookE s.rs addr z = 0
    · have hv : loadV s.rs addr z = num (fun j => (tellR s.rs addr z).getD j 0) z := by unfold loadV; rw [if_pos ⟨hw, h0⟩]; rfl
      have HE := toHid he
      have H0 := toHid h0
      have HV := toHid hv
      have HM := toHid h
      clear h he hv hw h0
      go_enter Try.func20, Try.ntmps20
      go_wp2_with (go_at_call 43; refine (isWord_any z _).mono ?_; rintro e w ⟨rfl, rfl⟩; rw [HW.out])
      refine HL.out.mono ?_
      rintro e w' ⟨⟨k, rfl⟩, (⟨h1, _, _⟩ | ⟨_, r, hr, a, hal, htell, rfl⟩)⟩
      · exact absurd H0.out h1
      · have hbb := BytesAt.of_blk (off := a) ((HM.out.regs r hr).bytes.drewN k) z
        have hok := HM.out.ok r hr
        have hlen : ((r.bytes.drop a).take z).length = z := by simp; omega
        have HN := toHid (number_any r.bb a z z (fun j => ((r.bytes.drop a).take z).getD j 0) (w.drewN k) hz2
          (fun j hj => hbb j _ (by rw [List.getElem?_map, List.getElem?_eq_getElem (by omega), List.getD_eq_getElem?_getD, List.getElem?_eq_getElem (by omega)]; rfl))
          (fun j hj => by
            rw [List.getD_eq_getElem?_getD, List.getElem?_eq_getElem (by omega)]
            exact hok.byte _ (List.mem_of_mem_drop (List.mem_of_mem_take (List.getElem_mem (by omega))))))
        have HT := toHid htell
        clear hbb htell
        go_wp2_with (go_at_call 47; refine HN.out.mono ?_; rintro e w' ⟨rfl, rfl⟩)
        go_ret2
        refine ⟨?_, k, rfl⟩
        rw [HE.out, H0.out, HV.out, HT.out]
        rfl
    · have hv : loadV s.rs addr z = 0 := by unfold loadV; rw [if_neg (fun hh => h0 hh.2)]
      have HE := toHid he
      have H0 := toHid h0
      have HV := toHid hv
      generalize hx : lookE s.rs addr z = x at *
      have HX := toHid hx
      have hb : (x == 0) = false := by simpa using h0
      have hb2 : (x != 0) = true := by simpa using h0
      clear h he hv hw h0 hx
      go_enter Try.func20, Try.ntmps20
      go_wp2_with (go_at_call 43; refine (isWord_any z _).mono ?_; rintro e w ⟨rfl, rfl⟩; rw [HW.out])
      refine HL.out.mono ?_
      rintro e w' ⟨⟨k, rfl⟩, (⟨h1, _, rfl⟩ | ⟨h1, _⟩)⟩
      · rw [HX.out]
        clear h1 HL
        go_wp2
        go_ret2
        exact ⟨by rw [HE.out, HV.out]; rfl, k, rfl⟩
      · rw [HX.out] at h1
        exact absurd h1 H0.out
end Go.Proofs.Ytbidppeelophhaa
