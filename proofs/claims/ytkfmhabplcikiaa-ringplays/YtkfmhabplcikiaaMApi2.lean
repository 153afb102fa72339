/-
  Store, Write, Read, Bytes, Live of a memory.
-/
import Derived.Test.YtkfmhabplcikiaaMApi
import Derived.Test.YtkfmhabplcikiaaMIdx
namespace Go.Proofs.Ytkfmhabplcikiaa.Mem
open Go.RowKit

theorem word_slice (b z : Nat) (hz : z ≤ 8) (w : World) : (Instr.sliceAt 89 (.pointer (some ⟨b, 0, none⟩)) none (some (.int .i64 (z : Int))) none).run Try.prog w = .ok (.slice (some ⟨b, 0, none⟩) z 8) w := by
  simp [Instr.sliceAt, run_underlying Try.underlying89, Instr.sureAddr, Instr.sliceBounds, Instr.sliceBound, asIntOf, sizeOf_of_info info5, hz, Addr.add]

/-- Behind a Store. -/
def StorePost (w : World) (s : MS) (addr n v : Int) (e : Ending) (w' : World) : Prop :=
  e = .returned (.int .i64 (storeE s.rs addr n)) ∧ Touch s.blocks w w' ∧ MemAt w' { s with rs := storeRs s.rs addr n v } ∧ ({ s with rs := storeRs s.rs addr n v } : MS).blocks = s.blocks

set_option maxHeartbeats 1000000 in
set_option maxRecDepth 100000 in
theorem store_any {w : World} {s : MS} (h : MemAt w s) (addr n v : Int) (ha0 : 0 ≤ addr) (ha1 : addr ≤ 18446744073709551615) (hv0 : 0 ≤ v) :
    Calls Try.prog 18 #[.pointer (some ⟨s.m, 0, none⟩), .int .u64 addr, .int .i64 n, .int .u64 v] w (StorePost w s addr n v) := by
  cases hw : wordB n with
  | false =>
    have HF : Hid (StorePost w s addr n v (.returned (.int .i64 2)) w) := by
      have e : storeRs s.rs addr n v = s.rs := by unfold storeRs; rw [hw]; rfl
      refine ⟨by unfold storeE; rw [hw]; rfl, Touch.refl _ w, ?_, ?_⟩
      · rw [e]; exact h
      · rw [e]
    have HW : Hid ((n == 1 || n == 2 || n == 4 || n == 8) = false) := hw
    clear h hw
    go_enter Try.func18, Try.ntmps18
    go_wp2_with (go_at_call 36; refine (isWord_any n _).mono ?_; rintro e w ⟨rfl, rfl⟩; rw [HW.out])
    go_ret
    exact HF.out
  | true =>
    have hnn := word_of hw
    obtain ⟨z, rfl⟩ : ∃ z : Nat, n = z := ⟨n.toNat, by omega⟩
    have hz1 : 1 ≤ z := by omega
    have hz2 : z ≤ 8 := by omega
    clear hnn
    have HW : Hid (((z : Int) == 1 || (z : Int) == 2 || (z : Int) == 4 || (z : Int) == 8) = true) := hw
    have HWW := toHid hw
    have HM := toHid h
    have hws := fun b w => word_slice b z hz2 w
    clear h hw
    go_enter Try.func18, Try.ntmps18
    go_wp2_with (first | (go_at_call 36; refine (isWord_any z _).mono ?_; rintro e w ⟨rfl, rfl⟩; rw [HW.out]) | (go_at_call 37; refine (spread_any v _ hv0).mono ?_; rintro e w1 ⟨rfl, ht1⟩; have HT := toHid ht1; clear ht1))
    have ht2 := HT.out.alloc (.cells (spreadTo v 8).toArray 89)
    have hN := Blk.new w1 (spreadTo v 8) 89
    have hM := HM.out.touch ht2 (by simp)
    have hB : BytesAt (w1.alloc (.cells (spreadTo v 8).toArray 89)) w1.heap.size 0 ((List.range z).map (byteOf v)) := fun j x hj => by
      refine hN.cell ?_
      rw [Nat.zero_add]
      rw [List.getElem?_map, List.getElem?_map] at hj
      have hjz : j < z := by
        rcases Nat.lt_or_ge j z with h | h
        · exact h
        · rw [List.getElem?_eq_none (by simpa using h)] at hj
          simp at hj
      rw [List.getElem?_range hjz] at hj
      unfold spreadTo
      rw [List.getElem?_map, List.getElem?_range (by omega)]
      simp only [Option.map_some, Option.some.injEq] at hj ⊢
      rw [if_pos (by omega)]
      exact hj
    have HL := toHid (lay_any hM addr w1.heap.size 0 z 8 ((List.range z).map (byteOf v)) ha0 ha1 hz1 (by omega) (by simp) hB (fun x hx => by
      obtain ⟨j, _, rfl⟩ := List.mem_map.1 hx
      exact byteOf_bd v j))
    rw [spread_all] at HL ht2
    have HT2 := toHid ht2
    clear hN hM hB ht2
    refine HL.out.mono ?_
    rintro e w' ⟨rfl, h1, h2, h3⟩
    have HF : Hid (StorePost w s addr z v (.returned (.int .i64 (storeE s.rs addr z))) w') := by
      have e : storeRs s.rs addr z v = layRs s.rs addr ((List.range z).map (byteOf v)) := by unfold storeRs; rw [HWW.out]; rfl
      refine ⟨rfl, HT2.out.nil.trans h1 (fun x hx => Or.inl hx), ?_, ?_⟩
      · rw [e]; exact h2
      · rw [e]; exact h3
    have HE : Hid (storeE s.rs addr z = layE s.rs addr ((List.range z).map (byteOf v)).length) := by
      show storeE s.rs addr z = layE s.rs addr ((List.range z).map (byteOf v)).length
      unfold storeE
      rw [HWW.out]
      simp
    clear HL HT2 h1 h2 h3
    generalize layE s.rs addr ((List.range z).map (byteOf v)).length = x at HE
    go_wp2
    go_ret
    rw [HE.out] at HF
    exact HF.out

/-- Behind a Write. -/
def writeE (rs : List Reg) (addr : Int) (bs : List Int) : Int := if bs.length = 0 then 0 else layE rs addr bs.length
def writeRs (rs : List Reg) (addr : Int) (bs : List Int) : List Reg := if bs.length = 0 then rs else layRs rs addr bs
def WritePost (w : World) (s : MS) (addr : Int) (bs : List Int) (e : Ending) (w' : World) : Prop :=
  e = .returned (.int .i64 (writeE s.rs addr bs)) ∧ Touch s.blocks w w' ∧ MemAt w' { s with rs := writeRs s.rs addr bs } ∧ ({ s with rs := writeRs s.rs addr bs } : MS).blocks = s.blocks

/-- A slice of bytes as an argument: no bytes, or bytes from an address on. -/
def ArgAt (w : World) (v : Value) (bs : List Int) : Prop := ∃ a c, v = .slice a bs.length c ∧ (∀ x ∈ bs, 0 ≤ x ∧ x ≤ 255) ∧ bs.length ≤ 9223372036854775807 ∧ (1 ≤ bs.length → ∃ k off, a = some ⟨k, off, none⟩ ∧ BytesAt w k off bs)

end Go.Proofs.Ytkfmhabplcikiaa.Mem
