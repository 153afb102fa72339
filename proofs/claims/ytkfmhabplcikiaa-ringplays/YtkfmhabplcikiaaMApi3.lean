/-
  Read, Bytes, Live, Poke of a memory.
-/
import Derived.Test.YtkfmhabplcikiaaMApi2
namespace Go.Proofs.Ytkfmhabplcikiaa.Mem
open Go.RowKit

/-- A slice that a call hands out: nil, or a row of its own. -/
def SliceIs (w : World) (v : Value) (bs : List Int) : Prop := (bs = [] ∧ v = .slice none 0 0) ∨ (1 ≤ bs.length ∧ ∃ N, v = .slice (some ⟨N, 0, none⟩) bs.length bs.length ∧ Blk w N (bs.map (Value.int .u8)) 5)

def readE (rs : List Reg) (addr n : Int) : Int := if n < 0 then 2 else if n = 0 then 0 else lookE rs addr n
def readV (rs : List Reg) (addr n : Int) : List Int := if n ≤ 0 then [] else tellR rs addr n
def ReadPost (w : World) (s : MS) (addr n : Int) (e : Ending) (w' : World) : Prop := ∃ v, e = .returned (.tuple #[v, .int .i64 (readE s.rs addr n)]) ∧ SliceIs w' v (readV s.rs addr n) ∧ Touch [] w w'

theorem idxR_cases {w : World} {s : MS} (_h : MemAt w s) (id : Int) : (idxR s.rs id = -1 ∧ ∀ r ∈ s.rs, r.id ≠ id) ∨ ∃ i : Nat, ∃ r, idxR s.rs id = i ∧ i < s.rs.length ∧ s.rs[i]? = some r ∧ s.rs.getD i Reg.zero = r ∧ r.id = id := by
  unfold idxR
  cases hf : s.rs.findIdx? (fun r => r.id == id) with
  | none =>
    rw [List.findIdx?_eq_none_iff] at hf
    exact Or.inl ⟨rfl, fun r hr => by simpa using hf r hr⟩
  | some i =>
    rw [List.findIdx?_eq_some_iff_getElem] at hf
    obtain ⟨hi, h1, _⟩ := hf
    refine Or.inr ⟨i, s.rs[i], rfl, hi, List.getElem?_eq_getElem hi, ?_, by simpa using h1⟩
    rw [List.getD_eq_getElem?_getD, List.getElem?_eq_getElem hi]
    rfl

/-- The region with that id. -/
def regOf (rs : List Reg) (id : Int) : Option Reg := rs.find? (fun r => r.id == id)
theorem regOf_none {rs : List Reg} {id : Int} (h : ∀ r ∈ rs, r.id ≠ id) : regOf rs id = none := by
  unfold regOf
  rw [List.find?_eq_none]
  intro x hx
  simpa using h x hx
theorem regOf_some {w : World} {s : MS} (h : MemAt w s) {r : Reg} (hr : r ∈ s.rs) : regOf s.rs r.id = some r := by
  unfold regOf
  cases hf : s.rs.find? (fun x => x.id == r.id) with
  | none =>
    rw [List.find?_eq_none] at hf
    exact absurd (by simp) (hf r hr)
  | some x =>
    have h1 := List.find?_some hf
    have h2 := List.mem_of_find?_eq_some hf
    rw [id_inj h.ids h2 hr (by simpa using h1)]

/-- Behind Bytes. -/
def BytesPost (w : World) (s : MS) (id : Int) (e : Ending) (w' : World) : Prop := Touch [] w w' ∧ match regOf s.rs id with
  | none => e = .returned (.tuple #[.slice none 0 0, .int .i64 14])
  | some r => ∃ v, e = .returned (.tuple #[v, .int .i64 0]) ∧ SliceIs w' v r.bytes

set_option maxHeartbeats 1000000 in
set_option maxRecDepth 100000 in
theorem bytes_any {w : World} {s : MS} (h : MemAt w s) (id : Int) :
    Calls Try.prog 33 #[.pointer (some ⟨s.m, 0, none⟩), .int .i64 id] w (BytesPost w s id) := by
  have HI := toHid (index_any h id)
  rcases idxR_cases h id with ⟨h1, h2⟩ | ⟨i, r, h1, hi, h2, h3, rfl⟩
  · rw [h1] at HI
    have HF : ∀ w', Touch [] w w' → Hid (BytesPost w s id (.returned (.tuple #[.slice none 0 0, .int .i64 14])) w') := fun w' ht => ⟨ht, by rw [regOf_none h2]⟩
    have HFF := toHid HF
    clear h h1 h2 HF
    go_enter Try.func33, Try.ntmps33
    go_wp2_with (go_at_call 45; refine HI.out.mono ?_; rintro e w' ⟨rfl, ht⟩; have HT := toHid ht; clear ht)
    go_ret2
    exact (HFF.out _ HT.out).out
  · rw [h1] at HI
    have hr := List.mem_of_getElem? h2
    have HR := toHid (regOf_some h hr)
    have HM := toHid h
    have hmany := h.many
    have hok := h.ok r hr
    cases hg : s.g with
    | none => have := (h.nil hg).1; rw [this] at hi; simp at hi
    | some b =>
    have HP := toHid (And.intro hg (And.intro hr h3))
    have hsz := hok.size2
    clear h h1 h2 h3 hg hr hok
    go_enter Try.func33, Try.ntmps33
    go_wp2_with fail
    refine HI.out.mono ?_
    rintro e w1 ⟨rfl, ht⟩
    have hM := HM.out.touch ht (by simp)
    have hc0 := hM.c0
    rw [HP.out.1] at hc0
    simp only [slV_some] at hc0
    have hp := hM.ptrAt HP.out.1 hi
    rw [HP.out.2.2] at hp
    have hc3 := (hM.regs r HP.out.2.1).c3
    have hbb := BytesAt.of_blk (off := 0) (hM.regs r HP.out.2.1).bytes r.bytes.length
    rw [List.drop_zero, List.take_length] at hbb
    have HC := toHid (copied_any r.bb 0 r.bytes.length r.bytes.length r.bytes w1 hsz rfl hbb ((hM.regs r HP.out.2.1).bytes.lt))
    have HT := toHid ht
    have h1 := (hM.ok r HP.out.2.1).size1
    clear hbb ht hM HI
    go_wp2_with fail
    refine HC.out.mono ?_
    rintro e w2 ⟨rfl, hB, ht2⟩
    have HF : Hid (BytesPost w s r.id (.returned (.tuple #[.slice (some ⟨w1.heap.size, 0, none⟩) r.bytes.length r.bytes.length, .int .i64 0])) w2) := by
      refine ⟨HT.out.trans ht2 (by simp), ?_⟩
      rw [HR.out]
      exact ⟨_, rfl, Or.inr ⟨h1, _, rfl, hB⟩⟩
    clear HC hB ht2 hc0 hp hc3
    go_wp2
    go_ret2
    exact HF.out
end Go.Proofs.Ytkfmhabplcikiaa.Mem
