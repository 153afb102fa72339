/-
  Read, Bytes, Live, Poke of a memory.
-/
import Derived.Test.YtbidppeelophhaaApi2
namespace Go.Proofs.Ytbidppeelophhaa
open Go.RowKit

/-- A slice that a call hands out: nil, or a row of its own. -/
def SliceIs (w : World) (v : Value) (bs : List Int) : Prop := (bs = [] ∧ v = .slice none 0 0) ∨ (1 ≤ bs.length ∧ ∃ N, v = .slice (some ⟨N, 0, none⟩) bs.length bs.length ∧ Blk w N (bs.map (Value.int .u8)) 5)

def readE (rs : List Reg) (addr n : Int) : Int := if n < 0 then 2 else if n = 0 then 0 else lookE rs addr n
def readV (rs : List Reg) (addr n : Int) : List Int := if n ≤ 0 then [] else tellR rs addr n
def ReadPost (w : World) (s : MS) (addr n : Int) (e : Ending) (w' : World) : Prop := ∃ v, e = .returned (.tuple #[v, .int .i64 (readE s.rs addr n)]) ∧ SliceIs w' v (readV s.rs addr n) ∧ Touch [] w w'

set_option maxHeartbeats 1000000 in
set_option maxRecDepth 100000 in
theorem read_any {w : World} {s : MS} (h : MemAt w s) (addr n : Int) (ha0 : 0 ≤ addr) (ha1 : addr ≤ 18446744073709551615) (hn : n ≤ 9223372036854775807) :
    Calls Try.prog 21 #[.pointer (some ⟨s.m, 0, none⟩), .int .u64 addr, .int .i64 n] w (ReadPost w s addr n) := by
  by_cases hneg : n < 0
  · have HF : Hid (ReadPost w s addr n (.returned (.tuple #[.slice none 0 0, .int .i64 2])) w) := ⟨_, by unfold readE; rw [if_pos hneg], Or.inl ⟨by unfold readV; rw [if_pos (by omega)], rfl⟩, Touch.refl _ w⟩
    clear h
    go_enter Try.func21, Try.ntmps21
    go_wp2
    go_ret2
    exact HF.out
  · by_cases h0 : n = 0
    · subst h0
      have HF : Hid (ReadPost w s addr 0 (.returned (.tuple #[.slice none 0 0, .int .i64 0])) w) := ⟨_, rfl, Or.inl ⟨rfl, rfl⟩, Touch.refl _ w⟩
      clear h
      go_enter Try.func21, Try.ntmps21
      go_wp2
      go_ret2
      exact HF.out
    · obtain ⟨z, rfl⟩ : ∃ z : Nat, n = z := ⟨n.toNat, by omega⟩
      have hz1 : 1 ≤ z := by omega
      have hb0 : ((z : Int) == 0) = false := by simpa using h0
      have hE : readE s.rs addr z = lookE s.rs addr z := by unfold readE; rw [if_neg hneg, if_neg h0]
      have hV : readV s.rs addr z = tellR s.rs addr z := by unfold readV; rw [if_neg (by omega)]
      have HEV := toHid (And.intro hE hV)
      have HL := toHid (look_any h addr z ha0 ha1 hz1 (by omega))
      have HM := toHid h
      clear h hE hV h0
      go_enter Try.func21, Try.ntmps21
      go_wp2_with fail
      refine HL.out.mono ?_
      rintro e w' ⟨⟨k, rfl⟩, (⟨h1, h2, rfl⟩ | ⟨h1, r, hr, a, hal, htell, rfl⟩)⟩
      · generalize hx : lookE s.rs addr z = x at *
        have HF : Hid (ReadPost w s addr z (.returned (.tuple #[.slice none 0 0, .int .i64 x])) (w.drewN k)) := ⟨_, by rw [HEV.out.1], Or.inl ⟨by rw [HEV.out.2, h2], rfl⟩, (Touch.refl _ w).drewN k⟩
        have hb : (x == 0) = false := by simpa using h1
        have hb2 : (x != 0) = true := by simpa using h1
        clear HL h1 h2 hx
        go_wp2
        go_ret2
        exact HF.out
      · have hbb := BytesAt.of_blk (off := a) ((HM.out.regs r hr).bytes.drewN k) z
        have hlen : ((r.bytes.drop a).take z).length = z := by simp; omega
        have hsz := (HM.out.ok r hr).size2
        have HC := toHid (copied_any r.bb a z z ((r.bytes.drop a).take z) (w.drewN k) (by omega) hlen hbb ((HM.out.regs r hr).bytes.lt))
        have HT := toHid (And.intro htell h1)
        clear hbb htell h1 HL
        go_wp2_with fail
        refine HC.out.mono ?_
        rintro e w2 ⟨rfl, hB, ht⟩
        have HF : Hid (ReadPost w s addr z (.returned (.tuple #[.slice (some ⟨w.heap.size, 0, none⟩) z z, .int .i64 0])) w2) := by
          refine ⟨_, by rw [HEV.out.1, HT.out.2], Or.inr ⟨by rw [HEV.out.2, HT.out.1, hlen]; exact hz1, w.heap.size, ?_, ?_⟩, ((Touch.refl [] w).drewN k).trans ht (by simp)⟩
          · rw [HEV.out.2, HT.out.1, hlen]
          · rw [HEV.out.2, HT.out.1]
            exact hB
        clear HC hB ht
        go_wp2
        go_ret2
        exact HF.out

theorem idxR_cases {w : World} {s : MS} (_h : MemAt w s) (id : Int) : (idxR s.rs id = -1 ∧ ∀ r ∈ s.rs, r.id ≠ id) ∨ ∃ i : Nat, ∃ r, idxR s.rs id = i ∧ i < s.rs.length ∧ s.rs[i]? = some r ∧ s.rs.getD i Reg.zero = r ∧ r.id = id := by
  unfold idxR
  cases hf : s.rs.findIdx? (fun r => r.id == id) with
  | none =>
    rw [List.findIdx?_eq_none_iff] at hf
    exact Or.inl ⟨rfl, fun r hr => by simpa using hf r hr⟩
  | some i =>
    rw [List.findIdx?_eq_some_iff_getElem] at hf
    obtain ⟨hi, h1, _⟩ := hf
    refine Or.inr ⟨i, s.rs[i], rfl, hi, List.getElem?_eq_getElem hi, ?_, by simpa using h1⟩
    rw [List.getD_eq_getElem?_getD, List.getElem?_eq_getElem hi]
    rfl

/-- The region with that id. -/
def regOf (rs : List Reg) (id : Int) : Option Reg := rs.find? (fun r => r.id == id)
theorem regOf_none {rs : List Reg} {id : Int} (h : ∀ r ∈ rs, r.id ≠ id) : regOf rs id = none := by
  unfold regOf
  rw [List.find?_eq_none]
  intro x hx
  simpa using h x hx
theorem regOf_some {w : World} {s : MS} (h : MemAt w s) {r : Reg} (hr : r ∈ s.rs) : regOf s.rs r.id = some r := by
  unfold regOf
  cases hf : s.rs.find? (fun x => x.id == r.id) with
  | none =>
    rw [List.find?_eq_none] at hf
    exact absurd (by simp) (hf r hr)
  | some x =>
    have h1 := List.find?_some hf
    have h2 := List.mem_of_find?_eq_some hf
    rw [id_inj h.ids h2 hr (by simpa using h1)]

set_option maxHeartbeats 400000 in
set_option maxRecDepth 100000 in
theorem live_any {w : World} {s : MS} (h : MemAt w s) (id : Int) :
    Calls Try.prog 24 #[.pointer (some ⟨s.m, 0, none⟩), .int .i64 id] w fun e w' => e = .returned (.bool (regOf s.rs id).isSome) ∧ Touch [] w w' := by
  have HI := toHid (index_any h id)
  rcases idxR_cases h id with ⟨h1, h2⟩ | ⟨i, r, h1, hi, h2, h3, rfl⟩
  · rw [h1] at HI
    have HR := toHid (regOf_none h2)
    clear h h1 h2
    go_enter Try.func24, Try.ntmps24
    go_wp2_with (go_at_call 36; refine HI.out.mono ?_; rintro e w' ⟨rfl, ht⟩; have HT := toHid ht; clear ht)
    go_ret
    exact ⟨by rw [HR.out]; rfl, HT.out⟩
  · rw [h1] at HI
    have HR := toHid (regOf_some h (List.mem_of_getElem? h2))
    clear h h1 h2 h3
    go_enter Try.func24, Try.ntmps24
    go_wp2_with (go_at_call 36; refine HI.out.mono ?_; rintro e w' ⟨rfl, ht⟩; have HT := toHid ht; clear ht)
    go_ret
    exact ⟨by rw [HR.out]; rfl, HT.out⟩

/-- Behind Bytes. -/
def BytesPost (w : World) (s : MS) (id : Int) (e : Ending) (w' : World) : Prop := Touch [] w w' ∧ match regOf s.rs id with
  | none => e = .returned (.tuple #[.slice none 0 0, .int .i64 14])
  | some r => ∃ v, e = .returned (.tuple #[v, .int .i64 0]) ∧ SliceIs w' v r.bytes

set_option maxHeartbeats 1000000 in
set_option maxRecDepth 100000 in
theorem bytes_any {w : World} {s : MS} (h : MemAt w s) (id : Int) :
    Calls Try.prog 16 #[.pointer (some ⟨s.m, 0, none⟩), .int .i64 id] w (BytesPost w s id) := by
  have HI := toHid (index_any h id)
  rcases idxR_cases h id with ⟨h1, h2⟩ | ⟨i, r, h1, hi, h2, h3, rfl⟩
  · rw [h1] at HI
    have HF : ∀ w', Touch [] w w' → Hid (BytesPost w s id (.returned (.tuple #[.slice none 0 0, .int .i64 14])) w') := fun w' ht => ⟨ht, by rw [regOf_none h2]⟩
    have HFF := toHid HF
    clear h h1 h2 HF
    go_enter Try.func16, Try.ntmps16
    go_wp2_with (go_at_call 36; refine HI.out.mono ?_; rintro e w' ⟨rfl, ht⟩; have HT := toHid ht; clear ht)
    go_ret2
    exact (HFF.out _ HT.out).out
  · rw [h1] at HI
    have hr := List.mem_of_getElem? h2
    have HR := toHid (regOf_some h hr)
    have HM := toHid h
    have hmany := h.many
    have hok := h.ok r hr
    cases hg : s.g with
    | none => have := (h.nil hg).1; rw [this] at hi; simp at hi
    | some b =>
    have HP := toHid (And.intro hg (And.intro hr h3))
    have hsz := hok.size2
    clear h h1 h2 h3 hg hr hok
    go_enter Try.func16, Try.ntmps16
    go_wp2_with fail
    refine HI.out.mono ?_
    rintro e w1 ⟨rfl, ht⟩
    have hM := HM.out.touch ht (by simp)
    have hc0 := hM.c0
    rw [HP.out.1] at hc0
    simp only [slV_some] at hc0
    have hp := hM.ptrAt HP.out.1 hi
    rw [HP.out.2.2] at hp
    have hc3 := (hM.regs r HP.out.2.1).c3
    have hbb := BytesAt.of_blk (off := 0) (hM.regs r HP.out.2.1).bytes r.bytes.length
    rw [List.drop_zero, List.take_length] at hbb
    have HC := toHid (copied_any r.bb 0 r.bytes.length r.bytes.length r.bytes w1 hsz rfl hbb ((hM.regs r HP.out.2.1).bytes.lt))
    have HT := toHid ht
    have h1 := (hM.ok r HP.out.2.1).size1
    clear hbb ht hM HI
    go_wp2_with fail
    refine HC.out.mono ?_
    rintro e w2 ⟨rfl, hB, ht2⟩
    have HF : Hid (BytesPost w s r.id (.returned (.tuple #[.slice (some ⟨w1.heap.size, 0, none⟩) r.bytes.length r.bytes.length, .int .i64 0])) w2) := by
      refine ⟨HT.out.trans ht2 (by simp), ?_⟩
      rw [HR.out]
      exact ⟨_, rfl, Or.inr ⟨h1, _, rfl, hB⟩⟩
    clear HC hB ht2 hc0 hp hc3
    go_wp2
    go_ret2
    exact HF.out
end Go.Proofs.Ytbidppeelophhaa
