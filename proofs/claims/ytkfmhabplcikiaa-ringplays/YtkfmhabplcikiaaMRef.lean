/-
  The reference memory's state, and its calls that only read: Of, Has, Count.
-/
import Derived.Test.YtkfmhabplcikiaaMFind
namespace Go.Proofs.Ytkfmhabplcikiaa.Mem
open Go.RowKit

/-- A region of the reference. -/
structure RReg where
  live : Bool
  base : Int
  perm : Int
  bb : Nat
  bcap : Nat
  bytes : List Int
  sb : Nat
  scap : Nat
  set : List Bool

def RReg.zero : RReg := ⟨false, 0, 0, 0, 0, [], 0, 0, []⟩
def RReg.cells (r : RReg) : List Value := [.bool r.live, .int .u64 r.base, .int .i64 r.perm, .slice (some ⟨r.bb, 0, none⟩) r.bytes.length r.bcap, .slice (some ⟨r.sb, 0, none⟩) r.set.length r.scap]

structure RRegAt (w : World) (r : RReg) : Prop where
  bytes : ∃ rest, Blk w r.bb (r.bytes.map (Value.int .u8) ++ rest) 5
  set : ∃ rest, Blk w r.sb (r.set.map Value.bool ++ rest) 4

structure RRegOk (r : RReg) : Prop where
  base0 : 0 ≤ r.base
  size1 : 1 ≤ r.bytes.length
  size2 : r.bytes.length ≤ 65536
  fits : r.base + r.bytes.length ≤ 18446744073709551616
  perm0 : 0 ≤ r.perm
  perm1 : r.perm ≤ 7
  setLen : r.set.length = r.bytes.length
  byte : ∀ x ∈ r.bytes, 0 ≤ x ∧ x ≤ 255

structure RS where
  m : Nat
  g : Option Nat
  cap : Nat
  all : List RReg

def RReg.blocks (r : RReg) : List Nat := [r.bb, r.sb]
def RS.blocks (s : RS) : List Nat := s.m :: s.g.toList ++ s.all.flatMap RReg.blocks

structure RefAt (w : World) (s : RS) : Prop where
  self : Blk w s.m [slV s.g s.all.length s.cap] 29
  row : RowAt w 77 5 s.g s.all.length s.cap (s.all.flatMap RReg.cells)
  regs : ∀ r ∈ s.all, RRegAt w r
  ok : ∀ r ∈ s.all, RRegOk r
  apart : s.blocks.Nodup
  many : s.all.length ≤ 1000

theorem RS.mem_m (s : RS) : s.m ∈ s.blocks := by simp [RS.blocks]
theorem RS.mem_g (s : RS) {b : Nat} (h : s.g = some b) : b ∈ s.blocks := by simp [RS.blocks, h]
theorem RS.mem_r (s : RS) {r : RReg} (h : r ∈ s.all) {x : Nat} (hx : x ∈ r.blocks) : x ∈ s.blocks := by
  simp only [RS.blocks, List.cons_append, List.mem_cons, List.mem_append, List.mem_flatMap]
  exact Or.inr (Or.inr ⟨r, h, hx⟩)
theorem RRegAt.touch {S : List Nat} {w w' : World} {r : RReg} (h : RRegAt w r) (ht : Touch S w w') (hS : ∀ x ∈ r.blocks, x ∉ S) : RRegAt w' r := by
  obtain ⟨r1, h1⟩ := h.bytes
  obtain ⟨r2, h2⟩ := h.set
  exact ⟨⟨r1, ht.blk h1 (hS _ (by simp [RReg.blocks]))⟩, ⟨r2, ht.blk h2 (hS _ (by simp [RReg.blocks]))⟩⟩
theorem RefAt.touch {S : List Nat} {w w' : World} {s : RS} (h : RefAt w s) (ht : Touch S w w') (hS : ∀ x ∈ s.blocks, x ∉ S) : RefAt w' s where
  self := ht.blk h.self (hS _ s.mem_m)
  row := h.row.touch ht (fun _ hb => hS _ (s.mem_g hb))
  regs := fun r hr => (h.regs r hr).touch ht (fun _ hx => hS _ (s.mem_r hr hx))
  ok := h.ok
  apart := h.apart
  many := h.many
theorem RefAt.lt {w : World} {s : RS} (h : RefAt w s) : ∀ x ∈ s.blocks, x < w.heap.size := by
  intro x hx
  simp only [RS.blocks, List.cons_append, List.mem_cons, List.mem_append, Option.mem_toList, List.mem_flatMap] at hx
  rcases hx with rfl | hx | ⟨r, hr, hx⟩
  · exact h.self.lt
  · have := h.row.2.2.2
    rw [hx] at this
    obtain ⟨rest, hb, _⟩ := this
    exact hb.lt
  · simp only [RReg.blocks, List.mem_cons, List.not_mem_nil, or_false] at hx
    rcases hx with rfl | rfl
    · obtain ⟨_, hb⟩ := (h.regs r hr).bytes; exact hb.lt
    · obtain ⟨_, hb⟩ := (h.regs r hr).set; exact hb.lt

theorem flat_get (l : List RReg) (i j : Nat) (r : RReg) (hr : l[i]? = some r) (hj : j < 5) : (l.flatMap RReg.cells)[i * 5 + j]? = r.cells[j]? := by
  induction l generalizing i with
  | nil => simp at hr
  | cons x xs ih =>
    rw [List.flatMap_cons]
    have hl : x.cells.length = 5 := rfl
    cases i with
    | zero =>
      simp at hr
      subst hr
      rw [List.getElem?_append_left (by omega)]
      simp
    | succ i =>
      rw [List.getElem?_append_right (by omega), hl, show (i + 1) * 5 + j - 5 = i * 5 + j by omega]
      exact ih i (by simpa using hr)
theorem flat_len (l : List RReg) : (l.flatMap RReg.cells).length = l.length * 5 := by
  induction l with
  | nil => rfl
  | cons x xs ih =>
    rw [List.flatMap_cons, List.length_append, ih, List.length_cons]
    show 5 + _ = _
    omega

theorem rgetD_of {rs : List RReg} {j : Nat} (h : j < rs.length) : rs[j]? = some (rs.getD j RReg.zero) := by
  rw [List.getD_eq_getElem?_getD, List.getElem?_eq_getElem h]
  rfl
theorem rgetD_mem {rs : List RReg} {j : Nat} (h : j < rs.length) : rs.getD j RReg.zero ∈ rs := List.mem_of_getElem? (rgetD_of h)

theorem RefAt.nil {w : World} {s : RS} (h : RefAt w s) (hg : s.g = none) : s.all = [] ∧ s.cap = 0 := by
  have h4 := h.row.2.2.2
  rw [hg] at h4
  have h2 := h.row.2.1
  have h4 : s.cap = 0 := h4
  exact ⟨List.eq_nil_of_length_eq_zero (by omega), h4⟩
theorem RefAt.c0 {w : World} {s : RS} (h : RefAt w s) : w.cell? ⟨s.m, 0, none⟩ = some (slV s.g s.all.length s.cap) := h.self.cell rfl
theorem RefAt.at {w : World} {s : RS} (h : RefAt w s) {b : Nat} (hg : s.g = some b) {i : Nat} {r : RReg} (hr : s.all[i]? = some r) {j : Nat} (hj : j < 5) {v : Value} (hv : r.cells[j]? = some v) : w.cell? ⟨b, i * 5 + j, none⟩ = some v := by
  have h4 := h.row.2.2.2
  rw [hg] at h4
  obtain ⟨rest, hb, _⟩ := h4
  refine hb.cell ?_
  have h1 := flat_get s.all i j r hr hj
  have hlt : i < s.all.length := (List.getElem?_eq_some_iff.1 hr).1
  rw [List.getElem?_append_left (by rw [flat_len]; omega), h1, hv]

/-- Does the byte belong to the (living) region? -/
def rhasB (r : RReg) (addr : Int) : Bool := r.live && decide (r.base ≤ addr ∧ addr < r.base + (r.bytes.length : Int))
def ofV (all : List RReg) (addr : Int) : Value := match all.findIdx? (rhasB · addr) with
  | none => .tuple #[.int .i64 (-1), .int .i64 0]
  | some i => .tuple #[.int .i64 i, .int .i64 (addr - (all.getD i RReg.zero).base)]

theorem ofV_some {all : List RReg} {addr : Int} {i : Nat} (hi : i < all.length) (h1 : rhasB (all.getD i RReg.zero) addr = true) (h2 : ∀ j, j < i → rhasB (all.getD j RReg.zero) addr = false) :
    ofV all addr = .tuple #[.int .i64 i, .int .i64 (addr - (all.getD i RReg.zero).base)] := by
  have : all.findIdx? (rhasB · addr) = some i := by
    rw [List.findIdx?_eq_some_iff_getElem]
    refine ⟨hi, ?_, fun j hj => ?_⟩
    · rw [List.getD_eq_getElem?_getD, List.getElem?_eq_getElem hi] at h1
      simpa using h1
    · have := h2 j hj
      rw [List.getD_eq_getElem?_getD, List.getElem?_eq_getElem (by omega)] at this
      simpa using this
  unfold ofV
  rw [this]
theorem ofV_none {all : List RReg} {addr : Int} (h2 : ∀ j, j < all.length → rhasB (all.getD j RReg.zero) addr = false) : ofV all addr = .tuple #[.int .i64 (-1), .int .i64 0] := by
  have : all.findIdx? (rhasB · addr) = none := by
    rw [List.findIdx?_eq_none_iff]
    intro x hx
    obtain ⟨j, hj, rfl⟩ := List.getElem_of_mem hx
    have := h2 j hj
    rw [List.getD_eq_getElem?_getD, List.getElem?_eq_getElem hj] at this
    simpa using this
  unfold ofV
  rw [this]

set_option maxHeartbeats 2000000 in
set_option maxRecDepth 100000 in
theorem of_any {w : World} {s : RS} (h : RefAt w s) (addr : Int) (ha0 : 0 ≤ addr) (ha1 : addr ≤ 18446744073709551615) :
    Calls Try.prog 51 #[.pointer (some ⟨s.m, 0, none⟩), .int .u64 addr] w fun e w' => e = .returned (ofV s.all addr) ∧ Touch [] w w' := by
  have hc0 := h.c0
  have hmany := h.many
  cases hg : s.g with
  | none =>
    obtain ⟨h1, h2⟩ := h.nil hg
    have HV := toHid (ofV_none (all := s.all) (addr := addr) (fun j hj => by rw [h1] at hj; simp at hj))
    rw [hg, h1, h2] at hc0
    simp only [slV_none, List.length_nil] at hc0
    clear h h1 h2
    go_enter Try.func51, Try.ntmps51
    go_wp2
    go_loop [14] (fun t => t = .int .i64 0) (fun _ => 0)
    case atStart => rfl
    case round =>
      subst hrel
      go_wp2
      go_ret2
      exact ⟨by rw [HV.out]; rfl, Touch.refl _ _⟩
  | some b =>
    have HM := toHid h
    have HG := toHid hg
    rw [hg] at hc0
    simp only [slV_some] at hc0
    clear h hg
    go_enter Try.func51, Try.ntmps51
    go_wp2
    go_loopw [14] (fun t w' => ∃ k : Nat, k ≤ s.all.length ∧ t = .int .i64 k ∧ Hid (Touch [] w w' ∧ ∀ j, j < k → rhasB (s.all.getD j RReg.zero) addr = false)) (fun t _ => s.all.length - (intOf t).toNat)
    case atStart => exact ⟨0, by omega, rfl, Touch.refl _ _, fun j hj => by omega⟩
    case round =>
      rename_i wr
      obtain ⟨k, hk, rfl, HI⟩ := hrel
      clear hc0
      by_cases hlt : k < s.all.length
      · have hM := HM.out.touch HI.out.1 (by simp)
        have hr := rgetD_of hlt
        have hok := hM.ok _ (rgetD_mem hlt)
        have c0 := hM.at HG.out hr (j := 0) (by omega) rfl
        have c1 := hM.at HG.out hr (j := 1) (by omega) rfl
        have c2 := hM.at HG.out hr (j := 2) (by omega) rfl
        have c3 := hM.at HG.out hr (j := 3) (by omega) rfl
        have c4 := hM.at HG.out hr (j := 4) (by omega) rfl
        rw [Nat.add_zero] at c0
        have HS : rhasB (s.all.getD k RReg.zero) addr = true → Hid (ofV s.all addr = .tuple #[.int .i64 k, .int .i64 (addr - (s.all.getD k RReg.zero).base)]) := fun hh => ofV_some hlt hh HI.out.2
        have HN : rhasB (s.all.getD k RReg.zero) addr = false → Hid (∀ j, j < k + 1 → rhasB (s.all.getD j RReg.zero) addr = false) := fun hh j hj => by
          by_cases e : j = k
          · subst e; exact hh
          · exact HI.out.2 j (by omega)
        generalize s.all.getD k RReg.zero = r at *
        have hw := wrap_u64_sub addr r.base r.bytes.length ha0 ha1 hok.base0 hok.fits hok.size2
        have hb0 := hok.base0
        have hs2 := hok.size2
        have hfit := hok.fits
        have HT := toHid HI.out.1
        clear hM hok HI
        cases hl : r.live with
        | false =>
          have HN2 := HN (by unfold rhasB; rw [hl]; rfl)
          rw [hl] at c0
          clear HN HS hw hl
          go_wp2
          exact ⟨⟨k + 1, by omega, by go_num, HT.out.alloc _, HN2.out⟩, by simp [intOf]; omega⟩
        | true =>
          rw [hl] at c0
          by_cases hlo : addr < r.base
          · have HN2 := HN (by unfold rhasB; rw [hl]; simp; omega)
            clear HN HS hw hl
            go_wp2
            exact ⟨⟨k + 1, by omega, by go_num, HT.out.alloc _, HN2.out⟩, by simp [intOf]; omega⟩
          · by_cases hhi : addr < r.base + (r.bytes.length : Int)
            · have HS2 := HS (by unfold rhasB; rw [hl]; simp; omega)
              have hw1 : IntKind.u64.wrap (addr - r.base) = addr - r.base := by rw [IntKind.wrap_u64]; omega
              have hw2 : IntKind.u64.wrap (r.bytes.length : Int) = r.bytes.length := by rw [IntKind.wrap_u64]; omega
              clear HN HS hw hl
              go_wp2
              go_ret2
              exact ⟨by rw [HS2.out]; first | rfl | (congr 4; simp only [IntKind.wrap_i64, wrap64]; omega), HT.out.alloc _⟩
            · have HN2 := HN (by unfold rhasB; rw [hl]; simp; omega)
              have hw1 : IntKind.u64.wrap (addr - r.base) = addr - r.base := by rw [IntKind.wrap_u64]; omega
              have hw2 : IntKind.u64.wrap (r.bytes.length : Int) = r.bytes.length := by rw [IntKind.wrap_u64]; omega
              clear HN HS hw hl
              go_wp2
              exact ⟨⟨k + 1, by omega, by go_num, HT.out.alloc _, HN2.out⟩, by simp [intOf]; omega⟩
      · obtain rfl : k = s.all.length := by omega
        have HV := toHid (ofV_none HI.out.2)
        go_wp2
        go_ret2
        exact ⟨by rw [HV.out]; rfl, HI.out.1⟩

/-- How many live. -/
def liveN (all : List RReg) : Nat := (all.filter (·.live)).length

set_option maxHeartbeats 2000000 in
set_option maxRecDepth 100000 in
theorem rcount_any {w : World} {s : RS} (h : RefAt w s) :
    Calls Try.prog 23 #[.pointer (some ⟨s.m, 0, none⟩)] w fun e w' => e = .returned (.int .i64 (liveN s.all)) ∧ Touch [] w w' := by
  have hc0 := h.c0
  have hmany := h.many
  cases hg : s.g with
  | none =>
    obtain ⟨h1, h2⟩ := h.nil hg
    have HV : Hid (liveN s.all = 0) := by show liveN s.all = 0; rw [h1]; rfl
    rw [hg, h1, h2] at hc0
    simp only [slV_none, List.length_nil] at hc0
    clear h h1 h2
    go_enter Try.func23, Try.ntmps23
    go_wp2
    go_loop [3, 11] (fun n t => n = .int .i64 0 ∧ t = .int .i64 0) (fun _ _ => 0)
    case atStart => exact ⟨rfl, rfl⟩
    case round =>
      obtain ⟨rfl, rfl⟩ := hrel
      go_wp2
      go_ret
      exact ⟨by rw [HV.out]; rfl, Touch.refl _ _⟩
  | some b =>
    have HM := toHid h
    have HG := toHid hg
    rw [hg] at hc0
    simp only [slV_some] at hc0
    clear h hg
    go_enter Try.func23, Try.ntmps23
    go_wp2
    go_loopw [3, 11] (fun n t w' => ∃ k : Nat, k ≤ s.all.length ∧ t = .int .i64 k ∧ n = .int .i64 (liveN (s.all.take k)) ∧ Hid (Touch [] w w')) (fun _ t _ => s.all.length - (intOf t).toNat)
    case atStart => exact ⟨0, by omega, rfl, rfl, Touch.refl _ _⟩
    case round =>
      rename_i wr
      obtain ⟨k, hk, rfl, rfl, HI⟩ := hrel
      clear hc0
      by_cases hlt : k < s.all.length
      · have hM := HM.out.touch HI.out (by simp)
        have hr := rgetD_of hlt
        have c0 := hM.at HG.out hr (j := 0) (by omega) rfl
        have c1 := hM.at HG.out hr (j := 1) (by omega) rfl
        have c2 := hM.at HG.out hr (j := 2) (by omega) rfl
        have c3 := hM.at HG.out hr (j := 3) (by omega) rfl
        have c4 := hM.at HG.out hr (j := 4) (by omega) rfl
        rw [Nat.add_zero] at c0
        have hle : liveN (s.all.take k) ≤ 1000 := by
          unfold liveN
          refine Nat.le_trans (List.length_filter_le _ _) ?_
          rw [List.length_take]
          omega
        have hsucc : liveN (s.all.take (k + 1)) = liveN (s.all.take k) + if (s.all.getD k RReg.zero).live = true then 1 else 0 := by
          unfold liveN
          rw [List.take_succ_eq_append_getElem hlt, List.filter_append, List.length_append, List.getD_eq_getElem?_getD, List.getElem?_eq_getElem hlt]
          simp only [Option.getD_some, List.filter_cons]
          split <;> simp
        have HSU := toHid hsucc
        generalize s.all.getD k RReg.zero = r at *
        clear hM hsucc
        cases hl : r.live with
        | false =>
          rw [hl] at c0
          have HL := toHid hl
          clear hl
          go_wp2
          refine ⟨⟨k + 1, by omega, by go_num, ?_, HI.out.alloc _⟩, by simp [intOf]; omega⟩
          rw [HSU.out, HL.out]
          rfl
        | true =>
          rw [hl] at c0
          have HL := toHid hl
          clear hl
          go_wp2
          refine ⟨⟨k + 1, by omega, by go_num, ?_, HI.out.alloc _⟩, by simp [intOf]; omega⟩
          rw [HSU.out, HL.out]
          go_num
      · obtain rfl : k = s.all.length := by omega
        rw [List.take_length]
        go_wp2
        go_ret
        exact ⟨rfl, HI.out⟩

def hasB' (all : List RReg) (id : Int) : Bool := decide (0 ≤ id ∧ id < all.length) && (all.getD id.toNat RReg.zero).live

set_option maxHeartbeats 2000000 in
set_option maxRecDepth 100000 in
theorem has_any {w : World} {s : RS} (h : RefAt w s) (id : Int) :
    Calls Try.prog 48 #[.pointer (some ⟨s.m, 0, none⟩), .int .i64 id] w fun e w' => e = .returned (.bool (hasB' s.all id)) ∧ w' = w := by
  have hc0 := h.c0
  have hmany := h.many
  by_cases hin : 0 ≤ id ∧ id < s.all.length
  · obtain ⟨i, rfl⟩ : ∃ i : Nat, id = i := ⟨id.toNat, by omega⟩
    have hi : i < s.all.length := by omega
    cases hg : s.g with
    | none => have := (h.nil hg).1; rw [this] at hi; simp at hi
    | some b =>
    have c0 := h.at hg (rgetD_of hi) (j := 0) (by omega) rfl
    rw [Nat.add_zero] at c0
    have HV : Hid (hasB' s.all i = (s.all.getD i RReg.zero).live) := by
      show hasB' s.all i = _
      unfold hasB'
      rw [decide_eq_true hin, Int.toNat_natCast]
      rfl
    generalize s.all.getD i RReg.zero = r at *
    rw [hg] at hc0
    simp only [slV_some] at hc0
    clear h
    go_enter Try.func48, Try.ntmps48
    go_wp2
    go_ret
    exact ⟨by rw [HV.out]; rfl, rfl⟩
  · have HV : Hid (hasB' s.all id = false) := by
      show hasB' s.all id = false
      unfold hasB'
      rw [decide_eq_false hin]
      rfl
    simp only [slV] at hc0
    clear h
    by_cases h0 : 0 ≤ id
    · have h1 : ¬ id < s.all.length := fun hh => hin ⟨h0, hh⟩
      go_enter Try.func48, Try.ntmps48
      go_wp2
      go_ret
      exact ⟨by rw [HV.out]; rfl, rfl⟩
    · go_enter Try.func48, Try.ntmps48
      go_wp2
      go_ret
      exact ⟨by rw [HV.out]; rfl, rfl⟩
end Go.Proofs.Ytkfmhabplcikiaa.Mem
