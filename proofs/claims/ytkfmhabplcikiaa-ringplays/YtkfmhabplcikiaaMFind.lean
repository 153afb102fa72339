/-
  behind, holder, access, taken: which region a byte belongs to.
-/
import Derived.Test.YtkfmhabplcikiaaMSt
namespace Go.Proofs.Ytkfmhabplcikiaa.Mem
open Go.RowKit

theorem toHid {p : Prop} (h : p) : Hid p := h

/-- Does the byte belong to the region? -/
def hasB (r : Reg) (addr : Int) : Bool := decide (r.base ≤ addr ∧ addr < r.base + (r.bytes.length : Int))
/-- The region of a byte. -/
def findR (rs : List Reg) (addr : Int) : Option Reg := rs.find? (hasB · addr)

theorem findR_of : ∀ {rs : List Reg} {r : Reg} {addr : Int}, rs.Pairwise (fun a b => a.base + (a.bytes.length : Int) ≤ b.base) → (∀ x ∈ rs, 1 ≤ x.bytes.length) → r ∈ rs → hasB r addr = true → findR rs addr = some r
  | [], _, _, _, _, hr, _ => by cases hr
  | x :: xs, r, addr, hp, h1, hr, hb => by
    rw [List.pairwise_cons] at hp
    unfold findR
    rw [List.find?_cons]
    rcases List.mem_cons.1 hr with rfl | hr
    · rw [hb]
    · have h2 := hp.1 r hr
      have h3 : hasB x addr = false := by
        unfold hasB at *
        have := of_decide_eq_true hb
        exact decide_eq_false (by omega)
      rw [h3]
      exact findR_of hp.2 (fun y hy => h1 y (List.mem_cons_of_mem _ hy)) hr hb
theorem findR_none {rs : List Reg} {addr : Int} (h : ∀ r ∈ rs, hasB r addr = false) : findR rs addr = none := by
  unfold findR
  rw [List.find?_eq_none]
  intro x hx
  rw [h x hx]
  simp
theorem findR_mem {rs : List Reg} {addr : Int} {r : Reg} (h : findR rs addr = some r) : r ∈ rs ∧ hasB r addr = true := by
  unfold findR at h
  exact ⟨List.mem_of_find?_eq_some h, by simpa using List.find?_some h⟩

theorem pair_get {α : Type} {R : α → α → Prop} {l : List α} (h : l.Pairwise R) {i j : Nat} {a b : α} (hij : i < j) (ha : l[i]? = some a) (hb : l[j]? = some b) : R a b := by
  obtain ⟨h1, rfl⟩ := List.getElem?_eq_some_iff.1 ha
  obtain ⟨h2, rfl⟩ := List.getElem?_eq_some_iff.1 hb
  exact (List.pairwise_iff_getElem.1 h) i j h1 h2 hij

theorem getD_of {rs : List Reg} {j : Nat} (h : j < rs.length) : rs[j]? = some (rs.getD j Reg.zero) := by
  rw [List.getD_eq_getElem?_getD, List.getElem?_eq_getElem h]
  rfl
theorem getD_mem {rs : List Reg} {j : Nat} (h : j < rs.length) : rs.getD j Reg.zero ∈ rs := List.mem_of_getElem? (getD_of h)

/-- The cells of a memory, as a walk reads them. -/
theorem MemAt.c0 {w : World} {s : MS} (h : MemAt w s) : w.cell? ⟨s.m, 0, none⟩ = some (slV s.g s.rs.length s.cap) := h.self.cell rfl
theorem MemAt.c1 {w : World} {s : MS} (h : MemAt w s) : w.cell? ⟨s.m, 1, none⟩ = some (.int .i64 s.next) := h.self.cell rfl
theorem MemAt.nil {w : World} {s : MS} (h : MemAt w s) (hg : s.g = none) : s.rs = [] ∧ s.cap = 0 := by
  have h4 := h.row.2.2.2
  rw [hg] at h4
  have h2 := h.row.2.1
  have h4 : s.cap = 0 := h4
  exact ⟨List.eq_nil_of_length_eq_zero (by omega), h4⟩
theorem MemAt.ptrAt {w : World} {s : MS} (h : MemAt w s) {b : Nat} (hg : s.g = some b) {j : Nat} (hj : j < s.rs.length) : w.cell? ⟨b, j, none⟩ = some (.pointer (some ⟨(s.rs.getD j Reg.zero).p, 0, none⟩)) := by
  have h4 := h.row.2.2.2
  rw [hg] at h4
  obtain ⟨rest, hb, _⟩ := h4
  refine hb.cell ?_
  rw [List.getElem?_append_left (by simpa using hj), List.getElem?_map, getD_of hj]
  rfl

theorem behind_any {w : World} {s : MS} (h : MemAt w s) (addr : Int) :
    Calls Try.prog 26 #[.pointer (some ⟨s.m, 0, none⟩), .int .u64 addr] w fun e w' => (∃ i : Nat, i ≤ s.rs.length ∧ e = .returned (.int .i64 i) ∧ (∀ j, j < i → (s.rs.getD j Reg.zero).base ≤ addr) ∧ (∀ j, i ≤ j → j < s.rs.length → addr < (s.rs.getD j Reg.zero).base)) ∧ ∃ k, w' = w.drewN k := by
  have hc0 := h.c0
  cases hg : s.g with
  | none =>
    obtain ⟨h1, h2⟩ := h.nil hg
    rw [hg, h1, h2] at hc0
    refine (behind_nil s.m addr w hc0).mono ?_
    rintro e w' ⟨rfl, k, rfl⟩
    exact ⟨⟨0, by omega, rfl, fun j hj => by omega, fun j _ hj => by rw [h1] at hj; simp at hj⟩, k, rfl⟩
  | some b =>
    rw [hg] at hc0
    refine (behind_some s.m b s.rs.length s.cap addr (fun j => (s.rs.getD j Reg.zero).p) (fun j => (s.rs.getD j Reg.zero).base) w h.many hc0 (fun j hj => h.ptrAt hg hj) (fun j hj => (h.regs _ (getD_mem hj)).c1) ?_).mono (fun e w' hh => hh)
    intro i j hij hj
    have h1 := pair_get h.sorted hij (getD_of (by omega)) (getD_of hj)
    have h2 := (h.ok _ (getD_mem (rs := s.rs) (j := i) (by omega))).size1
    show (s.rs.getD i Reg.zero).base < (s.rs.getD j Reg.zero).base
    omega

/-- What holder answers. -/
def holderV (o : Option Reg) (addr : Int) : Value := match o with
  | none => .tuple #[.pointer none, .int .i64 0]
  | some r => .tuple #[.pointer (some ⟨r.p, 0, none⟩), .int .i64 (addr - r.base)]

theorem wrap_u64_sub (a b : Int) (n : Nat) (ha0 : 0 ≤ a) (ha1 : a ≤ 18446744073709551615) (hb0 : 0 ≤ b) (hn : b + (n : Int) ≤ 18446744073709551616) (hn2 : n ≤ 65536) :
    decide (IntKind.u64.wrap (a - b) < IntKind.u64.wrap (n : Int)) = decide (b ≤ a ∧ a < b + (n : Int)) := by
  rw [IntKind.wrap_u64, IntKind.wrap_u64, decide_eq_decide]
  omega

set_option maxHeartbeats 1000000 in
set_option maxRecDepth 100000 in
theorem holder_any {w : World} {s : MS} (h : MemAt w s) (addr : Int) (ha0 : 0 ≤ addr) (ha1 : addr ≤ 18446744073709551615) :
    Calls Try.prog 56 #[.pointer (some ⟨s.m, 0, none⟩), .int .u64 addr] w fun e w' => e = .returned (holderV (findR s.rs addr) addr) ∧ ∃ k, w' = w.drewN k := by
  have hmany := h.many
  have hc0 := h.c0
  go_enter Try.func56, Try.ntmps56
  go_wp2_with fail
  refine (behind_any h addr).mono ?_
  rintro e w' ⟨⟨i, hi, rfl, hlo, hhi⟩, k, rfl⟩
  by_cases hi0 : i = 0
  · subst hi0
    have hf : findR s.rs addr = none := findR_none (fun r hr => by
      obtain ⟨j, hj, rfl⟩ := List.getElem_of_mem hr
      have := hhi j (by omega) hj
      rw [List.getD_eq_getElem?_getD, List.getElem?_eq_getElem hj] at this
      unfold hasB
      exact decide_eq_false (by simp at this; omega))
    have HF : Hid (findR s.rs addr = none) := hf
    clear hhi hlo h hf
    go_wp2
    go_ret2
    exact ⟨by rw [HF.out]; rfl, _, rfl⟩
  · obtain ⟨q, rfl⟩ : ∃ q, i = q + 1 := ⟨i - 1, by omega⟩
    have hq : s.rs[q]? = some (s.rs.getD q Reg.zero) := getD_of (by omega)
    cases hg : s.g with
    | none => have := (h.nil hg).1; rw [this] at hi; simp at hi
    | some b =>
    have hp := h.ptrAt hg (j := q) (by omega)
    have hlq := hlo q (by omega)
    generalize s.rs.getD q Reg.zero = r at hq hp hlq
    have hr := List.mem_of_getElem? hq
    have hc1 := (h.regs r hr).c1
    have hc3 := (h.regs r hr).c3
    have hok := h.ok r hr
    have hw := wrap_u64_sub addr r.base r.bytes.length ha0 ha1 hok.base0 hok.fits hok.size2
    have hsz := hok.size2
    have hb0 := hok.base0
    rw [hg] at hc0
    simp only [slV_some] at hc0
    have hf : hasB r addr = true → findR s.rs addr = some r := fun hb => findR_of h.sorted (fun x hx => (h.ok x hx).size1) hr hb
    have hf2 : hasB r addr = false → findR s.rs addr = none := fun hb => findR_none (fun x hx => by
      obtain ⟨j, hj, rfl⟩ := List.getElem_of_mem hx
      have hjg := List.getElem?_eq_getElem hj
      unfold hasB at *
      refine decide_eq_false ?_
      have hb := of_decide_eq_false hb
      rcases Nat.lt_trichotomy j q with hjq | rfl | hjq
      · have := pair_get h.sorted hjq hjg hq
        omega
      · rw [hq] at hjg
        injection hjg with hjg
        rw [← hjg]
        exact hb
      · have := hhi j (by omega) hj
        rw [List.getD_eq_getElem?_getD, hjg] at this
        simp at this
        omega)
    have HW : Hid (decide (IntKind.u64.wrap (addr - r.base) < IntKind.u64.wrap (r.bytes.length : Int)) = hasB r addr) := hw
    clear hw hhi hlo h
    cases hbb : hasB r addr with
    | true =>
      have HF : Hid (findR s.rs addr = some r) := hf hbb
      have hin := hbb
      unfold hasB at hin
      have hin := of_decide_eq_true hin
      rw [hbb] at HW
      clear hf hf2 hbb
      go_wp2_with (go_at_call 42; refine (holds_any r.p r.bb r.bytes.length r.bytes.length addr r.base _ ?_ ?_).mono ?_; (simp only [World.cell?_drewN, hc1]); (simp only [World.cell?_drewN, hc3]); rintro e w' ⟨rfl, k2, rfl⟩; rw [HW.out])
      go_quiet (fail)
      go_wp2
      go_ret2
      refine ⟨?_, k + k2 + nq, by rw [World.drewN_drewN]⟩
      rw [HF.out]
      unfold holderV
      congr 4
    | false =>
      have HF : Hid (findR s.rs addr = none) := hf2 hbb
      rw [hbb] at HW
      clear hf hf2 hbb
      go_wp2_with (go_at_call 42; refine (holds_any r.p r.bb r.bytes.length r.bytes.length addr r.base _ ?_ ?_).mono ?_; (simp only [World.cell?_drewN, hc1]); (simp only [World.cell?_drewN, hc3]); rintro e w' ⟨rfl, k2, rfl⟩; rw [HW.out])
      go_ret2
      exact ⟨by rw [HF.out]; rfl, _, rfl⟩

/-- What access answers: the region and the place there, or ErrAccess. -/
def accessV (o : Option Reg) (addr n perm : Int) : Value := match o with
  | none => .tuple #[.pointer none, .int .i64 0, .int .i64 10]
  | some r => if addr - r.base ≤ (r.bytes.length : Int) - n ∧ bits .and .i64 r.perm perm ≠ 0 then .tuple #[.pointer (some ⟨r.p, 0, none⟩), .int .i64 (addr - r.base), .int .i64 0]
    else .tuple #[.pointer none, .int .i64 0, .int .i64 10]

theorem accessV_no {r : Reg} {addr n perm : Int} (h : ¬ (addr - r.base ≤ (r.bytes.length : Int) - n ∧ bits .and .i64 r.perm perm ≠ 0)) : accessV (some r) addr n perm = .tuple #[.pointer none, .int .i64 0, .int .i64 10] := if_neg h
theorem accessV_yes {r : Reg} {addr n perm : Int} (h : addr - r.base ≤ (r.bytes.length : Int) - n ∧ bits .and .i64 r.perm perm ≠ 0) : accessV (some r) addr n perm = .tuple #[.pointer (some ⟨r.p, 0, none⟩), .int .i64 (addr - r.base), .int .i64 0] := if_pos h

set_option maxHeartbeats 1000000 in
set_option maxRecDepth 100000 in
theorem access_any {w : World} {s : MS} (h : MemAt w s) (addr n perm : Int) (ha0 : 0 ≤ addr) (ha1 : addr ≤ 18446744073709551615) (hn0 : 0 ≤ n) (hn1 : n ≤ 9223372036854775807) :
    Calls Try.prog 49 #[.pointer (some ⟨s.m, 0, none⟩), .int .u64 addr, .int .i64 n, .int .i64 perm] w fun e w' => e = .returned (accessV (findR s.rs addr) addr n perm) ∧ ∃ k, w' = w.drewN k := by
  have hH := holder_any h addr ha0 ha1
  cases hf : findR s.rs addr with
  | none =>
    rw [hf] at hH
    have HH := toHid hH
    clear h hH hf
    go_enter Try.func49, Try.ntmps49
    go_wp2_with (go_at_call 56; refine HH.out.mono ?_; rintro e w' ⟨rfl, k, rfl⟩; simp only [holderV])
    go_ret3
    exact ⟨rfl, _, rfl⟩
  | some r =>
    rw [hf] at hH
    have hr := (findR_mem hf).1
    have hc2 := (h.regs r hr).c2
    have hc3 := (h.regs r hr).c3
    have hsz := (h.ok r hr).size2
    have HH := toHid hH
    clear h hH hf
    by_cases hreach : addr - r.base ≤ (r.bytes.length : Int) - n
    · by_cases hperm : bits .and .i64 r.perm perm = 0
      · go_enter Try.func49, Try.ntmps49
        go_wp2_with (first
          | (go_at_call 56; refine HH.out.mono ?_; rintro e w' ⟨rfl, k, rfl⟩; simp only [holderV])
          | (go_at_call 57; refine (reaches_any r.p r.bb r.bytes.length r.bytes.length (addr - r.base) n _ hsz (by omega) hn1 (by simp only [World.cell?_drewN, hc3])).mono ?_; rintro e w' ⟨rfl, rfl⟩))
        go_ret3
        exact ⟨(congrArg Ending.returned (accessV_no (fun hh => hh.2 hperm))).symm, _, rfl⟩
      · go_enter Try.func49, Try.ntmps49
        go_wp2_with (first
          | (go_at_call 56; refine HH.out.mono ?_; rintro e w' ⟨rfl, k, rfl⟩; simp only [holderV])
          | (go_at_call 57; refine (reaches_any r.p r.bb r.bytes.length r.bytes.length (addr - r.base) n _ hsz (by omega) hn1 (by simp only [World.cell?_drewN, hc3])).mono ?_; rintro e w' ⟨rfl, rfl⟩))
        go_ret3
        exact ⟨(congrArg Ending.returned (accessV_yes ⟨hreach, hperm⟩)).symm, _, rfl⟩
    · go_enter Try.func49, Try.ntmps49
      go_wp2_with (first
          | (go_at_call 56; refine HH.out.mono ?_; rintro e w' ⟨rfl, k, rfl⟩; simp only [holderV])
          | (go_at_call 57; refine (reaches_any r.p r.bb r.bytes.length r.bytes.length (addr - r.base) n _ hsz (by omega) hn1 (by simp only [World.cell?_drewN, hc3])).mono ?_; rintro e w' ⟨rfl, rfl⟩))
      go_ret3
      refine ⟨?_, _, rfl⟩
      exact (congrArg Ending.returned (accessV_no (fun hh => by have := hh.1; omega))).symm

/-- Would a region share a byte with one that lives? -/
def busyB (rs : List Reg) (base size : Int) : Bool := rs.any (fun r => decide (r.base < base + size ∧ base < r.base + (r.bytes.length : Int)))

theorem busy_of {rs : List Reg} {base size : Int} {r : Reg} (hr : r ∈ rs) (h1 : r.base < base + size) (h2 : base < r.base + (r.bytes.length : Int)) : busyB rs base size = true := by
  unfold busyB
  rw [List.any_eq_true]
  exact ⟨r, hr, decide_eq_true ⟨h1, h2⟩⟩
theorem busy_not {rs : List Reg} {base size : Int} (h : ∀ (j : Nat) (_hj : j < rs.length), ¬ ((rs.getD j Reg.zero).base < base + size ∧ base < (rs.getD j Reg.zero).base + ((rs.getD j Reg.zero).bytes.length : Int))) : busyB rs base size = false := by
  unfold busyB
  rw [List.any_eq_false]
  intro x hx
  obtain ⟨j, hj, rfl⟩ := List.getElem_of_mem hx
  have := h j hj
  rw [List.getD_eq_getElem?_getD, List.getElem?_eq_getElem hj] at this
  simpa using this

set_option maxHeartbeats 1000000 in
set_option maxRecDepth 100000 in
theorem taken_any {w : World} {s : MS} (h : MemAt w s) (i size : Nat) (base : Int) (hb0 : 0 ≤ base) (hs1 : 1 ≤ size) (hs2 : size ≤ 65536) (hfit : base + size ≤ 18446744073709551616) (hi : i ≤ s.rs.length)
    (hlo : ∀ j, j < i → (s.rs.getD j Reg.zero).base ≤ base) (hhi : ∀ j, i ≤ j → j < s.rs.length → base < (s.rs.getD j Reg.zero).base) :
    Calls Try.prog 27 #[.pointer (some ⟨s.m, 0, none⟩), .int .i64 i, .int .u64 base, .int .i64 size] w fun e w' => e = .returned (.bool (busyB s.rs base size)) ∧ ∃ k, w' = w.drewN k := by
  have hmany := h.many
  have hc0 := h.c0
  -- what stands at i and behind it
  have htail : (i < s.rs.length → (s.rs.getD i Reg.zero).base - base < size → busyB s.rs base size = true) ∧
      ((∀ q, q + 1 = i → ¬ (base < (s.rs.getD q Reg.zero).base + ((s.rs.getD q Reg.zero).bytes.length : Int))) → (i < s.rs.length → ¬ (s.rs.getD i Reg.zero).base - base < size) → busyB s.rs base size = false) := by
    refine ⟨fun h1 h2 => ?_, fun h1 h2 => ?_⟩
    · have h3 := hhi i (Nat.le_refl _) h1
      have h4 := (h.ok _ (getD_mem h1)).size1
      exact busy_of (getD_mem h1) (by omega) (by omega)
    · refine busy_not (fun j hj => ?_)
      by_cases hji : j < i
      · obtain ⟨q, rfl⟩ : ∃ q, i = q + 1 := ⟨i - 1, by omega⟩
        have h5 := h1 q rfl
        by_cases hjq : j = q
        · subst hjq; omega
        · have h6 := pair_get h.sorted (show j < q by omega) (getD_of (by omega)) (getD_of (rs := s.rs) (by omega))
          have h7 := hlo q (by omega)
          omega
      · have h8 := h2 (by omega)
        by_cases hje : j = i
        · subst hje; omega
        · have h6 := pair_get h.sorted (show i < j by omega) (getD_of (by omega)) (getD_of hj)
          have h9 := (h.ok _ (getD_mem (rs := s.rs) (j := i) (by omega))).size1
          omega
  cases hg : s.g with
  | none =>
    obtain ⟨h1, h2⟩ := h.nil hg
    rw [h1] at hi
    simp only [List.length_nil, Nat.le_zero] at hi
    subst hi
    have hF := toHid (htail.2 (fun q hq => by omega) (fun hh => by rw [h1] at hh; simp at hh))
    rw [hg, h1, h2] at hc0
    simp only [slV_none, List.length_nil] at hc0
    clear htail hlo hhi h
    go_enter Try.func27, Try.ntmps27
    go_wp2
    go_ret
    exact ⟨by rw [hF.out]; rfl, 0, rfl⟩
  | some b =>
    rw [hg] at hc0
    simp only [slV_some] at hc0
    have hoks : i < s.rs.length → RegAt w (s.rs.getD i Reg.zero) ∧ RegOk (s.rs.getD i Reg.zero) := fun hh => ⟨h.regs _ (getD_mem hh), h.ok _ (getD_mem hh)⟩
    have hpi : i < s.rs.length → w.cell? ⟨b, i, none⟩ = some (.pointer (some ⟨(s.rs.getD i Reg.zero).p, 0, none⟩)) := fun hh => h.ptrAt hg hh
    have hbi : i < s.rs.length → base < (s.rs.getD i Reg.zero).base := fun hh => hhi i (Nat.le_refl _) hh
    generalize s.rs.getD i Reg.zero = r at htail hoks hpi hbi
    by_cases hi0 : i = 0
    · subst hi0
      by_cases hin : 0 < s.rs.length
      · have hc1 := (hoks hin).1.c1
        have hwr : IntKind.u64.wrap (r.base - base) = r.base - base := by rw [IntKind.wrap_u64]; have := (hoks hin).2.fits; have := (hoks hin).2.size1; have := hbi hin; omega
        have hp := hpi hin
        by_cases ho : r.base - base < size
        · have hF := toHid (htail.1 hin ho)
          clear htail hlo hhi h hoks hpi hbi
          go_enter Try.func27, Try.ntmps27
          go_wp2
          go_ret
          exact ⟨by rw [hF.out]; first | rfl | exact ret_bool (decide_eq_true (by omega)), 0, rfl⟩
        · have hF := toHid (htail.2 (fun q hq => by omega) (fun _ => ho))
          clear htail hlo hhi h hoks hpi hbi
          go_enter Try.func27, Try.ntmps27
          go_wp2
          go_ret
          exact ⟨by rw [hF.out]; first | rfl | exact ret_bool (decide_eq_false (by omega)), 0, rfl⟩
      · have hF := toHid (htail.2 (fun q hq => by omega) (fun hh => absurd hh hin))
        clear htail hlo hhi h hoks hpi hbi
        go_enter Try.func27, Try.ntmps27
        go_wp2
        go_ret
        exact ⟨by rw [hF.out]; rfl, 0, rfl⟩
    · obtain ⟨q, rfl⟩ : ∃ q, i = q + 1 := ⟨i - 1, by omega⟩
      have hpq := h.ptrAt hg (j := q) (by omega)
      have hrq := getD_mem (rs := s.rs) (j := q) (by omega)
      have hlq := hlo q (by omega)
      have htq : (¬ (base < (s.rs.getD q Reg.zero).base + ((s.rs.getD q Reg.zero).bytes.length : Int))) → (q + 1 < s.rs.length → ¬ r.base - base < size) → busyB s.rs base size = false := fun h1 h2 => htail.2 (fun q' hq' => by
        have : q' = q := by omega
        subst this
        exact h1) h2
      generalize s.rs.getD q Reg.zero = p at hpq hrq hlq htq
      have hq1 := (h.regs p hrq).c1
      have hq3 := (h.regs p hrq).c3
      have hqo := h.ok p hrq
      have hqz := hqo.size2
      have hw := wrap_u64_sub base p.base p.bytes.length hb0 (by omega) hqo.base0 hqo.fits hqo.size2
      by_cases hhold : base < p.base + (p.bytes.length : Int)
      · have hF := toHid (busy_of (size := size) hrq (by omega) hhold)
        rw [decide_eq_true (show p.base ≤ base ∧ base < p.base + (p.bytes.length : Int) from ⟨hlq, hhold⟩)] at hw
        have HW := toHid hw
        clear htail hlo hhi h hoks hpi hbi htq hw
        go_enter Try.func27, Try.ntmps27
        go_wp2_with (go_at_call 42; refine (holds_any p.p p.bb p.bytes.length p.bytes.length base p.base _ hq1 hq3).mono ?_; rintro e w' ⟨rfl, k2, rfl⟩; rw [HW.out])
        go_ret
        exact ⟨by rw [hF.out]; rfl, _, rfl⟩
      · rw [decide_eq_false (show ¬ (p.base ≤ base ∧ base < p.base + (p.bytes.length : Int)) from fun hh => hhold hh.2)] at hw
        have HW := toHid hw
        clear hw
        by_cases hin : q + 1 < s.rs.length
        · have hc1 := (hoks hin).1.c1
          have hwr : IntKind.u64.wrap (r.base - base) = r.base - base := by rw [IntKind.wrap_u64]; have := (hoks hin).2.fits; have := (hoks hin).2.size1; have := hbi hin; omega
          have hp := hpi hin
          by_cases ho : r.base - base < size
          · have hF := toHid (htail.1 hin ho)
            clear htail hlo hhi h hoks hpi hbi htq
            go_enter Try.func27, Try.ntmps27
            go_wp2_with (go_at_call 42; refine (holds_any p.p p.bb p.bytes.length p.bytes.length base p.base _ hq1 hq3).mono ?_; rintro e w' ⟨rfl, k2, rfl⟩; rw [HW.out])
            go_ret
            exact ⟨by rw [hF.out]; first | rfl | exact ret_bool (decide_eq_true (by omega)), _, rfl⟩
          · have hF := toHid (htq hhold (fun _ => ho))
            clear htail hlo hhi h hoks hpi hbi htq
            go_enter Try.func27, Try.ntmps27
            go_wp2_with (go_at_call 42; refine (holds_any p.p p.bb p.bytes.length p.bytes.length base p.base _ hq1 hq3).mono ?_; rintro e w' ⟨rfl, k2, rfl⟩; rw [HW.out])
            go_ret
            exact ⟨by rw [hF.out]; first | rfl | exact ret_bool (decide_eq_false (by omega)), _, rfl⟩
        · have hF := toHid (htq hhold (fun hh => absurd hh hin))
          clear htail hlo hhi h hoks hpi hbi htq
          go_enter Try.func27, Try.ntmps27
          go_wp2_with (go_at_call 42; refine (holds_any p.p p.bb p.bytes.length p.bytes.length base p.base _ hq1 hq3).mono ?_; rintro e w' ⟨rfl, k2, rfl⟩; rw [HW.out])
          go_ret
          exact ⟨by rw [hF.out]; rfl, _, rfl⟩
end Go.Proofs.Ytkfmhabplcikiaa.Mem
