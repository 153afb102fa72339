/-
  Texts laid together: MFind, MRef, TRef, TabM, PTab, MIns, MAdd, MIdx, PRoom, PSettle, MNum, MLook, MLay, MApi, MApi2, MApi3, PAt, PLook, PUpd, PRead, PGet, PSettle2, PPush, PNew, MNil, MFirst, PSolo, PAparts, PTwin.
-/
import Derived.Test.YtmhhahmjkopjhaaGreatZa2
import Derived.Test.YtmhhahmjkopjhaaGreatRows
import Derived.Deep.RegionLaw
import Derived.BigQuiet
import Derived.Deep.QuietTactic
import Derived.Deep.RegionHeld3
set_option maxRecDepth 100000
set_option maxHeartbeats 8000000
section
namespace Go.Proofs.YtmhhahmjkopjhaaGreat.Mem
open Go.RowKit
theorem toHid {p : Prop} (h : p) : Hid p := h
def hasB (r : Reg) (addr : Int) : Bool := decide (r.base ≤ addr ∧ addr < r.base + (r.bytes.length : Int))
def findR (rs : List Reg) (addr : Int) : Option Reg := rs.find? (hasB · addr)
theorem findR_of : ∀ {rs : List Reg} {r : Reg} {addr : Int}, rs.Pairwise (fun a b => a.base + (a.bytes.length : Int) ≤ b.base) → (∀ x ∈ rs, 1 ≤ x.bytes.length) → r ∈ rs → hasB r addr = true → findR rs addr = some r
 | [], _, _, _, _, hr, _ => by cases hr
 | x :: xs, r, addr, hp, h1, hr, hb => by
  rw [List.pairwise_cons] at hp
  unfold findR
  rw [List.find?_cons]
  rcases List.mem_cons.1 hr with rfl | hr
  ·rw [hb]
  ·have h2 := hp.1 r hr
   have h3 : hasB x addr = false := by
    unfold hasB at *
    have := of_decide_eq_true hb
    exact decide_eq_false (by omega)
   rw [h3]
   exact findR_of hp.2 (fun y hy => h1 y (List.mem_cons_of_mem _ hy)) hr hb
theorem findR_none {rs : List Reg} {addr : Int} (h : ∀ r ∈ rs, hasB r addr = false) : findR rs addr = none := by
 unfold findR
 rw [List.find?_eq_none]
 intro x hx
 rw [h x hx]
 simp
theorem findR_mem {rs : List Reg} {addr : Int} {r : Reg} (h : findR rs addr = some r) : r ∈ rs ∧ hasB r addr = true := by
 unfold findR at h
 exact ⟨List.mem_of_find?_eq_some h, by simpa using List.find?_some h⟩
theorem pair_get {α : Type} {R : α → α → Prop} {l : List α} (h : l.Pairwise R) {i j : Nat} {a b : α} (hij : i < j) (ha : l[i]? = some a) (hb : l[j]? = some b) : R a b := by
 obtain ⟨h1, rfl⟩ := List.getElem?_eq_some_iff.1 ha
 obtain ⟨h2, rfl⟩ := List.getElem?_eq_some_iff.1 hb
 exact (List.pairwise_iff_getElem.1 h) i j h1 h2 hij
theorem getD_of {rs : List Reg} {j : Nat} (h : j < rs.length) : rs[j]? = some (rs.getD j Reg.zero) := by
 rw [List.getD_eq_getElem?_getD, List.getElem?_eq_getElem h]
 rfl
theorem getD_mem {rs : List Reg} {j : Nat} (h : j < rs.length) : rs.getD j Reg.zero ∈ rs := List.mem_of_getElem? (getD_of h)
theorem MemAt.c0 {w : World} {s : MS} (h : MemAt w s) : w.cell? ⟨s.m, 0, none⟩ = some (slV s.g s.rs.length s.cap) := h.self.cell rfl
theorem MemAt.c1 {w : World} {s : MS} (h : MemAt w s) : w.cell? ⟨s.m, 1, none⟩ = some (.int .i64 s.next) := h.self.cell rfl
theorem MemAt.nil {w : World} {s : MS} (h : MemAt w s) (hg : s.g = none) : s.rs = [] ∧ s.cap = 0 := by
 have h4 := h.row.2.2.2
 rw [hg] at h4
 have h2 := h.row.2.1
 have h4 : s.cap = 0 := h4
 exact ⟨List.eq_nil_of_length_eq_zero (by omega), h4⟩
theorem MemAt.ptrAt {w : World} {s : MS} (h : MemAt w s) {b : Nat} (hg : s.g = some b) {j : Nat} (hj : j < s.rs.length) : w.cell? ⟨b, j, none⟩ = some (.pointer (some ⟨(s.rs.getD j Reg.zero).p, 0, none⟩)) := by
 have h4 := h.row.2.2.2
 rw [hg] at h4
 obtain ⟨rest, hb, _⟩ := h4
 refine hb.cell ?_
 rw [List.getElem?_append_left (by simpa using hj), List.getElem?_map, getD_of hj]
 rfl
theorem behind_any {w : World} {s : MS} (h : MemAt w s) (addr : Int) :
  Calls Tryz.prog 55 #[.pointer (some ⟨s.m, 0, none⟩), .int .u64 addr] w fun e w' => (∃ i : Nat, i ≤ s.rs.length ∧ e = .returned (.int .i64 i) ∧ (∀ j, j < i → (s.rs.getD j Reg.zero).base ≤ addr) ∧ (∀ j, i ≤ j → j < s.rs.length → addr < (s.rs.getD j Reg.zero).base)) ∧ ∃ k, w' = w.drewN k := by
 have hc0 := h.c0
 cases hg : s.g with
 | none =>
  obtain ⟨h1, h2⟩ := h.nil hg
  rw [hg, h1, h2] at hc0
  refine (behind_nil s.m addr w hc0).mono ?_
  rintro e w' ⟨rfl, k, rfl⟩
  exact ⟨⟨0, by omega, rfl, fun j hj => by omega, fun j _ hj => by rw [h1] at hj; simp at hj⟩, k, rfl⟩
 | some b =>
  rw [hg] at hc0
  refine (behind_some s.m b s.rs.length s.cap addr (fun j => (s.rs.getD j Reg.zero).p) (fun j => (s.rs.getD j Reg.zero).base) w h.many hc0 (fun j hj => h.ptrAt hg hj) (fun j hj => (h.regs _ (getD_mem hj)).c1) ?_).mono (fun e w' hh => hh)
  intro i j hij hj
  have h1 := pair_get h.sorted hij (getD_of (by omega)) (getD_of hj)
  have h2 := (h.ok _ (getD_mem (rs := s.rs) (j := i) (by omega))).size1
  show (s.rs.getD i Reg.zero).base < (s.rs.getD j Reg.zero).base
  omega
def holderV (o : Option Reg) (addr : Int) : Value := match o with
 | none => .tuple #[.pointer none, .int .i64 0]
 | some r => .tuple #[.pointer (some ⟨r.p, 0, none⟩), .int .i64 (addr - r.base)]
theorem wrap_u64_sub (a b : Int) (n : Nat) (ha0 : 0 ≤ a) (ha1 : a ≤ 18446744073709551615) (hb0 : 0 ≤ b) (hn : b + (n : Int) ≤ 18446744073709551616) (hn2 : n ≤ 65536) :
  decide (IntKind.u64.wrap (a - b) < IntKind.u64.wrap (n : Int)) = decide (b ≤ a ∧ a < b + (n : Int)) := by
 rw [IntKind.wrap_u64, IntKind.wrap_u64, decide_eq_decide]
 omega
theorem holder_any {w : World} {s : MS} (h : MemAt w s) (addr : Int) (ha0 : 0 ≤ addr) (ha1 : addr ≤ 18446744073709551615) :
  Calls Tryz.prog 93 #[.pointer (some ⟨s.m, 0, none⟩), .int .u64 addr] w fun e w' => e = .returned (holderV (findR s.rs addr) addr) ∧ ∃ k, w' = w.drewN k := by
 have hmany := h.many
 have hc0 := h.c0
 go_enter Tryz.func93, Tryz.ntmps93
 go_wp2_with fail
 refine (behind_any h addr).mono ?_
 rintro e w' ⟨⟨i, hi, rfl, hlo, hhi⟩, k, rfl⟩
 by_cases hi0 : i = 0
 ·subst hi0
  have hf : findR s.rs addr = none := findR_none (fun r hr => by
   obtain ⟨j, hj, rfl⟩ := List.getElem_of_mem hr
   have := hhi j (by omega) hj
   rw [List.getD_eq_getElem?_getD, List.getElem?_eq_getElem hj] at this
   unfold hasB
   exact decide_eq_false (by simp at this; omega))
  have HF : Hid (findR s.rs addr = none) := hf
  clear hhi hlo h hf
  go_wp2
  go_ret2
  exact ⟨by rw [HF.out]; rfl, _, rfl⟩
 ·obtain ⟨q, rfl⟩ : ∃ q, i = q + 1 := ⟨i - 1, by omega⟩
  have hq : s.rs[q]? = some (s.rs.getD q Reg.zero) := getD_of (by omega)
  cases hg : s.g with
  | none => have := (h.nil hg).1; rw [this] at hi; simp at hi
  | some b =>
  have hp := h.ptrAt hg (j := q) (by omega)
  have hlq := hlo q (by omega)
  generalize s.rs.getD q Reg.zero = r at hq hp hlq
  have hr := List.mem_of_getElem? hq
  have hc1 := (h.regs r hr).c1
  have hc3 := (h.regs r hr).c3
  have hok := h.ok r hr
  have hw := wrap_u64_sub addr r.base r.bytes.length ha0 ha1 hok.base0 hok.fits hok.size2
  have hsz := hok.size2
  have hb0 := hok.base0
  rw [hg] at hc0
  simp only [slV_some] at hc0
  have hf : hasB r addr = true → findR s.rs addr = some r := fun hb => findR_of h.sorted (fun x hx => (h.ok x hx).size1) hr hb
  have hf2 : hasB r addr = false → findR s.rs addr = none := fun hb => findR_none (fun x hx => by
   obtain ⟨j, hj, rfl⟩ := List.getElem_of_mem hx
   have hjg := List.getElem?_eq_getElem hj
   unfold hasB at *
   refine decide_eq_false ?_
   have hb := of_decide_eq_false hb
   rcases Nat.lt_trichotomy j q with hjq | rfl | hjq
   ·have := pair_get h.sorted hjq hjg hq
    omega
   ·rw [hq] at hjg
    injection hjg with hjg
    rw [← hjg]
    exact hb
   ·have := hhi j (by omega) hj
    rw [List.getD_eq_getElem?_getD, hjg] at this
    simp at this
    omega)
  have HW : Hid (decide (IntKind.u64.wrap (addr - r.base) < IntKind.u64.wrap (r.bytes.length : Int)) = hasB r addr) := hw
  clear hw hhi hlo h
  cases hbb : hasB r addr with
  | true =>
   have HF : Hid (findR s.rs addr = some r) := hf hbb
   have hin := hbb
   unfold hasB at hin
   have hin := of_decide_eq_true hin
   rw [hbb] at HW
   clear hf hf2 hbb
   go_wp2_with (go_at_call 80; refine (holds_any r.p r.bb r.bytes.length r.bytes.length addr r.base _ ?_ ?_).mono ?_; (simp only [World.cell?_drewN, hc1]); (simp only [World.cell?_drewN, hc3]); rintro e w' ⟨rfl, k2, rfl⟩; rw [HW.out])
   go_quiet (fail)
   go_wp2
   go_ret2
   refine ⟨?_, k + k2 + nq, by rw [World.drewN_drewN]⟩
   rw [HF.out]
   unfold holderV
   congr 4
  | false =>
   have HF : Hid (findR s.rs addr = none) := hf2 hbb
   rw [hbb] at HW
   clear hf hf2 hbb
   go_wp2_with (go_at_call 80; refine (holds_any r.p r.bb r.bytes.length r.bytes.length addr r.base _ ?_ ?_).mono ?_; (simp only [World.cell?_drewN, hc1]); (simp only [World.cell?_drewN, hc3]); rintro e w' ⟨rfl, k2, rfl⟩; rw [HW.out])
   go_ret2
   exact ⟨by rw [HF.out]; rfl, _, rfl⟩
def accessV (o : Option Reg) (addr n perm : Int) : Value := match o with
 | none => .tuple #[.pointer none, .int .i64 0, .int .i64 10]
 | some r => if addr - r.base ≤ (r.bytes.length : Int) - n ∧ bits .and .i64 r.perm perm ≠ 0 then .tuple #[.pointer (some ⟨r.p, 0, none⟩), .int .i64 (addr - r.base), .int .i64 0]
  else .tuple #[.pointer none, .int .i64 0, .int .i64 10]
theorem accessV_no {r : Reg} {addr n perm : Int} (h : ¬ (addr - r.base ≤ (r.bytes.length : Int) - n ∧ bits .and .i64 r.perm perm ≠ 0)) : accessV (some r) addr n perm = .tuple #[.pointer none, .int .i64 0, .int .i64 10] := if_neg h
theorem accessV_yes {r : Reg} {addr n perm : Int} (h : addr - r.base ≤ (r.bytes.length : Int) - n ∧ bits .and .i64 r.perm perm ≠ 0) : accessV (some r) addr n perm = .tuple #[.pointer (some ⟨r.p, 0, none⟩), .int .i64 (addr - r.base), .int .i64 0] := if_pos h
theorem access_any {w : World} {s : MS} (h : MemAt w s) (addr n perm : Int) (ha0 : 0 ≤ addr) (ha1 : addr ≤ 18446744073709551615) (hn0 : 0 ≤ n) (hn1 : n ≤ 9223372036854775807) :
  Calls Tryz.prog 78 #[.pointer (some ⟨s.m, 0, none⟩), .int .u64 addr, .int .i64 n, .int .i64 perm] w fun e w' => e = .returned (accessV (findR s.rs addr) addr n perm) ∧ ∃ k, w' = w.drewN k := by
 have hH := holder_any h addr ha0 ha1
 cases hf : findR s.rs addr with
 | none =>
  rw [hf] at hH
  have HH := toHid hH
  clear h hH hf
  go_enter Tryz.func78, Tryz.ntmps78
  go_wp2_with (go_at_call 93; refine HH.out.mono ?_; rintro e w' ⟨rfl, k, rfl⟩; simp only [holderV])
  go_ret3
  exact ⟨rfl, _, rfl⟩
 | some r =>
  rw [hf] at hH
  have hr := (findR_mem hf).1
  have hc2 := (h.regs r hr).c2
  have hc3 := (h.regs r hr).c3
  have hsz := (h.ok r hr).size2
  have HH := toHid hH
  clear h hH hf
  by_cases hreach : addr - r.base ≤ (r.bytes.length : Int) - n
  ·by_cases hperm : bits .and .i64 r.perm perm = 0
   ·go_enter Tryz.func78, Tryz.ntmps78
    go_wp2_with (first
     | (go_at_call 93; refine HH.out.mono ?_; rintro e w' ⟨rfl, k, rfl⟩; simp only [holderV])
     | (go_at_call 94; refine (reaches_any r.p r.bb r.bytes.length r.bytes.length (addr - r.base) n _ hsz (by omega) hn1 (by simp only [World.cell?_drewN, hc3])).mono ?_; rintro e w' ⟨rfl, rfl⟩))
    go_ret3
    exact ⟨(congrArg Ending.returned (accessV_no (fun hh => hh.2 hperm))).symm, _, rfl⟩
   ·go_enter Tryz.func78, Tryz.ntmps78
    go_wp2_with (first
     | (go_at_call 93; refine HH.out.mono ?_; rintro e w' ⟨rfl, k, rfl⟩; simp only [holderV])
     | (go_at_call 94; refine (reaches_any r.p r.bb r.bytes.length r.bytes.length (addr - r.base) n _ hsz (by omega) hn1 (by simp only [World.cell?_drewN, hc3])).mono ?_; rintro e w' ⟨rfl, rfl⟩))
    go_ret3
    exact ⟨(congrArg Ending.returned (accessV_yes ⟨hreach, hperm⟩)).symm, _, rfl⟩
  ·go_enter Tryz.func78, Tryz.ntmps78
   go_wp2_with (first
     | (go_at_call 93; refine HH.out.mono ?_; rintro e w' ⟨rfl, k, rfl⟩; simp only [holderV])
     | (go_at_call 94; refine (reaches_any r.p r.bb r.bytes.length r.bytes.length (addr - r.base) n _ hsz (by omega) hn1 (by simp only [World.cell?_drewN, hc3])).mono ?_; rintro e w' ⟨rfl, rfl⟩))
   go_ret3
   refine ⟨?_, _, rfl⟩
   exact (congrArg Ending.returned (accessV_no (fun hh => by have := hh.1; omega))).symm
def busyB (rs : List Reg) (base size : Int) : Bool := rs.any (fun r => decide (r.base < base + size ∧ base < r.base + (r.bytes.length : Int)))
theorem busy_of {rs : List Reg} {base size : Int} {r : Reg} (hr : r ∈ rs) (h1 : r.base < base + size) (h2 : base < r.base + (r.bytes.length : Int)) : busyB rs base size = true := by
 unfold busyB
 rw [List.any_eq_true]
 exact ⟨r, hr, decide_eq_true ⟨h1, h2⟩⟩
theorem busy_not {rs : List Reg} {base size : Int} (h : ∀ (j : Nat) (_hj : j < rs.length), ¬ ((rs.getD j Reg.zero).base < base + size ∧ base < (rs.getD j Reg.zero).base + ((rs.getD j Reg.zero).bytes.length : Int))) : busyB rs base size = false := by
 unfold busyB
 rw [List.any_eq_false]
 intro x hx
 obtain ⟨j, hj, rfl⟩ := List.getElem_of_mem hx
 have := h j hj
 rw [List.getD_eq_getElem?_getD, List.getElem?_eq_getElem hj] at this
 simpa using this
theorem taken_any {w : World} {s : MS} (h : MemAt w s) (i size : Nat) (base : Int) (hb0 : 0 ≤ base) (hs1 : 1 ≤ size) (hs2 : size ≤ 65536) (hfit : base + size ≤ 18446744073709551616) (hi : i ≤ s.rs.length)
  (hlo : ∀ j, j < i → (s.rs.getD j Reg.zero).base ≤ base) (hhi : ∀ j, i ≤ j → j < s.rs.length → base < (s.rs.getD j Reg.zero).base) :
  Calls Tryz.prog 56 #[.pointer (some ⟨s.m, 0, none⟩), .int .i64 i, .int .u64 base, .int .i64 size] w fun e w' => e = .returned (.bool (busyB s.rs base size)) ∧ ∃ k, w' = w.drewN k := by
 have hmany := h.many
 have hc0 := h.c0
 -- what stands at i and behind it
 have htail : (i < s.rs.length → (s.rs.getD i Reg.zero).base - base < size → busyB s.rs base size = true) ∧
   ((∀ q, q + 1 = i → ¬ (base < (s.rs.getD q Reg.zero).base + ((s.rs.getD q Reg.zero).bytes.length : Int))) → (i < s.rs.length → ¬ (s.rs.getD i Reg.zero).base - base < size) → busyB s.rs base size = false) := by
  refine ⟨fun h1 h2 => ?_, fun h1 h2 => ?_⟩
  ·have h3 := hhi i (Nat.le_refl _) h1
   have h4 := (h.ok _ (getD_mem h1)).size1
   exact busy_of (getD_mem h1) (by omega) (by omega)
  ·refine busy_not (fun j hj => ?_)
   by_cases hji : j < i
   ·obtain ⟨q, rfl⟩ : ∃ q, i = q + 1 := ⟨i - 1, by omega⟩
    have h5 := h1 q rfl
    by_cases hjq : j = q
    ·subst hjq; omega
    ·have h6 := pair_get h.sorted (show j < q by omega) (getD_of (by omega)) (getD_of (rs := s.rs) (by omega))
     have h7 := hlo q (by omega)
     omega
   ·have h8 := h2 (by omega)
    by_cases hje : j = i
    ·subst hje; omega
    ·have h6 := pair_get h.sorted (show i < j by omega) (getD_of (by omega)) (getD_of hj)
     have h9 := (h.ok _ (getD_mem (rs := s.rs) (j := i) (by omega))).size1
     omega
 cases hg : s.g with
 | none =>
  obtain ⟨h1, h2⟩ := h.nil hg
  rw [h1] at hi
  simp only [List.length_nil, Nat.le_zero] at hi
  subst hi
  have hF := toHid (htail.2 (fun q hq => by omega) (fun hh => by rw [h1] at hh; simp at hh))
  rw [hg, h1, h2] at hc0
  simp only [slV_none, List.length_nil] at hc0
  clear htail hlo hhi h
  go_enter Tryz.func56, Tryz.ntmps56
  go_wp2
  go_ret
  exact ⟨by rw [hF.out]; rfl, 0, rfl⟩
 | some b =>
  rw [hg] at hc0
  simp only [slV_some] at hc0
  have hoks : i < s.rs.length → RegAt w (s.rs.getD i Reg.zero) ∧ RegOk (s.rs.getD i Reg.zero) := fun hh => ⟨h.regs _ (getD_mem hh), h.ok _ (getD_mem hh)⟩
  have hpi : i < s.rs.length → w.cell? ⟨b, i, none⟩ = some (.pointer (some ⟨(s.rs.getD i Reg.zero).p, 0, none⟩)) := fun hh => h.ptrAt hg hh
  have hbi : i < s.rs.length → base < (s.rs.getD i Reg.zero).base := fun hh => hhi i (Nat.le_refl _) hh
  generalize s.rs.getD i Reg.zero = r at htail hoks hpi hbi
  by_cases hi0 : i = 0
  ·subst hi0
   by_cases hin : 0 < s.rs.length
   ·have hc1 := (hoks hin).1.c1
    have hwr : IntKind.u64.wrap (r.base - base) = r.base - base := by rw [IntKind.wrap_u64]; have := (hoks hin).2.fits; have := (hoks hin).2.size1; have := hbi hin; omega
    have hp := hpi hin
    by_cases ho : r.base - base < size
    ·have hF := toHid (htail.1 hin ho)
     clear htail hlo hhi h hoks hpi hbi
     go_enter Tryz.func56, Tryz.ntmps56
     go_wp2
     go_ret
     exact ⟨by rw [hF.out]; first | rfl | exact ret_bool (decide_eq_true (by omega)), 0, rfl⟩
    ·have hF := toHid (htail.2 (fun q hq => by omega) (fun _ => ho))
     clear htail hlo hhi h hoks hpi hbi
     go_enter Tryz.func56, Tryz.ntmps56
     go_wp2
     go_ret
     exact ⟨by rw [hF.out]; first | rfl | exact ret_bool (decide_eq_false (by omega)), 0, rfl⟩
   ·have hF := toHid (htail.2 (fun q hq => by omega) (fun hh => absurd hh hin))
    clear htail hlo hhi h hoks hpi hbi
    go_enter Tryz.func56, Tryz.ntmps56
    go_wp2
    go_ret
    exact ⟨by rw [hF.out]; rfl, 0, rfl⟩
  ·obtain ⟨q, rfl⟩ : ∃ q, i = q + 1 := ⟨i - 1, by omega⟩
   have hpq := h.ptrAt hg (j := q) (by omega)
   have hrq := getD_mem (rs := s.rs) (j := q) (by omega)
   have hlq := hlo q (by omega)
   have htq : (¬ (base < (s.rs.getD q Reg.zero).base + ((s.rs.getD q Reg.zero).bytes.length : Int))) → (q + 1 < s.rs.length → ¬ r.base - base < size) → busyB s.rs base size = false := fun h1 h2 => htail.2 (fun q' hq' => by
    have : q' = q := by omega
    subst this
    exact h1) h2
   generalize s.rs.getD q Reg.zero = p at hpq hrq hlq htq
   have hq1 := (h.regs p hrq).c1
   have hq3 := (h.regs p hrq).c3
   have hqo := h.ok p hrq
   have hqz := hqo.size2
   have hw := wrap_u64_sub base p.base p.bytes.length hb0 (by omega) hqo.base0 hqo.fits hqo.size2
   by_cases hhold : base < p.base + (p.bytes.length : Int)
   ·have hF := toHid (busy_of (size := size) hrq (by omega) hhold)
    rw [decide_eq_true (show p.base ≤ base ∧ base < p.base + (p.bytes.length : Int) from ⟨hlq, hhold⟩)] at hw
    have HW := toHid hw
    clear htail hlo hhi h hoks hpi hbi htq hw
    go_enter Tryz.func56, Tryz.ntmps56
    go_wp2_with (go_at_call 80; refine (holds_any p.p p.bb p.bytes.length p.bytes.length base p.base _ hq1 hq3).mono ?_; rintro e w' ⟨rfl, k2, rfl⟩; rw [HW.out])
    go_ret
    exact ⟨by rw [hF.out]; rfl, _, rfl⟩
   ·rw [decide_eq_false (show ¬ (p.base ≤ base ∧ base < p.base + (p.bytes.length : Int)) from fun hh => hhold hh.2)] at hw
    have HW := toHid hw
    clear hw
    by_cases hin : q + 1 < s.rs.length
    ·have hc1 := (hoks hin).1.c1
     have hwr : IntKind.u64.wrap (r.base - base) = r.base - base := by rw [IntKind.wrap_u64]; have := (hoks hin).2.fits; have := (hoks hin).2.size1; have := hbi hin; omega
     have hp := hpi hin
     by_cases ho : r.base - base < size
     ·have hF := toHid (htail.1 hin ho)
      clear htail hlo hhi h hoks hpi hbi htq
      go_enter Tryz.func56, Tryz.ntmps56
      go_wp2_with (go_at_call 80; refine (holds_any p.p p.bb p.bytes.length p.bytes.length base p.base _ hq1 hq3).mono ?_; rintro e w' ⟨rfl, k2, rfl⟩; rw [HW.out])
      go_ret
      exact ⟨by rw [hF.out]; first | rfl | exact ret_bool (decide_eq_true (by omega)), _, rfl⟩
     ·have hF := toHid (htq hhold (fun _ => ho))
      clear htail hlo hhi h hoks hpi hbi htq
      go_enter Tryz.func56, Tryz.ntmps56
      go_wp2_with (go_at_call 80; refine (holds_any p.p p.bb p.bytes.length p.bytes.length base p.base _ hq1 hq3).mono ?_; rintro e w' ⟨rfl, k2, rfl⟩; rw [HW.out])
      go_ret
      exact ⟨by rw [hF.out]; first | rfl | exact ret_bool (decide_eq_false (by omega)), _, rfl⟩
    ·have hF := toHid (htq hhold (fun hh => absurd hh hin))
     clear htail hlo hhi h hoks hpi hbi htq
     go_enter Tryz.func56, Tryz.ntmps56
     go_wp2_with (go_at_call 80; refine (holds_any p.p p.bb p.bytes.length p.bytes.length base p.base _ hq1 hq3).mono ?_; rintro e w' ⟨rfl, k2, rfl⟩; rw [HW.out])
     go_ret
     exact ⟨by rw [hF.out]; rfl, _, rfl⟩
end Go.Proofs.YtmhhahmjkopjhaaGreat.Mem
end
section
namespace Go.Proofs.YtmhhahmjkopjhaaGreat.Mem
open Go.RowKit
structure RReg where
 live : Bool
 base : Int
 perm : Int
 bb : Nat
 bcap : Nat
 bytes : List Int
 sb : Nat
 scap : Nat
 set : List Bool
def RReg.zero : RReg := ⟨false, 0, 0, 0, 0, [], 0, 0, []⟩
def RReg.cells (r : RReg) : List Value := [.bool r.live, .int .u64 r.base, .int .i64 r.perm, .slice (some ⟨r.bb, 0, none⟩) r.bytes.length r.bcap, .slice (some ⟨r.sb, 0, none⟩) r.set.length r.scap]
structure RRegAt (w : World) (r : RReg) : Prop where
 bytes : ∃ rest, Blk w r.bb (r.bytes.map (Value.int .u8) ++ rest) 5
 set : ∃ rest, Blk w r.sb (r.set.map Value.bool ++ rest) 4
structure RRegOk (r : RReg) : Prop where
 base0 : 0 ≤ r.base
 size1 : 1 ≤ r.bytes.length
 size2 : r.bytes.length ≤ 65536
 fits : r.base + r.bytes.length ≤ 18446744073709551616
 perm0 : 0 ≤ r.perm
 perm1 : r.perm ≤ 7
 setLen : r.set.length = r.bytes.length
 byte : ∀ x ∈ r.bytes, 0 ≤ x ∧ x ≤ 255
structure RS where
 m : Nat
 g : Option Nat
 cap : Nat
 all : List RReg
def RReg.blocks (r : RReg) : List Nat := [r.bb, r.sb]
def RS.blocks (s : RS) : List Nat := s.m :: s.g.toList ++ s.all.flatMap RReg.blocks
structure RefAt (w : World) (s : RS) : Prop where
 self : Blk w s.m [slV s.g s.all.length s.cap] 69
 row : RowAt w 82 5 s.g s.all.length s.cap (s.all.flatMap RReg.cells)
 regs : ∀ r ∈ s.all, RRegAt w r
 ok : ∀ r ∈ s.all, RRegOk r
 apart : s.blocks.Nodup
 many : s.all.length ≤ 1000
def rhasB (r : RReg) (addr : Int) : Bool := r.live && decide (r.base ≤ addr ∧ addr < r.base + (r.bytes.length : Int))
def ofV (all : List RReg) (addr : Int) : Value := match all.findIdx? (rhasB · addr) with
 | none => .tuple #[.int .i64 (-1), .int .i64 0]
 | some i => .tuple #[.int .i64 i, .int .i64 (addr - (all.getD i RReg.zero).base)]
def liveN (all : List RReg) : Nat := (all.filter (·.live)).length
def hasB' (all : List RReg) (id : Int) : Bool := decide (0 ≤ id ∧ id < all.length) && (all.getD id.toNat RReg.zero).live
end Go.Proofs.YtmhhahmjkopjhaaGreat.Mem
end
section
namespace Go.Proofs.YtmhhahmjkopjhaaGreat
open Go.RowKit
structure RMap where
 kind : Int
 key : Int
 val : Int
 max : Int
 ix : RX
 idb : Option Nat
 idc : Nat
 ids : List Nat
def RMap.cells (m : RMap) : List Value := [.int .i64 m.kind, .int .i64 m.key, .int .i64 m.val, .int .i64 m.max, .pointer (some ⟨m.ix.r, 0, none⟩), slV m.idb m.ids.length m.idc]
def RMap.blocks (m : RMap) : List Nat := m.ix.blocks ++ m.idb.toList
def idV (n : Nat) : Value := .int .i64 (n : Int)
structure RMapAt (w : World) (m : RMap) : Prop where
 ix : RAt w m.ix
 ids : RowAt w 3 1 m.idb m.ids.length m.idc (m.ids.map idV)
 apart : ∀ b, m.idb = some b → b ∉ m.ix.blocks
structure RMapOk (m : RMap) : Prop where
 good : PGood m.ix.p
 kind : m.ix.kind = m.kind
 key : m.ix.size = m.key
 v1 : 1 ≤ m.val
 v2 : m.val ≤ 64
 idn : m.ids.length = m.ix.slots.length
structure RT where
 t : Nat
 mem : Nat
 g : Option Nat
 cap : Nat
 maps : List RMap
def RT.top (x : RT) : List Nat := x.t :: x.g.toList
def RT.blocks (x : RT) : List Nat := x.top ++ x.maps.flatMap RMap.blocks
structure RTAt (w : World) (x : RT) : Prop where
 self : Blk w x.t [.pointer (some ⟨x.mem, 0, none⟩), slV x.g x.maps.length x.cap] 100
 row : RowAt w 117 6 x.g x.maps.length x.cap (x.maps.flatMap RMap.cells)
 maps : ∀ m ∈ x.maps, RMapAt w m
 ok : ∀ m ∈ x.maps, RMapOk m
 apTop : x.top.Nodup
 apT : ∀ m ∈ x.maps, ∀ b ∈ m.blocks, b ∉ x.top
 apM : ∀ (i j : Nat) (mi mj : RMap), x.maps[i]? = some mi → x.maps[j]? = some mj → i ≠ j → ∀ y ∈ mi.blocks, y ∉ mj.blocks
 many : x.maps.length ≤ 8
def RT.put (x : RT) (i : Nat) (m : RMap) : RT := { x with maps := x.maps.set i m }
end Go.Proofs.YtmhhahmjkopjhaaGreat
end
section
namespace Go.Proofs.YtmhhahmjkopjhaaGreat
open Go.RowKit
structure MDef where
 kind : Int
 key : Int
 val : Int
 max : Int
def MDef.zero : MDef := ⟨0, 0, 0, 0⟩
def MDef.cells (d : MDef) : List Value := [.int .i64 d.kind, .int .i64 d.key, .int .i64 d.val, .int .i64 d.max]
abbrev MDef.Ok (d : MDef) : Prop := 0 ≤ d.kind ∧ d.kind ≤ 3 ∧ 1 ≤ d.val ∧ d.val ≤ 64 ∧ (1 ≤ d.max ∧ d.max ≤ 64 ∧ (if d.kind = 0 then 4 else if d.kind = 3 then 5 else 1) ≤ d.key ∧ d.key ≤ (if d.kind = 0 then 4 else 16))
def mayI (ds : List MDef) : Bool := decide (ds.length ≤ 8 ∧ ∀ d ∈ ds, d.Ok)
structure DefsAt (w : World) (sa : Option Addr) (n : Nat) (ds : List MDef) : Prop where
 len : n = ds.length
 small : n ≤ 9223372036854775807
 at_ : 1 ≤ n → ∃ b off, sa = some ⟨b, off, none⟩ ∧ ∀ (i : Nat) (d : MDef), ds[i]? = some d → ∀ (j : Nat) (v : Value), d.cells[j]? = some v → w.cell? ⟨b, off + i * 4 + j, none⟩ = some v
theorem DefsAt.touch {w w' : World} {sa : Option Addr} {n : Nat} {ds : List MDef} (h : DefsAt w sa n ds) (ht : Touch [] w w') : DefsAt w' sa n ds :=
 ⟨h.len, h.small, fun hn => by
  obtain ⟨b, off, h1, h2⟩ := h.at_ hn
  exact ⟨b, off, h1, fun i d hd j v hv => ht.cell (h2 i d hd j v hv) (by simp)⟩⟩
theorem mayI_no {ds : List MDef} {k : Nat} {d : MDef} (hd : ds[k]? = some d) (h : ¬ d.Ok) : mayI ds = false := by
 unfold mayI
 rw [decide_eq_false_iff_not]
 exact fun hh => h (hh.2 d (List.mem_of_getElem? hd))
theorem rmay_any {w : World} {sa : Option Addr} {n sc : Nat} {ds : List MDef} (h : DefsAt w sa n ds) :
  Calls Tryz.prog 27 #[.slice sa n sc] w fun e w' => e = .returned (.bool (mayI ds)) ∧ Touch [] w w' := by
 obtain rfl := h.len
 have hs := h.small
 by_cases h8 : 8 < ds.length
 ·have hv : mayI ds = false := by unfold mayI; rw [decide_eq_false_iff_not]; omega
  rw [hv]
  clear h hv
  go_enter Tryz.func27, Tryz.ntmps27
  go_wp2
  go_ret
  exact ⟨rfl, Touch.refl _ _⟩
 ·have hD := toHid h
  have hL : ds.length ≤ 8 := by omega
  clear h
  go_enter Tryz.func27, Tryz.ntmps27
  go_wp2
  go_loopw [12] (fun t w' => ∃ k : Nat, k ≤ ds.length ∧ t = .int .i64 k ∧ Hid (Touch [] w w' ∧ ∀ j d, j < k → ds[j]? = some d → d.Ok)) (fun t _ => ds.length - (intOf t).toNat)
  case atStart => exact ⟨0, by omega, rfl, Touch.refl _ _, fun j d hj => by omega⟩
  case round =>
   rename_i wr
   obtain ⟨k, hk, rfl, HI⟩ := hrel
   by_cases hlt : k < ds.length
   ·obtain ⟨b, off, rfl, hc⟩ := (hD.out.touch HI.out.1).at_ (by omega)
    have hd : ds[k]? = some ds[k] := List.getElem?_eq_getElem hlt
    have hNo : ¬ (ds[k]).Ok → Hid (mayI ds = false) := fun hn => mayI_no hd hn
    have hYes : (ds[k]).Ok → Hid (∀ j d, j < k + 1 → ds[j]? = some d → d.Ok) := fun hy j d hj hjd => by
     by_cases e : j = k
     ·subst e
      rw [hd] at hjd
      injection hjd with hjd
      rw [← hjd]; exact hy
     ·exact HI.out.2 j d (by omega) hjd
    have c0 := hc k _ hd 0 _ rfl
    have c1 := hc k _ hd 1 _ rfl
    have c2 := hc k _ hd 2 _ rfl
    have c3 := hc k _ hd 3 _ rfl
    rw [Nat.add_zero] at c0
    generalize ds[k] = d at *
    have hT := toHid HI.out.1
    clear hc hd HI
    by_cases a1 : d.kind < 0
    ·have hF := hNo (fun hn => by have := hn.1; omega)
     clear hNo hYes
     go_wp2
     go_ret
     exact ⟨by rw [hF.out]; rfl, hT.out.alloc _⟩
    ·by_cases a2 : 3 < d.kind
     ·have hF := hNo (fun hn => by have := hn.2.1; omega)
      clear hNo hYes
      go_wp2
      go_ret
      exact ⟨by rw [hF.out]; rfl, hT.out.alloc _⟩
     ·by_cases a3 : d.val < 1
      ·have hF := hNo (fun hn => by have := hn.2.2.1; omega)
       clear hNo hYes
       go_wp2
       go_ret
       exact ⟨by rw [hF.out]; rfl, hT.out.alloc _⟩
      ·by_cases a4 : 64 < d.val
       ·have hF := hNo (fun hn => by have := hn.2.2.2.1; omega)
        clear hNo hYes
        go_wp2
        go_ret
        exact ⟨by rw [hF.out]; rfl, hT.out.alloc _⟩
       ·by_cases a5 : newOk d.kind d.key d.max
        ·have hY := hYes ⟨by omega, by omega, by omega, by omega, a5⟩
         obtain ⟨mx, hmx⟩ : ∃ mx : Nat, d.max = mx := Int.eq_ofNat_of_zero_le (by have := a5.1; omega)
         rw [hmx] at c3 a5
         have HN := fun w0 => toHid (rnewA_any w0 d.kind d.key mx a5)
         clear hNo hYes a5
         go_wp2_with fail
         refine Calls.mono (HN _).out ?_
         rintro e w2 ⟨x, rfl, _, _, _, ht2⟩
         have hT2 := toHid ((hT.out.alloc _).trans ht2 (by simp))
         clear ht2
         go_wp2
         exact ⟨⟨k + 1, by omega, by go_num, hT2.out, hY.out⟩, by simp [intOf]; omega⟩
        ·have hF := hNo (fun hn => a5 hn.2.2.2.2)
         have HN := fun w0 => toHid (rnewA_bad w0 d.kind d.key d.max a5)
         clear hNo hYes a5
         go_wp2_with fail
         refine Calls.mono (HN _).out ?_
         rintro e w2 ⟨rfl, rfl⟩
         go_wp2
         go_ret
         exact ⟨by rw [hF.out]; rfl, hT.out.alloc _⟩
   ·obtain rfl : k = ds.length := by omega
    have hv : Hid (mayI ds = true) := by
     show mayI ds = true
     unfold mayI
     rw [decide_eq_true_iff]
     exact ⟨hL, fun d hd => by obtain ⟨j, hj⟩ := List.getElem?_of_mem hd; exact HI.out.2 j d (List.getElem?_eq_some_iff.1 hj).1 hj⟩
    go_wp2
    go_ret
    exact ⟨by rw [hv.out]; rfl, HI.out.1⟩
end Go.Proofs.YtmhhahmjkopjhaaGreat
end
section
namespace Go.Proofs.YtmhhahmjkopjhaaGreat
open Go.RowKit
structure PMap where
 d : MDef
 X : Nat
 bl : List Nat
 q : PX
def ixV (k : Int) (X : Nat) : Value := .iface (typF k) (.pointer (some ⟨X, 0, none⟩))
def PMap.cells (m : PMap) : List Value := [.int .i64 m.d.kind, .int .i64 m.d.key, .int .i64 m.d.val, .int .i64 m.d.max, ixV m.d.kind m.X]
structure PMapOk (m : PMap) : Prop where
 kind : m.q.kind = m.d.kind
 key : m.q.size = m.d.key
 max : (m.q.slots.length : Int) = m.d.max
 v1 : 1 ≤ m.d.val
 v2 : m.d.val ≤ 64
structure PT where
 t : Nat
 mem : Nat
 g : Option Nat
 cap : Nat
 maps : List PMap
def PT.top (x : PT) : List Nat := x.t :: x.g.toList
def PT.blocks (x : PT) : List Nat := x.top ++ x.maps.flatMap PMap.bl
def PT.ds (x : PT) : List MDef := x.maps.map PMap.d
def PT.qs (x : PT) : List PX := x.maps.map PMap.q
structure PTAt (w : World) (x : PT) : Prop where
 self : Blk w x.t [.pointer (some ⟨x.mem, 0, none⟩), slV x.g x.maps.length x.cap] 85
 row : RowAt w 89 5 x.g x.maps.length x.cap (x.maps.flatMap PMap.cells)
 maps : ∀ m ∈ x.maps, KAt w m.X m.bl m.q
 ok : ∀ m ∈ x.maps, PMapOk m
 apTop : x.top.Nodup
 apT : ∀ m ∈ x.maps, ∀ b ∈ m.bl, b ∉ x.top
 apM : ∀ (i j : Nat) (mi mj : PMap), x.maps[i]? = some mi → x.maps[j]? = some mj → i ≠ j → ∀ y ∈ mi.bl, y ∉ mj.bl
 many : x.maps.length ≤ 8
theorem PT.mem_top {x : PT} {b : Nat} (h : b ∈ x.top) : b ∈ x.blocks := List.mem_append_left _ h
theorem PT.mem_g {x : PT} {b : Nat} (h : x.g = some b) : b ∈ x.top := by simp [PT.top, h]
theorem PT.mem_map {x : PT} {m : PMap} (h : m ∈ x.maps) {b : Nat} (hb : b ∈ m.bl) : b ∈ x.blocks := List.mem_append_right _ (List.mem_flatMap.2 ⟨m, h, hb⟩)
theorem PTAt.touch {S : List Nat} {w w' : World} {x : PT} (h : PTAt w x) (ht : Touch S w w') (hS : ∀ b ∈ x.blocks, b ∉ S) : PTAt w' x where
 self := ht.blk h.self (hS _ (PT.mem_top (by simp [PT.top])))
 row := h.row.touch ht (fun b hb => hS _ (PT.mem_top (PT.mem_g hb)))
 maps := fun m hm => (h.maps m hm).touch ht (fun b hb => hS b (PT.mem_map hm hb))
 ok := h.ok
 apTop := h.apTop
 apT := h.apT
 apM := h.apM
 many := h.many
theorem PTAt.still {w w' : World} {x : PT} (h : PTAt w x) (ht : Touch [] w w') : PTAt w' x := h.touch ht (by simp)
theorem PTAt.lt {w : World} {x : PT} (h : PTAt w x) : ∀ b ∈ x.blocks, b < w.heap.size := by
 intro b hb
 rcases List.mem_append.1 hb with hb | hb
 ·simp only [PT.top, List.mem_cons, Option.mem_toList] at hb
  rcases hb with rfl | hb
  ·exact h.self.lt
  ·have hi := h.row
   rw [hb] at hi
   obtain ⟨_, _, _, _, hB, _⟩ := hi
   exact hB.lt
 ·obtain ⟨m, hm, hb⟩ := List.mem_flatMap.1 hb
  exact (h.maps m hm).lt b hb
theorem flat5_get (l : List PMap) (i j : Nat) (m : PMap) (hm : l[i]? = some m) (hj : j < 5) : (l.flatMap PMap.cells)[i * 5 + j]? = m.cells[j]? := by
 induction l generalizing i with
 | nil => simp at hm
 | cons x xs ih =>
  rw [List.flatMap_cons]
  have hl : x.cells.length = 5 := rfl
  cases i with
  | zero =>
   simp at hm
   subst hm
   rw [List.getElem?_append_left (by omega)]
   simp
  | succ i =>
   rw [List.getElem?_append_right (by omega), hl, show (i + 1) * 5 + j - 5 = i * 5 + j by omega]
   exact ih i (by simpa using hm)
theorem flat5_len (l : List PMap) : (l.flatMap PMap.cells).length = l.length * 5 := by
 induction l with
 | nil => rfl
 | cons x xs ih =>
  rw [List.flatMap_cons, List.length_append, ih, List.length_cons]
  show 5 + _ = _
  omega
theorem flat5_set (l : List PMap) (i : Nat) (m m' : PMap) (hm : l[i]? = some m) (hc : m'.cells = m.cells) : (l.set i m').flatMap PMap.cells = l.flatMap PMap.cells := by
 induction l generalizing i with
 | nil => simp
 | cons x xs ih =>
  cases i with
  | zero =>
   simp at hm
   subst hm
   simp [hc]
  | succ i =>
   simp only [List.set_cons_succ, List.flatMap_cons]
   rw [ih i (by simpa using hm)]
theorem PTAt.at_ {w : World} {x : PT} (h : PTAt w x) {i : Nat} {m : PMap} (hm : x.maps[i]? = some m) : ∃ b, x.g = some b ∧ ∀ (j : Nat) (v : Value), j < 5 → m.cells[j]? = some v → w.cell? ⟨b, i * 5 + j, none⟩ = some v := by
 have hlt := (List.getElem?_eq_some_iff.1 hm).1
 have hr := h.row
 cases hg : x.g with
 | none =>
  rw [hg] at hr
  have h1 := hr.2.1
  have h2 : x.cap = 0 := hr.2.2.2
  omega
 | some b =>
  rw [hg] at hr
  obtain ⟨_, _, _, rest, hB, _⟩ := hr
  refine ⟨b, rfl, fun j v hj hv => hB.cell ?_⟩
  rw [List.getElem?_append_left (by rw [flat5_len]; omega), flat5_get x.maps i j m hm hj, hv]
theorem PTAt.c0 {w : World} {x : PT} (h : PTAt w x) : w.cell? ⟨x.t, 0, none⟩ = some (.pointer (some ⟨x.mem, 0, none⟩)) := h.self.cell rfl
theorem PTAt.c1 {w : World} {x : PT} (h : PTAt w x) : w.cell? ⟨x.t, 1, none⟩ = some (slV x.g x.maps.length x.cap) := h.self.cell rfl
theorem PTAt.boxed {w : World} {x : PT} (h : PTAt w x) {k : Nat} {m : PMap} (hm : x.maps[k]? = some m) {gb : Nat} (hg : x.g = some gb) : w.cell? ⟨gb, k * 5, none⟩ = some (.int .i64 m.d.kind) ∧ w.cell? ⟨gb, k * 5 + 1, none⟩ = some (.int .i64 m.d.key) ∧ w.cell? ⟨gb, k * 5 + 2, none⟩ = some (.int .i64 m.d.val) ∧ w.cell? ⟨gb, k * 5 + 3, none⟩ = some (.int .i64 m.d.max) ∧ w.cell? ⟨gb, k * 5 + 4, none⟩ = some (ixV m.d.kind m.X) := by
 obtain ⟨gb2, hg2, hc⟩ := h.at_ hm
 rw [hg] at hg2
 injection hg2 with hg2
 subst hg2
 refine ⟨?_, hc 1 _ (by omega) rfl, hc 2 _ (by omega) rfl, hc 3 _ (by omega) rfl, hc 4 _ (by omega) rfl⟩
 have := hc 0 _ (by omega) rfl
 rwa [Nat.add_zero] at this
theorem PTAt.some_g {w : World} {x : PT} (h : PTAt w x) {k : Nat} {m : PMap} (hm : x.maps[k]? = some m) : ∃ b, x.g = some b := by
 obtain ⟨b, hb, _⟩ := h.at_ hm
 exact ⟨b, hb⟩
structure PStep (w w' : World) (x x' : PT) (qs : List PX) : Prop where
 at_ : PTAt w' x'
 qs : x'.qs = qs
 t : x'.t = x.t
 mem : x'.mem = x.mem
 ds : x'.ds = x.ds
 touch : Touch x.blocks w w'
 blocks : ∀ b ∈ x'.blocks, b ∈ x.blocks ∨ w.heap.size ≤ b
theorem PStep.refl {w w' : World} {x : PT} (h : PTAt w x) (ht : Touch [] w w') : PStep w w' x x x.qs :=
 ⟨h.still ht, rfl, rfl, rfl, rfl, ht.nil, fun _ hb => Or.inl hb⟩
theorem PStep.still {w w' w2 : World} {x x' : PT} {qs : List PX} (st : PStep w w' x x' qs) (ht : Touch [] w' w2) : PStep w w2 x x' qs :=
 ⟨st.at_.still ht, st.qs, st.t, st.mem, st.ds, st.touch.trans ht (by simp), st.blocks⟩
theorem KStep.of_still {w w1 w2 : World} {X : Nat} {bl : List Nat} {q : PX} (ht : Touch [] w w1) (st : KStep w1 w2 X bl q) : KStep w w2 X bl q := by
 obtain ⟨bl', h1, h2, h3⟩ := st
 have := ht.size
 exact ⟨bl', h1, (ht.mono (S' := bl) (fun b hb => by cases hb)).trans h2 (fun b hb => Or.inl hb), fun b hb => (h3 b hb).imp id (fun h => by omega)⟩
theorem pmap_set_same {α β : Type} (f : α → β) (l : List α) (i : Nat) (a b : α) (h : l[i]? = some a) (hf : f b = f a) : (l.set i b).map f = l.map f := by
 refine List.ext_getElem? fun j => ?_
 rw [List.getElem?_map, List.getElem?_map, List.getElem?_set]
 by_cases e : i = j
 ·subst e
  rw [if_pos rfl, if_pos (List.getElem?_eq_some_iff.1 h).1, h]
  exact congrArg some hf
 ·rw [if_neg e]
theorem PTAt.step {w w' : World} {x : PT} (h : PTAt w x) {i : Nat} {m : PMap} (hm : x.maps[i]? = some m) {q : PX} (st : KStep w w' m.X m.bl q) (hk : PKept m.q q) : ∃ x', PStep w w' x x' (x.qs.set i q) := by
 obtain ⟨bl', hA, ht, hb⟩ := st
 have hmem := List.mem_of_getElem? hm
 have hlt := (List.getElem?_eq_some_iff.1 hm).1
 have hl := h.lt
 have hcells : ({ m with bl := bl', q := q } : PMap).cells = m.cells := rfl
 have hmlt := (h.maps m hmem).lt
 refine ⟨{ x with maps := x.maps.set i { m with bl := bl', q := q } }, ⟨?_, ?_, fun m' hm' => ?_, fun m' hm' => ?_, h.apTop, fun m' hm' b hb' => ?_, fun j k mj mk hj hk' hjk y hy => ?_, by show (x.maps.set i _).length ≤ 8; rw [List.length_set]; exact h.many⟩, ?_, rfl, rfl, ?_, ht.mono (fun b hb => Or.inl (PT.mem_map hmem hb)), fun b hb' => ?_⟩
 ·have := ht.blk h.self (fun hx => h.apT m hmem _ hx (by simp [PT.top]))
  show Blk w' x.t [_, slV x.g (x.maps.set i _).length x.cap] _
  rw [List.length_set]
  exact this
 ·have := h.row.touch ht (fun b hb hx => h.apT m hmem _ hx (PT.mem_g hb))
  show RowAt w' _ 5 x.g (x.maps.set i _).length x.cap ((x.maps.set i _).flatMap PMap.cells)
  rw [List.length_set, flat5_set x.maps i m _ hm hcells]
  exact this
 ·obtain ⟨j, hj⟩ := List.getElem?_of_mem (show m' ∈ x.maps.set i { m with bl := bl', q := q } from hm')
  by_cases e : i = j
  ·subst e
   rw [List.getElem?_set_self hlt] at hj
   injection hj with hj
   subst hj
   exact hA
  ·rw [List.getElem?_set_ne e] at hj
   exact (h.maps _ (List.mem_of_getElem? hj)).touch ht (fun b hb hx => h.apM j i _ m hj hm (fun e2 => e e2.symm) b hb hx)
 ·rcases List.mem_or_eq_of_mem_set (show m' ∈ x.maps.set i _ from hm') with hx | rfl
  ·exact h.ok m' hx
  ·have ho := h.ok m hmem
   exact ⟨by show q.kind = m.d.kind; rw [hk.kind]; exact ho.kind, by show q.size = m.d.key; rw [hk.size]; exact ho.key, by show (q.slots.length : Int) = m.d.max; rw [hk.slots]; exact ho.max, ho.v1, ho.v2⟩
 ·rcases List.mem_or_eq_of_mem_set (show m' ∈ x.maps.set i _ from hm') with hx | rfl
  ·exact h.apT m' hx b hb'
  ·rcases hb b hb' with h1 | h1
   ·exact h.apT m hmem b h1
   ·intro hx
    have := hl b (PT.mem_top hx)
    omega
 ·have hj : (x.maps.set i { m with bl := bl', q := q })[j]? = some mj := hj
  have hk' : (x.maps.set i { m with bl := bl', q := q })[k]? = some mk := hk'
  by_cases ej : i = j
  ·subst ej
   rw [List.getElem?_set_self hlt] at hj
   rw [List.getElem?_set_ne hjk] at hk'
   injection hj with hj
   subst hj
   rcases hb y hy with h1 | h1
   ·exact h.apM i k m mk hm hk' hjk y h1
   ·intro hx
    have := (h.maps mk (List.mem_of_getElem? hk')).lt y hx
    omega
  ·rw [List.getElem?_set_ne ej] at hj
   by_cases ek : i = k
   ·subst ek
    rw [List.getElem?_set_self hlt] at hk'
    injection hk' with hk'
    subst hk'
    intro hx
    rcases hb y hx with h1 | h1
    ·exact h.apM j i mj m hj hm hjk y hy h1
    ·have := (h.maps mj (List.mem_of_getElem? hj)).lt y hy
     omega
   ·rw [List.getElem?_set_ne ek] at hk'
    exact h.apM j k mj mk hj hk' hjk y hy
 ·unfold PT.qs
  show (x.maps.set i { m with bl := bl', q := q }).map PMap.q = _
  rw [List.map_set]
 ·exact pmap_set_same _ _ _ m _ hm rfl
 ·rcases List.mem_append.1 hb' with hb' | hb'
  ·exact Or.inl (PT.mem_top hb')
  ·obtain ⟨m', hm', hb'⟩ := List.mem_flatMap.1 hb'
   rcases List.mem_or_eq_of_mem_set (show m' ∈ x.maps.set i { m with bl := bl', q := q } from hm') with hx | rfl
   ·exact Or.inl (PT.mem_map hx hb')
   ·rcases hb b hb' with h1 | h1
    ·exact Or.inl (PT.mem_map hmem h1)
    ·exact Or.inr h1
def plI (i s : Int) : Int := 137438953472 + i * 4294967296 + s * 4096
theorem place_any (w : World) (i s : Nat) (hi : i < 8) (hs : s < 64) : Calls Tryz.prog 42 #[.int .i64 (i : Int), .int .i64 (s : Int)] w fun e w' => e = .returned (.int .u64 (plI i s)) ∧ w' = w := by
 have h1 : IntKind.u64.wrap (i : Int) = i := by rw [IntKind.wrap_u64]; omega
 have h2 : IntKind.u64.wrap (s : Int) = s := by rw [IntKind.wrap_u64]; omega
 have h3 : IntKind.u64.wrap ((i : Int) * 4294967296) = i * 4294967296 := by rw [IntKind.wrap_u64]; omega
 have h4 : IntKind.u64.wrap ((s : Int) * 4096) = s * 4096 := by rw [IntKind.wrap_u64]; omega
 have h5 : IntKind.u64.wrap (137438953472 + (i : Int) * 4294967296) = 137438953472 + i * 4294967296 := by rw [IntKind.wrap_u64]; omega
 have h6 : IntKind.u64.wrap (137438953472 + (i : Int) * 4294967296 + s * 4096) = 137438953472 + i * 4294967296 + s * 4096 := by rw [IntKind.wrap_u64]; omega
 unfold plI
 go_enter Tryz.func42, Tryz.ntmps42
 go_wp2
 go_ret
 exact ⟨rfl, rfl⟩
def PMap.v (m : PMap) : Value := .agg #[.int .i64 m.d.kind, .int .i64 m.d.key, .int .i64 m.d.val, .int .i64 m.d.max, ixV m.d.kind m.X]
def zeroV : Value := .agg #[.int .i64 0, .int .i64 0, .int .i64 0, .int .i64 0, .nilIface]
def mapV : Option PMap → Value
 | some m => m.v
 | none => zeroV
def PT.nth (x : PT) (i : Int) : Option PMap := if 0 ≤ i then x.maps[i.toNat]? else none
def numE : Option PMap → Int
 | some _ => 0
 | none => 14
theorem zero89 : (Tryz.prog.info? 89).map (fun i => (i.zero, i.size)) = some (some (.agg #[.int .i64 0, .int .i64 0, .int .i64 0, .int .i64 0, .nilIface]), 5) := by kernel_rfl
theorem numbered_any {w : World} {x : PT} (h : PTAt w x) (i : Int) :
  Calls Tryz.prog 32 #[.pointer (some ⟨x.t, 0, none⟩), .int .i64 i] w fun e w' => e = .returned (.tuple #[mapV (x.nth i), .int .i64 (numE (x.nth i))]) ∧ Touch [] w w' := by
 have hz := (zero_of_info (P := Tryz.prog) zero89).1
 have hsz := (zero_of_info (P := Tryz.prog) zero89).2
 have hta : ∀ o, Touch [] w (w.alloc o) := fun o => (Touch.refl [] w).alloc o
 have c1 := fun o => (h.still (hta o)).c1
 unfold slV at c1
 have hm8 := h.many
 by_cases hi : 0 ≤ i
 ·obtain ⟨k, rfl⟩ := Int.eq_ofNat_of_zero_le hi
  cases hm : x.maps[k]? with
  | some m =>
   have hn : x.nth k = some m := by unfold PT.nth; rw [if_pos hi, Int.toNat_natCast, hm]
   rw [hn]
   have hkl : (k : Int) < x.maps.length := by have := (List.getElem?_eq_some_iff.1 hm).1; omega
   obtain ⟨gb, hg, _⟩ := h.at_ hm
   have hb := fun o => (h.still (hta o)).boxed hm hg
   have d0 := fun o => (hb o).1
   have d1 := fun o => (hb o).2.1
   have d2 := fun o => (hb o).2.2.1
   have d3 := fun o => (hb o).2.2.2.1
   have d4 := fun o => (hb o).2.2.2.2
   simp only [hg, Option.map_some] at c1
   have HF := toHid hta
   simp only [mapV, numE, PMap.v, ixV]
   unfold ixV at d4
   generalize typF m.d.kind = ty at *
   generalize x.maps.length = L at *
   clear h hm hn hb hg hta
   go_enter Tryz.func32, Tryz.ntmps32
   go_wp2
   exact bodyPost_ret (v := .tuple #[.agg #[.int .i64 m.d.kind, .int .i64 m.d.key, .int .i64 m.d.val, .int .i64 m.d.max, .iface ty (.pointer (some ⟨m.X, 0, none⟩))], .int .i64 0]) (by simp [results, Tryz.results32, go_sem]) rfl ⟨rfl, HF.out _⟩
  | none =>
   have hn : x.nth k = none := by unfold PT.nth; rw [if_pos hi, Int.toNat_natCast, hm]
   rw [hn]
   have hle : (x.maps.length : Int) ≤ k := by have := List.getElem?_eq_none_iff.1 hm; omega
   have HF := toHid hta
   unfold mapV numE zeroV
   generalize x.maps.length = L at *
   generalize (x.g.map fun b => (⟨b, 0, none⟩ : Addr)) = sg at *
   clear h hm hn hta
   go_enter Tryz.func32, Tryz.ntmps32
   go_wp2
   exact bodyPost_ret (v := .tuple #[.agg #[.int .i64 0, .int .i64 0, .int .i64 0, .int .i64 0, .nilIface], .int .i64 14]) (by simp [results, Tryz.results32, go_sem]) rfl ⟨rfl, HF.out _⟩
 ·have hn : x.nth i = none := by unfold PT.nth; rw [if_neg hi]
  rw [hn]
  have hlt : i < 0 := by omega
  have HF := toHid hta
  unfold mapV numE zeroV
  generalize x.maps.length = L at *
  generalize (x.g.map fun b => (⟨b, 0, none⟩ : Addr)) = sg at *
  clear h hn hi hta
  go_enter Tryz.func32, Tryz.ntmps32
  go_wp2
  exact bodyPost_ret (v := .tuple #[.agg #[.int .i64 0, .int .i64 0, .int .i64 0, .int .i64 0, .nilIface], .int .i64 14]) (by simp [results, Tryz.results32, go_sem]) rfl ⟨rfl, HF.out _⟩
def chkP (ds : List MDef) (i : Int) (n : Nat) : Int := if 0 ≤ i ∧ i < ds.length then (match ds[i.toNat]? with
 | some d => if (n : Int) = d.key then 0 else 2
 | none => 14) else 14
def askV (x : PT) (i : Int) (n : Nat) : Value := if chkP x.ds i n = 0 then mapV (x.nth i) else zeroV
theorem chk_ok {x : PT} {i : Int} {n : Nat} (h : chkP x.ds i n = 0) : ∃ (k : Nat) (m : PMap), i = k ∧ x.maps[k]? = some m ∧ (n : Int) = m.d.key := by
 unfold chkP at h
 split at h
 ·rename_i hi
  refine ⟨i.toNat, ?_⟩
  unfold PT.ds at h
  rw [List.getElem?_map] at h
  cases hm : x.maps[i.toNat]? with
  | none => rw [hm] at h; cases h
  | some m =>
   rw [hm] at h
   refine ⟨m, by omega, rfl, ?_⟩
   by_cases e : (n : Int) = m.d.key
   ·exact e
   ·change (if (n : Int) = m.d.key then (0 : Int) else 2) = 0 at h
    rw [if_neg e] at h
    cases h
 ·cases h
theorem nth_of {x : PT} {k : Nat} {m : PMap} (h : x.maps[k]? = some m) : x.nth k = some m := by unfold PT.nth; rw [if_pos (by omega), Int.toNat_natCast, h]
theorem chk_nth (x : PT) (i : Int) (n : Nat) : chkP x.ds i n = match x.nth i with
  | some m => if (n : Int) = m.d.key then 0 else 2
  | none => 14 := by
 unfold chkP PT.nth PT.ds
 rw [List.getElem?_map, List.length_map]
 by_cases hi : 0 ≤ i
 ·rw [if_pos hi]
  by_cases hl : i < x.maps.length
  ·rw [if_pos ⟨hi, hl⟩, List.getElem?_eq_getElem (by omega)]
   rfl
  ·rw [if_neg (fun hh => hl hh.2), List.getElem?_eq_none (by omega)]
 ·rw [if_neg hi, if_neg (fun hh => hi hh.1)]
theorem Touch.set5 {w w' : World} (h : Touch [] w w') {b : Nat} (hb : w.heap.size ≤ b) (v0 v1 v2 v3 v4 : Value) : Touch [] w (((((w'.setCell ⟨b, 0, none⟩ v0).setCell ⟨b, 1, none⟩ v1).setCell ⟨b, 2, none⟩ v2).setCell ⟨b, 3, none⟩ v3).setCell ⟨b, 4, none⟩ v4) :=
 ((((h.setCell _ _ (Or.inr hb)).setCell _ _ (Or.inr hb)).setCell _ _ (Or.inr hb)).setCell _ _ (Or.inr hb)).setCell _ _ (Or.inr hb)
theorem Blk.set5v {w : World} {b : Nat} {t : TypeId} {a0 a1 a2 a3 a4 : Value} (h : Blk w b [a0, a1, a2, a3, a4] t) (v0 v1 v2 v3 v4 : Value) : Blk (((((w.setCell ⟨b, 0, none⟩ v0).setCell ⟨b, 1, none⟩ v1).setCell ⟨b, 2, none⟩ v2).setCell ⟨b, 3, none⟩ v3).setCell ⟨b, 4, none⟩ v4) b [v0, v1, v2, v3, v4] t :=
 ((((h.setCell 0 v0).setCell 1 v1).setCell 2 v2).setCell 3 v3).setCell 4 v4
theorem asked_any {w : World} {x : PT} (h : PTAt w x) (i : Int) (sa : Option Addr) (sl sc : Nat) (_hsl : sl ≤ 9223372036854775807) :
  Calls Tryz.prog 48 #[.pointer (some ⟨x.t, 0, none⟩), .int .i64 i, .slice sa sl sc] w fun e w' => e = .returned (.tuple #[askV x i sl, .int .i64 (chkP x.ds i sl)]) ∧ Touch [] w w' := by
 have hz := (zero_of_info (P := Tryz.prog) zero89).1
 have hsz := (zero_of_info (P := Tryz.prog) zero89).2
 have hta : ∀ o, Touch [] w (w.alloc o) := fun o => (Touch.refl [] w).alloc o
 have H1 := toHid (fun o => numbered_any (h.still (hta o)) i)
 have hv := chk_nth x i sl
 have HT := toHid hta
 have hNB := Blk.newA w #[.int .i64 0, .int .i64 0, .int .i64 0, .int .i64 0, .nilIface] _ 89 rfl
 have HB := toHid hNB
 clear h hta hNB
 cases hn : x.nth i with
 | none =>
  simp only [hn, mapV, numE, zeroV] at H1
  have hc : chkP x.ds i sl = 14 := by rw [hv, hn]
  have ha : askV x i sl = zeroV := by unfold askV; rw [if_neg (by rw [hc]; decide)]
  rw [ha, hc]
  clear hn hv hc ha
  unfold zeroV
  go_enter Tryz.func48, Tryz.ntmps48
  go_wp2_with fail
  refine Calls.mono (H1.out _) ?_
  rintro e w2 ⟨rfl, ht2⟩
  have hta2 : ∀ o, Touch [] w2 (w2.alloc o) := fun o => (Touch.refl [] w2).alloc o
  have hb2 := fun o => (hta2 o).blk (ht2.blk HB.out (by simp)) (by simp)
  have c0 := fun o => (hb2 o).cell (i := 0) rfl
  have c1 := fun o => (hb2 o).cell (i := 1) rfl
  have c2 := fun o => (hb2 o).cell (i := 2) rfl
  have c3 := fun o => (hb2 o).cell (i := 3) rfl
  have c4 := fun o => (hb2 o).cell (i := 4) rfl
  have f0 := fun o => (hb2 o).frozen 0
  have f1 := fun o => (hb2 o).frozen 1
  have f2 := fun o => (hb2 o).frozen 2
  have f3 := fun o => (hb2 o).frozen 3
  have f4 := fun o => (hb2 o).frozen 4
  have HE : Hid (∀ o v0 v1 v2 v3 v4, Blk ((((((w2.alloc o).setCell ⟨w.heap.size, 0, none⟩ v0).setCell ⟨w.heap.size, 1, none⟩ v1).setCell ⟨w.heap.size, 2, none⟩ v2).setCell ⟨w.heap.size, 3, none⟩ v3).setCell ⟨w.heap.size, 4, none⟩ v4) w.heap.size [v0, v1, v2, v3, v4] 89 ∧ Touch [] w ((((((w2.alloc o).setCell ⟨w.heap.size, 0, none⟩ v0).setCell ⟨w.heap.size, 1, none⟩ v1).setCell ⟨w.heap.size, 2, none⟩ v2).setCell ⟨w.heap.size, 3, none⟩ v3).setCell ⟨w.heap.size, 4, none⟩ v4)) := fun o v0 v1 v2 v3 v4 => ⟨(hb2 o).set5v v0 v1 v2 v3 v4, (((HT.out _).trans ht2 (by simp)).trans (hta2 o) (by simp)).set5 (Nat.le_refl _) v0 v1 v2 v3 v4⟩
  clear ht2 hb2 hta2 H1
  go_wp2
  obtain ⟨HE1, HE2⟩ := HE.out _ _ _ _ _ _
  have HE2 := toHid HE2
  have e0 := HE1.cell (i := 0) rfl
  have e1 := HE1.cell (i := 1) rfl
  have e2 := HE1.cell (i := 2) rfl
  have e3 := HE1.cell (i := 3) rfl
  have e4 := HE1.cell (i := 4) rfl
  refine bodyPost_ret (v := .tuple #[.agg #[.int .i64 0, .int .i64 0, .int .i64 0, .int .i64 0, .nilIface], .int .i64 14]) ?_ rfl ⟨rfl, HE2.out⟩
  simp [results, Tryz.results48, go_sem, e0, e1, e2, e3, e4]
 | some m =>
  simp only [hn, mapV, numE, PMap.v, ixV] at H1
  by_cases he : (sl : Int) = m.d.key
  ·have hc : chkP x.ds i sl = 0 := by rw [hv, hn]; exact if_pos he
   have ha : askV x i sl = mapV (some m) := by unfold askV; rw [if_pos hc, hn]
   rw [ha, hc]
   simp only [mapV, PMap.v, ixV]
   clear hn hv hc ha
   have hs : ((sl : Int) != m.d.key) = false := by simpa using he
   clear he
   generalize typF m.d.kind = ty at *
   generalize m.d.kind = kd at *
   generalize m.d.key = ky at *
   generalize m.d.val = vl at *
   generalize m.d.max = mx at *
   generalize m.X = X at *
   go_enter Tryz.func48, Tryz.ntmps48
   go_wp2_with fail
   refine Calls.mono (H1.out _) ?_
   rintro e w2 ⟨rfl, ht2⟩
   have hta2 : ∀ o, Touch [] w2 (w2.alloc o) := fun o => (Touch.refl [] w2).alloc o
   have hb2 := fun o => (hta2 o).blk (ht2.blk HB.out (by simp)) (by simp)
   have c0 := fun o => (hb2 o).cell (i := 0) rfl
   have c1 := fun o => (hb2 o).cell (i := 1) rfl
   have c2 := fun o => (hb2 o).cell (i := 2) rfl
   have c3 := fun o => (hb2 o).cell (i := 3) rfl
   have c4 := fun o => (hb2 o).cell (i := 4) rfl
   have f0 := fun o => (hb2 o).frozen 0
   have f1 := fun o => (hb2 o).frozen 1
   have f2 := fun o => (hb2 o).frozen 2
   have f3 := fun o => (hb2 o).frozen 3
   have f4 := fun o => (hb2 o).frozen 4
   have HE : Hid (∀ o v0 v1 v2 v3 v4, Blk ((((((w2.alloc o).setCell ⟨w.heap.size, 0, none⟩ v0).setCell ⟨w.heap.size, 1, none⟩ v1).setCell ⟨w.heap.size, 2, none⟩ v2).setCell ⟨w.heap.size, 3, none⟩ v3).setCell ⟨w.heap.size, 4, none⟩ v4) w.heap.size [v0, v1, v2, v3, v4] 89 ∧ Touch [] w ((((((w2.alloc o).setCell ⟨w.heap.size, 0, none⟩ v0).setCell ⟨w.heap.size, 1, none⟩ v1).setCell ⟨w.heap.size, 2, none⟩ v2).setCell ⟨w.heap.size, 3, none⟩ v3).setCell ⟨w.heap.size, 4, none⟩ v4)) := fun o v0 v1 v2 v3 v4 => ⟨(hb2 o).set5v v0 v1 v2 v3 v4, (((HT.out _).trans ht2 (by simp)).trans (hta2 o) (by simp)).set5 (Nat.le_refl _) v0 v1 v2 v3 v4⟩
   clear ht2 hb2 hta2 H1
   go_wp2
   obtain ⟨HE1, HE2⟩ := HE.out _ _ _ _ _ _
   have HE2 := toHid HE2
   have e0 := HE1.cell (i := 0) rfl
   have e1 := HE1.cell (i := 1) rfl
   have e2 := HE1.cell (i := 2) rfl
   have e3 := HE1.cell (i := 3) rfl
   have e4 := HE1.cell (i := 4) rfl
   refine bodyPost_ret (v := .tuple #[.agg #[.int .i64 kd, .int .i64 ky, .int .i64 vl, .int .i64 mx, .iface ty (.pointer (some ⟨X, 0, none⟩))], .int .i64 0]) ?_ rfl ⟨rfl, HE2.out⟩
   simp [results, Tryz.results48, go_sem, e0, e1, e2, e3, e4]
  ·have hc : chkP x.ds i sl = 2 := by rw [hv, hn]; exact if_neg he
   have ha : askV x i sl = zeroV := by unfold askV; rw [if_neg (by rw [hc]; decide)]
   rw [ha, hc]
   clear hn hv hc ha
   have hs : ((sl : Int) != m.d.key) = true := by simpa using he
   unfold zeroV
   clear he
   generalize typF m.d.kind = ty at *
   generalize m.d.kind = kd at *
   generalize m.d.key = ky at *
   generalize m.d.val = vl at *
   generalize m.d.max = mx at *
   generalize m.X = X at *
   go_enter Tryz.func48, Tryz.ntmps48
   go_wp2_with fail
   refine Calls.mono (H1.out _) ?_
   rintro e w2 ⟨rfl, ht2⟩
   have hta2 : ∀ o, Touch [] w2 (w2.alloc o) := fun o => (Touch.refl [] w2).alloc o
   have hb2 := fun o => (hta2 o).blk (ht2.blk HB.out (by simp)) (by simp)
   have c0 := fun o => (hb2 o).cell (i := 0) rfl
   have c1 := fun o => (hb2 o).cell (i := 1) rfl
   have c2 := fun o => (hb2 o).cell (i := 2) rfl
   have c3 := fun o => (hb2 o).cell (i := 3) rfl
   have c4 := fun o => (hb2 o).cell (i := 4) rfl
   have f0 := fun o => (hb2 o).frozen 0
   have f1 := fun o => (hb2 o).frozen 1
   have f2 := fun o => (hb2 o).frozen 2
   have f3 := fun o => (hb2 o).frozen 3
   have f4 := fun o => (hb2 o).frozen 4
   have HE : Hid (∀ o v0 v1 v2 v3 v4, Blk ((((((w2.alloc o).setCell ⟨w.heap.size, 0, none⟩ v0).setCell ⟨w.heap.size, 1, none⟩ v1).setCell ⟨w.heap.size, 2, none⟩ v2).setCell ⟨w.heap.size, 3, none⟩ v3).setCell ⟨w.heap.size, 4, none⟩ v4) w.heap.size [v0, v1, v2, v3, v4] 89 ∧ Touch [] w ((((((w2.alloc o).setCell ⟨w.heap.size, 0, none⟩ v0).setCell ⟨w.heap.size, 1, none⟩ v1).setCell ⟨w.heap.size, 2, none⟩ v2).setCell ⟨w.heap.size, 3, none⟩ v3).setCell ⟨w.heap.size, 4, none⟩ v4)) := fun o v0 v1 v2 v3 v4 => ⟨(hb2 o).set5v v0 v1 v2 v3 v4, (((HT.out _).trans ht2 (by simp)).trans (hta2 o) (by simp)).set5 (Nat.le_refl _) v0 v1 v2 v3 v4⟩
   clear ht2 hb2 hta2 H1
   go_wp2
   obtain ⟨HE1, HE2⟩ := HE.out _ _ _ _ _ _
   have HE2 := toHid HE2
   have e0 := HE1.cell (i := 0) rfl
   have e1 := HE1.cell (i := 1) rfl
   have e2 := HE1.cell (i := 2) rfl
   have e3 := HE1.cell (i := 3) rfl
   have e4 := HE1.cell (i := 4) rfl
   refine bodyPost_ret (v := .tuple #[.agg #[.int .i64 0, .int .i64 0, .int .i64 0, .int .i64 0, .nilIface], .int .i64 2]) ?_ rfl ⟨rfl, HE2.out⟩
   simp [results, Tryz.results48, go_sem, e0, e1, e2, e3, e4]
end Go.Proofs.YtmhhahmjkopjhaaGreat
end
section
namespace Go.Proofs.YtmhhahmjkopjhaaGreat.Mem
open Go.RowKit
theorem info79 : (Tryz.prog.info? 118).map (fun i => (i.zero, i.size, i.bytes)) = some (some (.pointer none), 1, 8) := by kernel_rfl
theorem insert_end (g : Option Nat) (n cap k : Nat) (cs : List Value) (x : Value) (w : World) (h : RowAt w 118 1 g n cap cs) (hn : n ≤ 4096) (hx : x.oneCell' = true) (tk : TypeId)
  (hk : Blk w k [x] tk) :
  Calls Tryz.prog 58 #[slV g n cap, .int .i64 n, .slice (some ⟨k, 0, none⟩) 1 1] w fun e w' => ∃ g' cap', e = .returned (slV g' (n + 1) cap') ∧ RowAt w' 118 1 g' (n + 1) cap' (cs ++ [x]) ∧ Touch g.toList w w' ∧
   (g' = g ∨ g' = some w.heap.size) ∧ (g' = some w.heap.size → w.heap.size < w'.heap.size) := by
 obtain ⟨i, hi, hz, hs, hb⟩ := info_of info79
 obtain ⟨g', cap', w', hr, h2, h3, h4, h5⟩ := run_append_row (P := Tryz.prog) w 77 77 118 i (.pointer none) 1 Tryz.underlying77 hi hz hs rfl (by omega) g n cap cs h ⟨k, 0, none⟩ 1 1 [x] rfl
  (fun j v hj => by
   have : j = 0 := by have := (List.getElem?_eq_some_iff.1 hj).1; simp at this; exact this
   subst this
   exact hk.cell hj) (fun u hu => by simp at hu; subst hu; exact hx) (by rw [hb]; omega) (by omega)
 have hnc := h.2.1
 have HR : Hid ((Builtin.append_ #[77, 77] 77 #[slV g n cap, .slice (some ⟨k, 0, none⟩) 1 1]).run Tryz.prog w = .ok (slV g' (n + 1) cap') w') := hr
 clear hr
 cases g with
 | none =>
  simp only [slV_none] at HR ⊢
  obtain rfl : cap = 0 := h.2.2.2
  obtain rfl : n = 0 := by omega
  go_enter Tryz.func58, Tryz.ntmps58
  go_wp2_with (at_builtin; refine Lib.wpList_append_run _ rfl _ _ _ _ rfl _ _ rfl rfl _ _ HR.out ?_)
  go_ret
  exact ⟨g', cap', rfl, h2, h3, h4, h5⟩
 | some b =>
  simp only [slV_some] at HR ⊢
  go_enter Tryz.func58, Tryz.ntmps58
  go_wp2_with (at_builtin; refine Lib.wpList_append_run _ rfl _ _ _ _ rfl _ _ rfl rfl _ _ HR.out ?_)
  all_goals
   go_ret
   exact ⟨g', cap', rfl, h2, h3, h4, h5⟩
theorem hov (k b la off lb cb : Nat) (w : World) (ds cs : List Value) (tk : TypeId) (hne : k ≠ b) (hk : Blk w k ds tk) (hb : Blk w b cs 118) (hb0 : cs.length ≠ 0) :
  (callFunc 81 #[.slice (some ⟨k, 0, none⟩) la la, .slice (some ⟨b, off, none⟩) lb cb]).run Tryz.prog w = .ok (.value (.bool false)) w := by
 rw [run_callFunc_extern Tryz.func81 (by kernel_rfl) (by kernel_rfl) (by kernel_rfl) (e := Extern.SlicesOverlaps.overlaps #[77, 77] #[4]) (by kernel_rfl),
   Lib.run_overlaps_apart w 77 4 118 Tryz.underlying77 1 (sizeOf_of_info info79) ⟨k, 0, none⟩ ⟨b, off, none⟩ la la lb cb hne tk 118 ds.length cs.length hk.shape hb.shape hb0 (hk.frozen _) (hk.frozen _)]
 rfl
theorem insert_shift (b n cap i k : Nat) (cs rest : List Value) (x : Value) (w : World) (hcl : cs.length = n) (hn : n ≤ 4096) (hin : i < n) (hroom : n + 1 ≤ cap) (hcap : cap ≤ n + rest.length) (hcm : cap ≤ maxLen)
  (hb : Blk w b (cs ++ rest) 118) (hx : x.oneCell' = true) (h1 : ∀ u ∈ cs, u.oneCell' = true) (tk : TypeId) (hk : Blk w k [x] tk) (hkb : k ≠ b) :
  Calls Tryz.prog 58 #[.slice (some ⟨b, 0, none⟩) n cap, .int .i64 i, .slice (some ⟨k, 0, none⟩) 1 1] w fun e w' => e = .returned (.slice (some ⟨b, 0, none⟩) (n + 1) cap) ∧ Blk w' b (cs.take i ++ x :: cs.drop i ++ rest.drop 1) 118 ∧ Touch [b] w w' := by
 unfold maxLen at hcm
 have hsz := size_of_info info79
 have hov1 : ∀ off lb cb, (callFunc 81 #[.slice (some ⟨k, 0, none⟩) 1 1, .slice (some ⟨b, off, none⟩) lb cb]).run Tryz.prog w = .ok (.value (.bool false)) w := fun off lb cb => hov k b 1 off lb cb w _ _ tk hkb hk hb (by rw [List.length_append]; omega)
 have hdl : (cs.drop i).length = n - i := by rw [List.length_drop, hcl]
 have hal : (cs ++ rest).length = n + rest.length := by rw [List.length_append, hcl]
 have hcp1 : ∀ ty dc sc, (Builtin.copy_ #[77, 77] ty #[.slice (some ⟨b, i + 1, none⟩) (n - i) dc, .slice (some ⟨b, i, none⟩) (n + 1 - i) sc]).run Tryz.prog w.drew = .ok (goInt (cs.drop i).length) (w.drew.setRow b ((cs ++ rest).take (i + 1) ++ cs.drop i ++ (cs ++ rest).drop (i + 1 + (cs.drop i).length)).toArray) := fun ty dc sc =>
  run_copy_blk w.drew 77 77 ty 118 Tryz.underlying77 hsz b (i + 1) _ _ ⟨b, i, none⟩ _ _ _ 118 (cs.drop i) hb.drew (by rw [hdl]; simp only [Nat.min_def]; split <;> omega) (fun j v hj => by
   rw [Addr.add_lit]
   rw [List.getElem?_drop] at hj
   exact hb.drew.cell (by rw [List.getElem?_append_left (List.getElem?_eq_some_iff.1 hj).1]; exact hj)) (by rw [hal, hdl]; omega) (fun v hv => h1 v (List.mem_of_mem_drop hv))
 have hX : (cs ++ rest).take (i + 1) ++ cs.drop i ++ (cs ++ rest).drop (i + 1 + (cs.drop i).length) = cs.take (i + 1) ++ cs.drop i ++ rest.drop 1 := by
  rw [List.take_append_of_le_length (by omega), hdl, show i + 1 + (n - i) = cs.length + 1 by omega, List.drop_append]
  simp
 rw [hX] at hcp1
 have hb1 : Blk (w.drew.setRow b (cs.take (i + 1) ++ cs.drop i ++ rest.drop 1).toArray) b _ 118 := hb.drew.setRow _
 have hk1 : Blk (w.drew.setRow b (cs.take (i + 1) ++ cs.drop i ++ rest.drop 1).toArray) k [x] tk := hk.drew.setRow_other _ _ hkb
 have ht1 : Touch [b] w (w.drew.setRow b (cs.take (i + 1) ++ cs.drop i ++ rest.drop 1).toArray) := (Touch.refl _ w).drew.setRow _ _ (Or.inl (by simp))
 generalize w.drew.setRow b (cs.take (i + 1) ++ cs.drop i ++ rest.drop 1).toArray = W1 at hcp1 hb1 hk1 ht1
 have hcp2 : ∀ ty dc, (Builtin.copy_ #[77, 77] ty #[.slice (some ⟨b, i, none⟩) (n + 1 - i) dc, .slice (some ⟨k, 0, none⟩) 1 1]).run Tryz.prog W1 = .ok (goInt [x].length) (W1.setRow b ((cs.take (i + 1) ++ cs.drop i ++ rest.drop 1).take i ++ [x] ++ (cs.take (i + 1) ++ cs.drop i ++ rest.drop 1).drop (i + [x].length)).toArray) := fun ty dc =>
  run_copy_blk W1 77 77 ty 118 Tryz.underlying77 hsz b i _ _ ⟨k, 0, none⟩ _ _ _ 118 [x] hb1 (by simp only [Nat.min_def, List.length_singleton]; split <;> omega) (fun j v hj => by
   have : j = 0 := by have := (List.getElem?_eq_some_iff.1 hj).1; simp at this; exact this
   subst this
   exact hk1.cell hj) (by simp [hcl]; omega) (fun v hv => by simp at hv; subst hv; exact hx)
 have hY : (cs.take (i + 1) ++ cs.drop i ++ rest.drop 1).take i ++ [x] ++ (cs.take (i + 1) ++ cs.drop i ++ rest.drop 1).drop (i + [x].length) = cs.take i ++ x :: cs.drop i ++ rest.drop 1 := by
  have e1 : (cs.take (i + 1)).length = i + 1 := by simp; omega
  rw [List.append_assoc (cs.take (i + 1)), List.take_append_of_le_length (l₁ := cs.take (i + 1)) (by omega), List.take_take, List.length_singleton, Nat.min_eq_left (by omega)]
  conv => lhs; arg 2; arg 1; rw [← e1]
  rw [List.drop_left]
  simp
 rw [hY] at hcp2
 have hb2 := hb1.setRow (cs.take i ++ x :: cs.drop i ++ rest.drop 1)
 have ht2 := ht1.setRow b (cs.take i ++ x :: cs.drop i ++ rest.drop 1).toArray (Or.inl (by simp))
 generalize W1.setRow b (cs.take i ++ x :: cs.drop i ++ rest.drop 1).toArray = W2 at hcp2 hb2 ht2
 have HB : Hid (Blk W2 b (cs.take i ++ x :: cs.drop i ++ rest.drop 1) 118 ∧ Touch [b] w W2) := ⟨hb2, ht2⟩
 have HP1 : Hid (∀ ty dc sc, (Builtin.copy_ #[77, 77] ty #[.slice (some ⟨b, i + 1, none⟩) (n - i) dc, .slice (some ⟨b, i, none⟩) (n + 1 - i) sc]).run Tryz.prog w.drew = .ok (goInt (cs.drop i).length) W1) := hcp1
 have HP2 : Hid (∀ ty dc, (Builtin.copy_ #[77, 77] ty #[.slice (some ⟨b, i, none⟩) (n + 1 - i) dc, .slice (some ⟨k, 0, none⟩) 1 1]).run Tryz.prog W1 = .ok (goInt [x].length) W2) := hcp2
 clear hcp1 hcp2 hX hY hb1 hk1 ht1 hb2 ht2 hdl hal
 have hw1 : IntKind.i64.wrap ((i : Int) + 1) = (i : Int) + 1 := by rw [IntKind.wrap_i64]; omega
 have q1 : (0 : Int) ≤ (i : Int) + 1 := by omega
 have q2 : (i : Int) + 1 ≤ (n : Int) + 1 := by omega
 have q3 : ((i : Int) + 1).toNat = i + 1 := by omega
 have q4 : ¬ (cap = i + 1) := by omega
 have q5 : ¬ (cap = i) := by omega
 have q6 : (i : Int) ≤ (n : Int) + 1 := by omega
 go_enter Tryz.func58, Tryz.ntmps58
 go_wp2_with (simp only [hov1])
 go_region_law (refine step_copy_known rfl _ _ 77 77 rfl (.slice (some ⟨b, i + 1, none⟩) (n - i) (cap - (i + 1))) (.slice (some ⟨b, i, none⟩) (n + 1 - i) (cap - i)) (by simp [Act.eval, Act.put]) (by simp [Act.eval, Act.put]) (HP1.out 3 (cap - (i + 1)) (cap - i)) ?_)
 go_wp2_with fail
 rw [HP2.out]
 go_wp2
 go_ret
 exact ⟨rfl, HB.out⟩
theorem insert_grow (b n cap i k : Nat) (cs rest : List Value) (x : Value) (w : World) (hcl : cs.length = n) (hn : n ≤ 4096) (hin : i < n) (hnc : n ≤ cap) (hroom : cap < n + 1) (_hcap : cap ≤ n + rest.length)
  (hb : Blk w b (cs ++ rest) 118) (hx : x.oneCell' = true) (h1 : ∀ u ∈ cs, u.oneCell' = true) (tk : TypeId) (hk : Blk w k [x] tk) (_hkb : k ≠ b) :
  Calls Tryz.prog 58 #[.slice (some ⟨b, 0, none⟩) n cap, .int .i64 i, .slice (some ⟨k, 0, none⟩) 1 1] w fun e w' => ∃ G rest', e = .returned (.slice (some ⟨w.heap.size, 0, none⟩) (n + 1) G) ∧ n + 1 ≤ G ∧ G ≤ maxLen ∧ G = n + 1 + rest'.length ∧
   Blk w' w.heap.size (cs.take i ++ x :: cs.drop i ++ rest') 118 ∧ Touch [] w w' := by
 have hsz := size_of_info info79
 obtain ⟨i0, hi0, hz0, hzs, hzb⟩ := info_of info79
 have hold : (Builtin.firstCells i0.size i (.slice (some ⟨b, 0, none⟩) i cap)).run Tryz.prog w.drew = .ok (cs.take i).toArray w.drew := by
  rw [hzs]
  exact run_firstCells_some w.drew 1 i ⟨b, 0, none⟩ i cap (cs.take i) (by rw [List.length_take]; omega) (fun j v hj => by
   rw [Addr.add_lit, Nat.zero_add]
   have hj2 := (List.getElem?_eq_some_iff.1 hj).1
   rw [List.length_take] at hj2
   rw [List.getElem?_take, if_pos (by omega)] at hj
   exact hb.drew.cell (by rw [List.getElem?_append_left (by omega)]; exact hj))
 have hkk : (n : Int) + 1 - (i : Int) = ((n + 1 - i : Nat) : Int) := by omega
 have hik : i + (n + 1 - i) = n + 1 := by omega
 have hrz : ∀ ty, (Builtin.append_ #[77, 3] ty #[.slice (some ⟨b, 0, none⟩) i cap, .int .i64 ((n : Int) + 1 - (i : Int))]).run Tryz.prog w =
   .ok (.slice (some ⟨w.heap.size, 0, none⟩) (n + 1) (grownCap w (n + 1) cap 118)) (w.drew.alloc (.cells ((cs.take i).toArray ++ Builtin.zeroCells (Value.pointer none).cells (n + 1 - i) ++ Builtin.zeroCells (Value.pointer none).cells (grownCap w (n + 1) cap 118 - (n + 1))) 118)) := fun ty => by
  have h := Lib.run_append_grow_zeros w 77 3 ty 118 i0 _ .i64 .i64 Tryz.underlying77 Tryz.underlying3 hi0 hz0 (some ⟨b, 0, none⟩) i cap (cs.take i) hold (n + 1 - i) (by omega) (by omega) (by omega) (by omega) (by rw [hzb]; omega) (by rw [hzb, hik]; exact growslice_fits hroom (by omega))
  rw [hik] at h
  rw [hkk]
  exact h
 have hGn := grownCap_ge w (n + 1) cap 118
 have hGm := grownCap_le_maxLen w (n + 1) cap 118 (by unfold maxLen; omega)
 generalize grownCap w (n + 1) cap 118 = G at hrz hGn hGm
 have hz : ∀ m, (Builtin.zeroCells (Value.pointer none).cells m).toList = List.replicate m (.pointer none) := fun m => by
  apply List.ext_getElem
  ·simp [Builtin.zeroCells, Value.cells]
  ·intro j h1 h2
   simp [Builtin.zeroCells, Value.cells, Nat.mod_one]
 have hbN := Blk.newA w.drew ((cs.take i).toArray ++ Builtin.zeroCells (Value.pointer none).cells (n + 1 - i) ++ Builtin.zeroCells (Value.pointer none).cells (G - (n + 1))) _ 118 rfl
 simp only [Array.toList_append, hz] at hbN
 have hb1 := hb.drew.alloc (.cells ((cs.take i).toArray ++ Builtin.zeroCells (Value.pointer none).cells (n + 1 - i) ++ Builtin.zeroCells (Value.pointer none).cells (G - (n + 1))) 118)
 have hk1 := hk.drew.alloc (.cells ((cs.take i).toArray ++ Builtin.zeroCells (Value.pointer none).cells (n + 1 - i) ++ Builtin.zeroCells (Value.pointer none).cells (G - (n + 1))) 118)
 have ht1 : Touch [] w _ := (Touch.refl _ w).drew.alloc (.cells ((cs.take i).toArray ++ Builtin.zeroCells (Value.pointer none).cells (n + 1 - i) ++ Builtin.zeroCells (Value.pointer none).cells (G - (n + 1))) 118)
 generalize w.drew.alloc (.cells ((cs.take i).toArray ++ Builtin.zeroCells (Value.pointer none).cells (n + 1 - i) ++ Builtin.zeroCells (Value.pointer none).cells (G - (n + 1))) 118) = W1 at hrz hbN hb1 hk1 ht1
 rw [show w.drew.heap.size = w.heap.size from rfl] at hbN
 have hbw := hb.lt
 have hkw := hk.lt
 generalize hN : w.heap.size = N at *
 -- copy(s2[i:], v)
 have hcpA : ∀ ty dc, (Builtin.copy_ #[77, 77] ty #[.slice (some ⟨N, i, none⟩) (n + 1 - i) dc, .slice (some ⟨k, 0, none⟩) 1 1]).run Tryz.prog W1 = _ := fun ty dc =>
  run_copy_blk W1 77 77 ty 118 Tryz.underlying77 hsz N i _ _ ⟨k, 0, none⟩ _ _ _ 118 [x] hbN (by simp only [Nat.min_def, List.length_singleton]; split <;> omega) (fun j v hj => by
   have : j = 0 := by have := (List.getElem?_eq_some_iff.1 hj).1; simp at this; exact this
   subst this
   exact hk1.cell hj) (by simp; omega) (fun v hv => by simp at hv; subst hv; exact hx)
 have e1 : (cs.take i).length = i := by simp; omega
 have hA : (cs.take i ++ List.replicate (n + 1 - i) (Value.pointer none) ++ List.replicate (G - (n + 1)) (Value.pointer none)).take i ++ [x] ++ (cs.take i ++ List.replicate (n + 1 - i) (Value.pointer none) ++ List.replicate (G - (n + 1)) (Value.pointer none)).drop (i + [x].length) =
   cs.take i ++ [x] ++ List.replicate (G - (i + 1)) (Value.pointer none) := by
  rw [List.append_assoc (cs.take i), List.replicate_append_replicate, List.take_append_of_le_length (l₁ := cs.take i) (by omega), List.take_take, Nat.min_self, List.drop_append, List.drop_eq_nil_of_le (by simp; omega), List.drop_replicate, e1]
  simp
  omega
 rw [hA] at hcpA
 have hbA := hbN.setRow (cs.take i ++ [x] ++ List.replicate (G - (i + 1)) (Value.pointer none))
 have hb2 := hb1.setRow_other N (cs.take i ++ [x] ++ List.replicate (G - (i + 1)) (Value.pointer none)).toArray (by omega)
 have ht2 := ht1.setRow N (cs.take i ++ [x] ++ List.replicate (G - (i + 1)) (Value.pointer none)).toArray (Or.inr (by omega))
 generalize W1.setRow N (cs.take i ++ [x] ++ List.replicate (G - (i + 1)) (Value.pointer none)).toArray = W2 at hcpA hbA hb2 ht2
 have hdl : (cs.drop i).length = n - i := by rw [List.length_drop, hcl]
 have hcpB : ∀ ty dc sc, (Builtin.copy_ #[77, 77] ty #[.slice (some ⟨N, i + 1, none⟩) (n - i) dc, .slice (some ⟨b, i, none⟩) (n - i) sc]).run Tryz.prog W2.drew = _ := fun ty dc sc =>
  run_copy_blk W2.drew 77 77 ty 118 Tryz.underlying77 hsz N (i + 1) _ _ ⟨b, i, none⟩ _ _ _ 118 (cs.drop i) hbA.drew (by rw [hdl]; simp only [Nat.min_def]; split <;> omega) (fun j v hj => by
   rw [Addr.add_lit]
   rw [List.getElem?_drop] at hj
   exact hb2.drew.cell (by rw [List.getElem?_append_left (List.getElem?_eq_some_iff.1 hj).1]; exact hj)) (by simp; omega) (fun v hv => h1 v (List.mem_of_mem_drop hv))
 have e2 : (cs.take i ++ [x]).length = i + 1 := by simp; omega
 have hB : (cs.take i ++ [x] ++ List.replicate (G - (i + 1)) (Value.pointer none)).take (i + 1) ++ cs.drop i ++ (cs.take i ++ [x] ++ List.replicate (G - (i + 1)) (Value.pointer none)).drop (i + 1 + (cs.drop i).length) =
   cs.take i ++ x :: cs.drop i ++ List.replicate (G - (n + 1)) (Value.pointer none) := by
  rw [List.take_append_of_le_length (by omega), List.take_of_length_le (l := cs.take i ++ [x]) (by omega), List.drop_append, List.drop_eq_nil_of_le (show (cs.take i ++ [x]).length ≤ i + 1 + (cs.drop i).length by omega), List.drop_replicate, e2, hdl, Nat.add_sub_cancel_left, show G - (i + 1) - (n - i) = G - (n + 1) by omega]
  simp
 rw [hB] at hcpB
 have hbB := hbA.drew.setRow (cs.take i ++ x :: cs.drop i ++ List.replicate (G - (n + 1)) (Value.pointer none))
 have ht3 := ht2.drew.setRow N (cs.take i ++ x :: cs.drop i ++ List.replicate (G - (n + 1)) (Value.pointer none)).toArray (Or.inr (by omega))
 generalize W2.drew.setRow N (cs.take i ++ x :: cs.drop i ++ List.replicate (G - (n + 1)) (Value.pointer none)).toArray = W3 at hcpB hbB ht3
 have HB : Hid (Blk W3 N (cs.take i ++ x :: cs.drop i ++ List.replicate (G - (n + 1)) (Value.pointer none)) 118 ∧ Touch [] w W3) := ⟨hbB, ht3⟩
 have HZ := id (show Hid _ from hrz)
 have HA := id (show Hid _ from hcpA)
 have HP := id (show Hid _ from hcpB)
 clear hrz hcpA hcpB hbB ht3 hA hB e1 e2 hdl hbA hb2 ht2 hb1 hk1 ht1 hbN hz hkk hik hold
 unfold maxLen at hGm
 have hw1 : IntKind.i64.wrap ((i : Int) + 1) = (i : Int) + 1 := by rw [IntKind.wrap_i64]; omega
 have q1 : (0 : Int) ≤ (i : Int) + 1 := by omega
 have q2 : (i : Int) + 1 ≤ (n : Int) + 1 := by omega
 have q3 : ((i : Int) + 1).toNat = i + 1 := by omega
 have q5 : ¬ (cap = i) := by omega
 have q6 : (i : Int) ≤ (n : Int) := by omega
 have q7 : ¬ (G = i + 1) := by omega
 have q8 : ¬ (G = i) := by omega
 have q9 : ¬ ((i : Int) = n) := by omega
 go_enter Tryz.func58, Tryz.ntmps58
 go_wp2_with (at_builtin; refine Lib.wpList_append_run _ rfl _ _ _ _ rfl _ _ rfl rfl _ _ (HZ.out _) ?_)
 rw [HA.out]
 go_wp2_with fail
 go_region_law (refine step_copy_known rfl _ _ 77 77 rfl (.slice (some ⟨N, i + 1, none⟩) (n - i) (G - (i + 1))) (.slice (some ⟨b, i, none⟩) (n - i) (cap - i)) (by simp [Act.eval, Act.put]) (by simp [Act.eval, Act.put]) (HP.out 3 (G - (i + 1)) (cap - i)) ?_)
 go_wp2
 go_ret
 exact ⟨G, _, rfl, by omega, by unfold maxLen; omega, by simp; omega, HB.out⟩
theorem insert_any (g : Option Nat) (n cap i k : Nat) (cs : List Value) (x : Value) (w : World) (h : RowAt w 118 1 g n cap cs) (hn : n ≤ 4096) (hi : i ≤ n) (hx : x.oneCell' = true) (h1 : ∀ u ∈ cs, u.oneCell' = true) (tk : TypeId)
  (hk : Blk w k [x] tk) (hkg : ∀ b, g = some b → k ≠ b) :
  Calls Tryz.prog 58 #[slV g n cap, .int .i64 i, .slice (some ⟨k, 0, none⟩) 1 1] w fun e w' => ∃ g' cap', e = .returned (slV g' (n + 1) cap') ∧ RowAt w' 118 1 g' (n + 1) cap' (cs.take i ++ x :: cs.drop i) ∧ Touch g.toList w w' ∧
   (g' = g ∨ g' = some w.heap.size) ∧ (g' = some w.heap.size → w.heap.size < w'.heap.size) := by
 have hcl : cs.length = n := by have := h.1; omega
 by_cases hin : i = n
 ·subst hin
  rw [← hcl, List.take_length, List.drop_length, hcl]
  exact insert_end g i cap k cs x w h hn hx tk hk
 ·cases g with
  | none =>
   have : cap = 0 := h.2.2.2
   have := h.2.1
   omega
  | some b =>
   obtain ⟨h2, h3, h4, rest, hb, hc⟩ := h
   rw [List.length_append, hcl] at hc
   by_cases hroom : n + 1 ≤ cap
   ·refine (insert_shift b n cap i k cs rest x w hcl hn (by omega) hroom (by omega) h4 hb hx h1 tk hk (hkg b rfl)).mono ?_
    rintro e w' ⟨rfl, hb', ht⟩
    have hlt := hb.lt
    refine ⟨some b, cap, rfl, ⟨by simp; omega, hroom, h4, rest.drop 1, hb', by simp; omega⟩, ht, Or.inl rfl, fun e => by injection e with e; omega⟩
   ·refine (insert_grow b n cap i k cs rest x w hcl hn (by omega) h3 (by omega) (by omega) hb hx h1 tk hk (hkg b rfl)).mono ?_
    rintro e w' ⟨G, rest', rfl, hG1, hG2, hG3, hb', ht⟩
    refine ⟨some w.heap.size, G, rfl, ⟨by simp; omega, hG1, hG2, rest', hb', by simp; omega⟩, ht.nil, Or.inr rfl, fun _ => hb'.lt⟩
end Go.Proofs.YtmhhahmjkopjhaaGreat.Mem
end
section
namespace Go.Proofs.YtmhhahmjkopjhaaGreat.Mem
open Go.RowKit
def addE (rs : List Reg) (base size perm : Int) : Int := if mayBeB base size perm = false then 2 else if busyB rs base size = true then 12 else if 4096 ≤ rs.length then 13 else 0
def Own (w : World) (s s' : MS) : Prop := s'.m = s.m ∧ ∀ x ∈ s'.blocks, x ∈ s.blocks ∨ w.heap.size ≤ x
theorem Own.refl (w : World) (s : MS) : Own w s s := ⟨rfl, fun _ hx => Or.inl hx⟩
structure NewReg (r : Reg) (id base size perm : Int) : Prop where
 hid : r.id = id
 hbase : r.base = base
 hperm : r.perm = perm
 hbytes : r.bytes = List.replicate size.toNat 0
 hset : r.set = if perm < 4 then [] else List.replicate size.toNat false
def AddPost (w : World) (s : MS) (base size perm : Int) (e : Ending) (w' : World) : Prop :=
 e = .returned (.tuple #[.int .i64 (if addE s.rs base size perm = 0 then s.next else 0), .int .i64 (addE s.rs base size perm)]) ∧ Touch s.blocks w w' ∧ ∃ s', MemAt w' s' ∧ Own w s s' ∧
  (addE s.rs base size perm ≠ 0 → s' = s) ∧
  (addE s.rs base size perm = 0 → s'.next = s.next + 1 ∧ ∃ i r, i ≤ s.rs.length ∧ s'.rs = s.rs.take i ++ r :: s.rs.drop i ∧ NewReg r s.next base size perm)
theorem AddPost.err {w w' : World} {s : MS} {base size perm : Int} {e : Ending} (h : MemAt w s) (ht : Touch [] w w') (he : addE s.rs base size perm ≠ 0)
  (hv : e = .returned (.tuple #[.int .i64 0, .int .i64 (addE s.rs base size perm)])) : AddPost w s base size perm e w' := by
 refine ⟨by rw [if_neg he]; exact hv, ht.nil, s, h.touch ht (by simp), Own.refl w s, fun _ => rfl, fun h0 => absurd h0 he⟩
theorem MemAt.added {w w' : World} {s : MS} (h : MemAt w s) {r : Reg} {i : Nat} {g' : Option Nat} {cap' : Nat} (hi : i ≤ s.rs.length) (hlen : s.rs.length < 4096)
  (hm : Blk w' s.m [slV g' (s.rs.length + 1) cap', .int .i64 ((s.next + 1 : Nat) : Int)] 79)
  (hrow : RowAt w' 118 1 g' (s.rs.length + 1) cap' ((s.rs.map Reg.ptr).take i ++ r.ptr :: (s.rs.map Reg.ptr).drop i))
  (hold : ∀ x ∈ s.rs, RegAt w' x) (hr : RegAt w' r) (hro : RegOk r) (hid : r.id = s.next)
  (hnew : ∀ x ∈ r.blocks, w.heap.size ≤ x) (hg : g' = s.g ∨ ∃ b, g' = some b ∧ w.heap.size ≤ b ∧ b ∉ r.blocks)
  (hlo : ∀ j, j < i → (s.rs.getD j Reg.zero).base ≤ r.base) (hhi : ∀ j, i ≤ j → j < s.rs.length → r.base < (s.rs.getD j Reg.zero).base) (hbusy : busyB s.rs r.base r.bytes.length = false) :
  MemAt w' ⟨s.m, g', cap', s.rs.take i ++ r :: s.rs.drop i, s.next + 1⟩ := by
 have hlt := h.lt
 have hl : (s.rs.take i ++ r :: s.rs.drop i).length = s.rs.length + 1 := by simp; omega
 have hmem : ∀ x, x ∈ s.rs.take i ++ r :: s.rs.drop i ↔ x = r ∨ x ∈ s.rs := by
  intro x
  rw [List.mem_append, List.mem_cons]
  constructor
  ·rintro (hx | rfl | hx)
   ·exact Or.inr (List.mem_of_mem_take hx)
   ·exact Or.inl rfl
   ·exact Or.inr (List.mem_of_mem_drop hx)
  ·rintro (rfl | hx)
   ·exact Or.inr (Or.inl rfl)
   ·rw [← List.take_append_drop i s.rs, List.mem_append] at hx
    rcases hx with hx | hx
    ·exact Or.inl hx
    ·exact Or.inr (Or.inr hx)
 have hnb : ∀ x ∈ s.rs, ¬ (x.base < r.base + (r.bytes.length : Int) ∧ r.base < x.base + (x.bytes.length : Int)) := by
  intro x hx
  unfold busyB at hbusy
  rw [List.any_eq_false] at hbusy
  simpa using hbusy x hx
 have htake : ∀ x ∈ s.rs.take i, x.base ≤ r.base := by
  intro x hx
  obtain ⟨j, hj, rfl⟩ := List.getElem_of_mem hx
  rw [List.length_take] at hj
  have := hlo j (by omega)
  rw [List.getD_eq_getElem?_getD, List.getElem?_eq_getElem (by omega)] at this
  simpa using this
 have hdrop : ∀ x ∈ s.rs.drop i, r.base < x.base := by
  intro x hx
  obtain ⟨j, hj, rfl⟩ := List.getElem_of_mem hx
  rw [List.length_drop] at hj
  have := hhi (i + j) (by omega) (by omega)
  rw [List.getD_eq_getElem?_getD, List.getElem?_eq_getElem (by omega)] at this
  simpa using this
 refine ⟨?_, ?_, ?_, ?_, ?_, ?_, ?_, ?_, ?_⟩
 ·rw [hl]; exact hm
 ·rw [hl]
  simpa [List.map_append, List.map_take, List.map_drop] using hrow
 ·intro x hx
  rcases (hmem x).1 hx with rfl | hx
  ·exact hr
  ·exact hold x hx
 ·intro x hx
  rcases (hmem x).1 hx with rfl | hx
  ·exact hro
  ·exact h.ok x hx
 ·have hap := h.apart
  have hperm : (s.rs.take i ++ r :: s.rs.drop i).flatMap Reg.blocks |>.Perm (r.blocks ++ s.rs.flatMap Reg.blocks) := by
   have : (s.rs.take i ++ r :: s.rs.drop i).Perm (r :: s.rs) := by
    refine (List.perm_middle).trans ?_
    rw [List.take_append_drop]
   refine (this.flatMap_right _).trans ?_
   rw [List.flatMap_cons]
  have hnd : (s.m :: (g'.toList ++ (r.blocks ++ s.rs.flatMap Reg.blocks))).Nodup := by
   simp only [MS.blocks, List.cons_append, List.nodup_cons, List.nodup_append, List.mem_append] at hap ⊢
   obtain ⟨h1, h2, h3, h4⟩ := hap
   have hmlt := hlt s.m s.mem_m
   have hold2 : ∀ x ∈ s.rs.flatMap Reg.blocks, x < w.heap.size := by
    intro x hx
    obtain ⟨y, hy, hx⟩ := List.mem_flatMap.1 hx
    exact hlt x (s.mem_r hy hx)
   refine ⟨?_, ?_, ⟨hro.own, h3, ?_⟩, ?_⟩
   ·rintro (hx | hx | hx)
    ·rcases hg with rfl | ⟨b, rfl, hb, _⟩
     ·exact h1 (Or.inl hx)
     ·simp at hx; omega
    ·have := hnew _ hx; omega
    ·exact h1 (Or.inr hx)
   ·cases g' <;> simp
   ·intro a ha b hb hab
    have h5 := hnew a ha
    have h6 := hold2 b hb
    omega
   ·intro a ha b hb hab
    subst hab
    rcases hg with rfl | ⟨b, rfl, hbb, hbr⟩
    ·rcases hb with hb | hb
     ·have h5 := hnew a hb
      have h6 := hlt a (s.mem_g (by simpa using ha))
      omega
     ·exact h4 a ha a hb rfl
    ·simp at ha
     subst ha
     rcases hb with hb | hb
     ·exact hbr hb
     ·have := hold2 _ hb; omega
  show (s.m :: g'.toList ++ (s.rs.take i ++ r :: s.rs.drop i).flatMap Reg.blocks).Nodup
  rw [List.cons_append]
  exact ((List.Perm.append_left _ hperm).cons _).nodup_iff.2 hnd
 ·have hsrt := h.sorted
  rw [← List.take_append_drop i s.rs, List.pairwise_append] at hsrt
  rw [List.pairwise_append, List.pairwise_cons]
  refine ⟨hsrt.1, ⟨fun x hx => ?_, hsrt.2.1⟩, fun x hx y hy => ?_⟩
  ·have h1 := hdrop x hx
   have h2 := hnb x (List.mem_of_mem_drop hx)
   have h3 := (h.ok x (List.mem_of_mem_drop hx)).size1
   omega
  ·rcases List.mem_cons.1 hy with rfl | hy
   ·have h1 := htake x hx
    have h2 := hnb x (List.mem_of_mem_take hx)
    have h3 := hro.size1
    omega
   ·exact hsrt.2.2 x hx y hy
 ·have hids := h.ids
  rw [← List.take_append_drop i s.rs, List.pairwise_append] at hids
  rw [List.pairwise_append, List.pairwise_cons]
  refine ⟨hids.1, ⟨fun x hx => ?_, hids.2.1⟩, fun x hx y hy => ?_⟩
  ·have := (h.idlt x (List.mem_of_mem_drop hx)).2
   rw [hid]; omega
  ·rcases List.mem_cons.1 hy with rfl | hy
   ·have := (h.idlt x (List.mem_of_mem_take hx)).2
    rw [hid]; omega
   ·exact hids.2.2 x hx y hy
 ·intro x hx
  rcases (hmem x).1 hx with rfl | hx
  ·rw [hid]; exact ⟨by omega, by show (s.next : Int) < ((s.next + 1 : Nat) : Int); omega⟩
  ·have := h.idlt x hx
   exact ⟨this.1, by show x.id < ((s.next + 1 : Nat) : Int); omega⟩
 ·show (s.rs.take i ++ r :: s.rs.drop i).length ≤ 4096
  omega
theorem add_any {w : World} {s : MS} (h : MemAt w s) (base size perm : Int) (hb0 : 0 ≤ base) (hb1 : base ≤ 18446744073709551615) (hnext : s.next < 4611686018427387904) :
  Calls Tryz.prog 29 #[.pointer (some ⟨s.m, 0, none⟩), .int .u64 base, .int .i64 size, .int .i64 perm] w (AddPost w s base size perm) := by
 have hmany := h.many
 cases hmb : mayBeB base size perm with
 | false =>
  have he : addE s.rs base size perm = 2 := by unfold addE; rw [if_pos hmb]
  have HF : Hid (AddPost w s base size perm (.returned (.tuple #[.int .i64 0, .int .i64 2])) w) := AddPost.err h (Touch.refl _ w) (by rw [he]; decide) (by rw [he])
  have HM := toHid hmb
  clear h he hmb
  go_enter Tryz.func29, Tryz.ntmps29
  go_wp2_with (go_at_call 54; refine (mayBe_any base size perm _ hb0 hb1).mono ?_; rintro e w ⟨rfl, rfl⟩; rw [HM.out])
  go_ret2
  exact HF.out
 | true =>
  have hb := of_decide_eq_true hmb
  obtain ⟨z, rfl⟩ : ∃ z : Nat, size = z := ⟨size.toNat, by omega⟩
  have HM := toHid hmb
  have hc0 := h.c0
  have hc1 := h.c1
  cases hbusy : busyB s.rs base z with
  | true =>
   have he : addE s.rs base z perm = 12 := by unfold addE; rw [if_neg (by rw [hmb]; decide), if_pos hbusy]
   have HF : ∀ k, Hid (AddPost w s base z perm (.returned (.tuple #[.int .i64 0, .int .i64 12])) (w.drewN k)) := fun k => AddPost.err h ((Touch.refl _ w).drewN k) (by rw [he]; decide) (by rw [he])
   have HB := toHid hbusy
   have HMem := toHid h
   clear h he hmb hbusy
   go_enter Tryz.func29, Tryz.ntmps29
   go_wp2_with (go_at_call 54; refine (mayBe_any base z perm _ hb0 hb1).mono ?_; rintro e w ⟨rfl, rfl⟩; rw [HM.out])
   refine (behind_any HMem.out base).mono ?_
   rintro e w' ⟨⟨i, hi, rfl, hlo, hhi⟩, k, rfl⟩
   have HT := toHid (taken_any (HMem.out.touch ((Touch.refl [] w).drewN k) (by simp)) i z base hb0 (by omega) (by omega) (by omega) hi hlo hhi)
   clear hlo hhi
   go_wp2_with (go_at_call 56; refine HT.out.mono ?_; rintro e w' ⟨rfl, k2, rfl⟩; rw [HB.out])
   go_ret2
   exact (HF _).out
  | false =>
   by_cases hlen : 4096 ≤ s.rs.length
   ·have he : addE s.rs base z perm = 13 := by unfold addE; rw [if_neg (by rw [hmb]; decide), if_neg (by rw [hbusy]; decide), if_pos hlen]
    have HF : ∀ k, Hid (AddPost w s base z perm (.returned (.tuple #[.int .i64 0, .int .i64 13])) (w.drewN k)) := fun k => AddPost.err h ((Touch.refl _ w).drewN k) (by rw [he]; decide) (by rw [he])
    have HB := toHid hbusy
    have HMem := toHid h
    have hl : (4096 : Int) ≤ s.rs.length := by omega
    simp only [slV] at hc0
    clear h he hmb hbusy
    go_enter Tryz.func29, Tryz.ntmps29
    go_wp2_with (go_at_call 54; refine (mayBe_any base z perm _ hb0 hb1).mono ?_; rintro e w ⟨rfl, rfl⟩; rw [HM.out])
    refine (behind_any HMem.out base).mono ?_
    rintro e w' ⟨⟨i, hi, rfl, hlo, hhi⟩, k, rfl⟩
    have HT := toHid (taken_any (HMem.out.touch ((Touch.refl [] w).drewN k) (by simp)) i z base hb0 (by omega) (by omega) (by omega) hi hlo hhi)
    clear hlo hhi
    go_wp2_with (go_at_call 56; refine HT.out.mono ?_; rintro e w' ⟨rfl, k2, rfl⟩; rw [HB.out])
    go_ret2
    exact (HF _).out
   ·have he : addE s.rs base z perm = 0 := by unfold addE; rw [if_neg (by rw [hmb]; decide), if_neg (by rw [hbusy]; decide), if_neg hlen]
    have HB := toHid hbusy
    have HMem := toHid h
    have HE := toHid he
    simp only [slV] at hc0
    clear h he hmb hbusy
    go_enter Tryz.func29, Tryz.ntmps29
    go_wp2_with (go_at_call 54; refine (mayBe_any base z perm _ hb0 hb1).mono ?_; rintro e w ⟨rfl, rfl⟩; rw [HM.out])
    refine (behind_any HMem.out base).mono ?_
    rintro e w' ⟨⟨i, hi, rfl, hlo, hhi⟩, k, rfl⟩
    have HT := toHid (taken_any (HMem.out.touch ((Touch.refl [] w).drewN k) (by simp)) i z base hb0 (by omega) (by omega) (by omega) hi hlo hhi)
    have HLO := toHid hlo
    have HHI := toHid hhi
    clear hlo hhi
    go_wp2_with (go_at_call 56; refine HT.out.mono ?_; rintro e w' ⟨rfl, k2, rfl⟩; rw [HB.out])
    have H1 := toHid (newRegion_any s.next base perm z (w.drewN (k + k2)) (by omega) (by omega) (by omega) (by omega) hb0 (by omega))
    refine H1.out.mono ?_
    rintro e w1 ⟨r, rfl, hrA, hrO, hrid, hrb, hrp, hrby, hrs, ht1, hrn⟩
    clear H1 HT hc0 hc1
    have hM1 : MemAt w1 s := HMem.out.touch (((Touch.refl [] w).drewN (k + k2)).trans ht1 (by simp)) (by simp)
    have hc0 := hM1.c0
    simp only [slV] at hc0
    -- the variadic argument's own block
    have hk := Blk.newA w1 #[r.ptr] [r.ptr] 118 rfl
    have ht2 : Touch [] w1 (w1.alloc (.cells #[r.ptr] 118)) := (Touch.refl _ w1).alloc _
    have hM2 := hM1.touch ht2 (by simp)
    have H2 := toHid (insert_any s.g s.rs.length s.cap i w1.heap.size (s.rs.map Reg.ptr) r.ptr (w1.alloc (.cells #[r.ptr] 118)) hM2.row hmany hi rfl (fun u hu => by obtain ⟨x, _, rfl⟩ := List.mem_map.1 hu; rfl) 118 hk (fun b hb => by have := hM1.lt b (s.mem_g hb); omega))
    unfold Reg.ptr at H2 ⊢
    go_wp2_with fail
    refine H2.out.mono ?_
    rintro e w3 ⟨g', cap', rfl, hrow, ht3, hg', hg2⟩
    have hlt1 := hM1.lt
    have hmg : s.m ∉ s.g.toList := by
     have := hM1.apart
     simp only [MS.blocks, List.cons_append, List.nodup_cons, List.mem_append] at this
     exact fun hh => this.1 (Or.inl hh)
    have hm3 := ht3.blk hM2.self hmg
    have e0 : w3.cell? ⟨s.m, 0, none⟩ = some _ := hm3.cell rfl
    have e1 : w3.cell? ⟨s.m, 1, none⟩ = some _ := hm3.cell rfl
    have f0 := hm3.frozen 0
    have f1 := hm3.frozen 1
    have hrg : ∀ x ∈ r.blocks, x ∉ s.g.toList := fun x hx hh => by
     have h5 := hrn x hx
     have h6 := HMem.out.lt x (s.mem_g (by simpa using hh))
     simp at h5
     omega
    have hrA3 : RegAt w3 r := (hrA.touch ht2 (by simp)).touch ht3 hrg
    have r0 := hrA3.c0
    have hne : ¬ r.p = s.m := fun hh => by
     have h5 := hrn r.p r.mem_p
     have h6 := HMem.out.lt s.m s.mem_m
     simp at h5
     omega
    have hne2 : ¬ s.m = r.p := fun hh => hne hh.symm
    clear H2 hc0
    simp only [slV]
    go_wp2
    go_ret2
    show AddPost w s base z perm (.returned (.tuple #[.int .i64 s.next, .int .i64 0])) ((w3.setCell ⟨s.m, 0, none⟩ (slV g' (s.rs.length + 1) cap')).setCell ⟨s.m, 1, none⟩ (.int .i64 ((s.next : Int) + 1)))
    have hm4 := (hm3.setCell 0 (slV g' (s.rs.length + 1) cap')).setCell 1 (.int .i64 ((s.next : Int) + 1))
    have ht34 : Touch [s.m] w3 ((w3.setCell ⟨s.m, 0, none⟩ (slV g' (s.rs.length + 1) cap')).setCell ⟨s.m, 1, none⟩ (.int .i64 ((s.next : Int) + 1))) :=
     ((Touch.refl _ w3).setCell _ _ (Or.inl (by simp))).setCell _ _ (Or.inl (by simp))
    generalize (w3.setCell ⟨s.m, 0, none⟩ (slV g' (s.rs.length + 1) cap')).setCell ⟨s.m, 1, none⟩ (.int .i64 ((s.next : Int) + 1)) = W4 at hm4 ht34
    clear e0 e1 f0 f1 r0
    have hsz1 : w.heap.size ≤ w1.heap.size := by simpa using ht1.size
    have hmw : s.m < w.heap.size := HMem.out.lt s.m s.mem_m
    have hap := HMem.out.apart
    simp only [MS.blocks, List.cons_append, List.nodup_cons, List.mem_append, List.nodup_append] at hap
    have hrm : ∀ x ∈ r.blocks, x ∉ [s.m] := fun x hx hh => by
     have h5 := hrn x hx
     simp at hh h5
     omega
    have hg4 : ∀ b, g' = some b → b ∉ [s.m] := fun b hb hh => by
     simp at hh
     subst hh
     rcases hg' with rfl | rfl
     ·exact hmg (by simp [hb])
     ·injection hb with hb
      simp at hb
      omega
    have hrA4 : RegAt W4 r := hrA3.touch ht34 hrm
    have hold : ∀ x ∈ s.rs, RegAt W4 x := fun x hx => by
     refine ((hM2.regs x hx).touch ht3 (fun y hy hh => ?_)).touch ht34 (fun y hy hh => ?_)
     ·exact hap.2.2.2 y hh y (List.mem_flatMap.2 ⟨x, hx, hy⟩) rfl
     ·simp at hh
      subst hh
      exact hap.1 (Or.inr (List.mem_flatMap.2 ⟨x, hx, hy⟩))
    have hg5 : g' = s.g ∨ ∃ b, g' = some b ∧ w.heap.size ≤ b ∧ b ∉ r.blocks := by
     rcases hg' with hh | hh
     ·exact Or.inl hh
     ·refine Or.inr ⟨_, hh, by simp; omega, fun hx => ?_⟩
      have := hrA.lt _ hx
      simp at this
      omega
    have hadd : MemAt W4 ⟨s.m, g', cap', s.rs.take i ++ r :: s.rs.drop i, s.next + 1⟩ := MemAt.added HMem.out hi (by omega) hm4 (hrow.touch ht34 hg4) hold hrA4 hrO hrid
     (fun x hx => by simpa using hrn x hx) hg5 (by rw [hrb]; exact HLO.out) (by rw [hrb]; exact HHI.out) (by rw [hrb, hrby]; simpa using HB.out)
    have ht4 : Touch s.blocks w W4 := by
     refine Touch.trans (b := w3) ?_ ht34 (fun x hx => Or.inl ?_)
     ·refine Touch.trans (b := w1.alloc (.cells #[r.ptr] 118)) ?_ ht3 (fun x hx => Or.inl (s.mem_g (by simpa using hx)))
      exact ((((Touch.refl [] w).drewN (k + k2)).trans ht1 (by simp)).trans ht2 (by simp)).nil
     ·simp at hx
      rw [hx]
      exact s.mem_m
    refine ⟨by rw [HE.out]; rfl, ht4, _, hadd, ⟨rfl, fun x hx => ?_⟩, fun hh => absurd HE.out hh, fun _ => ⟨rfl, i, r, hi, rfl, ⟨hrid, hrb, hrp, by rw [hrby]; simp, by rw [hrs]; simp⟩⟩⟩
    simp only [MS.blocks, List.cons_append, List.mem_cons, List.mem_append, List.mem_flatMap] at hx ⊢
    rcases hx with hx | hx | ⟨y, (hy | rfl | hy), hx⟩
    ·exact Or.inl (Or.inl hx)
    ·rcases hg5 with rfl | ⟨b, rfl, hb, _⟩
     ·exact Or.inl (Or.inr (Or.inl hx))
     ·simp at hx
      subst hx
      exact Or.inr hb
    ·exact Or.inl (Or.inr (Or.inr ⟨y, List.mem_of_mem_take hy, hx⟩))
    ·exact Or.inr (by simpa using hrn x hx)
    ·exact Or.inl (Or.inr (Or.inr ⟨y, List.mem_of_mem_drop hy, hx⟩))
end Go.Proofs.YtmhhahmjkopjhaaGreat.Mem
end
section
namespace Go.Proofs.YtmhhahmjkopjhaaGreat.Mem
open Go.RowKit
theorem count_any {w : World} {s : MS} (h : MemAt w s) : Calls Tryz.prog 9 #[.pointer (some ⟨s.m, 0, none⟩)] w fun e w' => e = .returned (.int .i64 s.rs.length) ∧ w' = w := by
 have hc0 := h.c0
 simp only [slV] at hc0
 clear h
 go_enter Tryz.func9, Tryz.ntmps9
 go_wp2
 go_ret
 exact ⟨rfl, rfl⟩
theorem find_any {w : World} {s : MS} (h : MemAt w s) (addr : Int) (ha0 : 0 ≤ addr) (ha1 : addr ≤ 18446744073709551615) :
  Calls Tryz.prog 92 #[.pointer (some ⟨s.m, 0, none⟩), .int .u64 addr] w fun e w' => e = .returned (match findR s.rs addr with
   | none => .tuple #[.int .i64 0, .int .i64 0, .bool false]
   | some r => .tuple #[.int .i64 r.id, .int .i64 (addr - r.base), .bool true]) ∧ ∃ k, w' = w.drewN k := by
 have hH := holder_any h addr ha0 ha1
 cases hf : findR s.rs addr with
 | none =>
  rw [hf] at hH
  have HH := toHid hH
  clear hH h hf
  go_enter Tryz.func92, Tryz.ntmps92
  go_wp2_with (go_at_call 93; refine HH.out.mono ?_; rintro e w' ⟨rfl, k, rfl⟩; simp only [holderV])
  go_ret3
  exact ⟨rfl, _, rfl⟩
 | some r =>
  rw [hf] at hH
  have hc0 := (h.regs r (findR_mem hf).1).c0
  have HH := toHid hH
  clear hH h hf
  go_enter Tryz.func92, Tryz.ntmps92
  go_wp2_with (go_at_call 93; refine HH.out.mono ?_; rintro e w' ⟨rfl, k, rfl⟩; simp only [holderV])
  go_ret3
  exact ⟨rfl, _, rfl⟩
def idxR (rs : List Reg) (id : Int) : Int := match rs.findIdx? (fun r => r.id == id) with
 | some i => i
 | none => -1
end Go.Proofs.YtmhhahmjkopjhaaGreat.Mem
end
section
namespace Go.Proofs.YtmhhahmjkopjhaaGreat
open Go.RowKit
structure PBoth (w : World) (x : PT) (s : Mem.MS) : Prop where
 tab : PTAt w x
 mem : Mem.MemAt w s
 at_ : x.mem = s.m
 apart : ∀ b ∈ x.blocks, b ∉ s.blocks
theorem PBoth.still {w w' : World} {x : PT} {s : Mem.MS} (h : PBoth w x s) (ht : Touch [] w w') : PBoth w' x s := ⟨h.tab.still ht, h.mem.touch ht (by simp), h.at_, h.apart⟩
theorem PBoth.step {w w2 : World} {x x1 : PT} {s : Mem.MS} {qs : List PX} (h : PBoth w x s) (st : PStep w w2 x x1 qs) : PBoth w2 x1 s := by
 have hlt : ∀ b ∈ s.blocks, b < w.heap.size := h.mem.lt
 refine ⟨st.at_, h.mem.touch st.touch (fun b hb hx => h.apart b hx hb), by rw [st.mem]; exact h.at_, fun b hb hx => ?_⟩
 rcases st.blocks b hb with h1 | h1
 ·exact h.apart b h1 hx
 ·have := hlt b hx
  omega
theorem PBoth.over {w w2 : World} {x : PT} {s s' : Mem.MS} (h : PBoth w x s) (hm : Mem.MemAt w2 s') (hs : s'.m = s.m) (hb : ∀ b ∈ s'.blocks, b ∈ s.blocks ∨ w.heap.size ≤ b) (ht : Touch s.blocks w w2) : PBoth w2 x s' :=
 ⟨h.tab.touch ht (fun b hx => h.apart b hx), hm, by rw [hs]; exact h.at_, fun b hx hy => by
  rcases hb b hy with h1 | h1
  ·exact h.apart b hx h1
  ·have := h.tab.lt b hx
   omega⟩
theorem busy_find {rs : List Mem.Reg} {p n : Int} (h1 : ∀ r ∈ rs, 1 ≤ r.bytes.length) (hn : 1 ≤ n) : Mem.busyB rs p n = false ↔ ∀ j : Int, 0 ≤ j → j < n → Mem.findR rs (p + j) = none := by
 constructor
 ·intro hb j h0 hj
  refine Mem.findR_none fun r hr => ?_
  cases hh : Mem.hasB r (p + j) with
  | false => rfl
  | true =>
   unfold Mem.hasB at hh
   have := of_decide_eq_true hh
   rw [Mem.busy_of hr (by omega) (by omega)] at hb
   cases hb
 ·intro hf
  cases hb : Mem.busyB rs p n with
  | false => rfl
  | true =>
   unfold Mem.busyB at hb
   rw [List.any_eq_true] at hb
   obtain ⟨r, hr, hb⟩ := hb
   have hb := of_decide_eq_true hb
   have hl := h1 r hr
   have h9 := hf (if p ≤ r.base then r.base - p else 0) (by split <;> omega) (by split <;> omega)
   unfold Mem.findR at h9
   rw [List.find?_eq_none] at h9
   have h8 := h9 r hr
   unfold Mem.hasB at h8
   simp only [decide_eq_true_eq] at h8
   split at h8 <;> omega
theorem isFree_any {w : World} {x : PT} {s : Mem.MS} (h : PBoth w x s) (p : Int) (n : Nat) (p0 : 0 ≤ p) (n1 : 1 ≤ n) (n2 : n ≤ 64) (hp : p + n ≤ 18446744073709551616) :
  Calls Tryz.prog 77 #[.pointer (some ⟨x.t, 0, none⟩), .int .u64 p, .int .i64 (n : Int)] w fun e w' => e = .returned (.bool (!Mem.busyB s.rs p n)) ∧ ∃ k, w' = w.drewN k := by
 have HH := toHid h
 have hB := busy_find (rs := s.rs) (p := p) (n := n) (fun r hr => (h.mem.ok r hr).size1) (by omega)
 have HYes : Hid (∀ j : Nat, j < n → (Mem.findR s.rs (p + j)).isSome = true → Mem.busyB s.rs p n = true) := fun j hj hs => by
  cases hb : Mem.busyB s.rs p n with
  | true => rfl
  | false =>
   rw [hB.1 hb j (by omega) (by omega)] at hs
   cases hs
 have HNo : Hid ((∀ j : Nat, j < n → Mem.findR s.rs (p + j) = none) → Mem.busyB s.rs p n = false) := fun hf => hB.2 (fun j h0 hj => by
  have := hf j.toNat (by omega)
  rwa [Int.toNat_of_nonneg h0] at this)
 have c0 : ∀ k, (w.drewN k).cell? ⟨x.t, 0, none⟩ = some (.pointer (some ⟨s.m, 0, none⟩)) := fun k => by
  have := ((h.still ((Touch.refl [] w).drewN k)).tab).c0
  rwa [h.at_] at this
 clear h hB
 go_enter Tryz.func77, Tryz.ntmps77
 go_wp2_with fail
 go_loopw [12] (fun t w' => ∃ k : Nat, k ≤ n ∧ t = .int .i64 k ∧ (∃ q, w' = w.drewN q) ∧ Hid (∀ j : Nat, j < k → Mem.findR s.rs (p + j) = none)) (fun t _ => n - (intOf t).toNat)
 case atStart => exact ⟨0, by omega, rfl, ⟨0, rfl⟩, fun j hj => by omega⟩
 case round =>
  obtain ⟨k, hk, rfl, ⟨q, rfl⟩, HI⟩ := hrel
  by_cases hlt : k < n
  ·have w1 : IntKind.u64.wrap (k : Int) = k := by rw [IntKind.wrap_u64]; omega
   have w2 : IntKind.u64.wrap (p + (k : Int)) = p + k := by rw [IntKind.wrap_u64]; omega
   have H1 := toHid (fun d => Mem.find_any (HH.out.still ((Touch.refl [] w).drewN d)).mem (p + (k : Int)) (by omega) (by omega))
   have d0 := c0 q
   cases hf : Mem.findR s.rs (p + (k : Int)) with
   | none =>
    simp only [hf] at H1
    have HN : Hid (∀ j : Nat, j < k + 1 → Mem.findR s.rs (p + j) = none) := fun j hj => by
     by_cases e : j = k
     ·rw [e]; exact hf
     ·exact HI.out j (by omega)
    clear c0 hf HI
    go_wp2_with fail
    refine Calls.mono (H1.out _) ?_
    rintro e w' ⟨rfl, d, rfl⟩
    rw [World.drewN_drewN]
    clear d0
    go_wp2
    exact ⟨⟨k + 1, by omega, by go_num, ⟨_, rfl⟩, HN⟩, by simp [intOf]; omega⟩
   | some r =>
    simp only [hf] at H1
    have hv := toHid (HYes.out k hlt (by rw [hf]; rfl))
    clear c0 hf HI
    go_wp2_with fail
    refine Calls.mono (H1.out _) ?_
    rintro e w' ⟨rfl, d, rfl⟩
    rw [World.drewN_drewN]
    clear d0
    go_wp2
    go_ret
    exact ⟨by rw [hv.out]; rfl, _, rfl⟩
  ·obtain rfl : k = n := by omega
   have hv := toHid (HNo.out HI.out)
   clear c0
   go_wp2
   go_ret
   exact ⟨by rw [hv.out]; rfl, _, rfl⟩
def maxSum (ds : List MDef) : Int := (ds.map MDef.max).sum
theorem maxSum_snoc (ds : List MDef) (k : Nat) (d : MDef) (h : ds[k]? = some d) : maxSum (ds.take (k + 1)) = maxSum (ds.take k) + d.max := by
 unfold maxSum
 rw [List.take_add_one, h]
 simp
theorem maxSum_bd (ds : List MDef) (h : ∀ d ∈ ds, 0 ≤ d.max ∧ d.max ≤ 64) : 0 ≤ maxSum ds ∧ maxSum ds ≤ 64 * ds.length := by
 unfold maxSum
 induction ds with
 | nil => simp
 | cons d ds ih =>
  have h1 := h d (by simp)
  have h2 := ih (fun d' hd => h d' (by simp [hd]))
  simp only [List.map_cons, List.sum_cons, List.length_cons]
  omega
def FreeAll (ds : List MDef) (rs : List Mem.Reg) (n : Nat) : Prop := ∀ (i : Nat) (d : MDef), i < n → ds[i]? = some d → ∀ s : Nat, (s : Int) < d.max → Mem.busyB rs (plI i s) d.val = false
def BoxCells (m : PMap) : Array Value := #[.int .i64 m.d.kind, .int .i64 m.d.key, .int .i64 m.d.val, .int .i64 m.d.max, ixV m.d.kind m.X]
def roomOk (ds : List MDef) (rs : List Mem.Reg) : Prop := FreeAll ds rs ds.length ∧ (rs.length : Int) + maxSum ds ≤ 4096
theorem hasRoom_any {w : World} {x : PT} {s : Mem.MS} (h : PBoth w x s) (hmx : ∀ m ∈ x.maps, 1 ≤ m.d.max ∧ m.d.max ≤ 64) :
  Calls Tryz.prog 46 #[.pointer (some ⟨x.t, 0, none⟩)] w fun e w' => (∃ b, e = .returned (.bool b) ∧ (b = true ↔ roomOk x.ds s.rs)) ∧ Touch [] w w' := by
 have hz := (zero_of_info (P := Tryz.prog) zero89).1
 have hsz := (zero_of_info (P := Tryz.prog) zero89).2
 have H0 := toHid (Mem.count_any h.mem)
 have HH := toHid (And.intro h hmx)
 have hmany := h.tab.many
 have c0 := h.tab.c0
 have c1 := h.tab.c1
 rw [h.at_] at c0
 unfold slV at c1
 have hlen := h.mem.many
 have hds : x.ds.length = x.maps.length := by simp [PT.ds]
 have hbd : ∀ k, 0 ≤ maxSum (x.ds.take k) ∧ maxSum (x.ds.take k) ≤ 512 := fun k => by
  have h1 := maxSum_bd (x.ds.take k) (fun d hd => by
   obtain ⟨m, hm, rfl⟩ := List.mem_map.1 (List.mem_of_mem_take hd)
   have := hmx m hm
   omega)
  have h2 : (x.ds.take k).length ≤ 8 := by rw [List.length_take]; omega
  omega
 have HBD := toHid hbd
 have HDS := toHid hds
 generalize hsg : (x.g.map fun b => (⟨b, 0, none⟩ : Addr)) = sg at *
 have HG := toHid hsg
 generalize hL : x.maps.length = L at *
 have HL := toHid hL
 generalize hR : s.rs.length = R at *
 have HR := toHid hR
 clear h hmx hbd hds hsg hL hR
 go_enter Tryz.func46, Tryz.ntmps46
 go_wp2_with fail
 refine Calls.mono H0.out ?_
 rintro e w ⟨rfl, rfl⟩
 go_wp2_with fail
 go_loopw [3, 17] (fun c t w' => ∃ k : Nat, k ≤ L ∧ t = .int .i64 k ∧ c = .int .i64 (R + maxSum (x.ds.take k)) ∧ Hid (Touch [] w w' ∧ FreeAll x.ds s.rs k)) (fun _ t _ => L - (intOf t).toNat)
 case atStart => exact ⟨0, by omega, rfl, by simp [maxSum], Touch.refl _ _, fun i d hi => by omega⟩
 case round =>
  obtain ⟨k, hk, rfl, rfl, HI⟩ := hrel
  by_cases hlt : k < L
  ·obtain ⟨m, hm⟩ : ∃ m, x.maps[k]? = some m := ⟨_, List.getElem?_eq_getElem (by rw [HL.out]; exact hlt)⟩
   have hmem := List.mem_of_getElem? hm
   have hB := HH.out.1.still HI.out.1
   obtain ⟨gb, hg⟩ := hB.tab.some_g hm
   have hsg := HG.out
   rw [hg, Option.map_some] at hsg
   subst hsg
   obtain ⟨b0, b1, b2, b3, b4⟩ := hB.tab.boxed hm hg
   have hmk := HH.out.2 m hmem
   have hok := hB.tab.ok m hmem
   have hdk : x.ds[k]? = some m.d := by unfold PT.ds; rw [List.getElem?_map, hm]; rfl
   have hsum := maxSum_snoc x.ds k m.d hdk
   have hbd1 := HBD.out k
   have hbd2 := HBD.out (k + 1)
   have hm1 := hok.v1
   have hm2 := hok.v2
   obtain ⟨V, hV⟩ : ∃ V : Nat, m.d.val = V := Int.eq_ofNat_of_zero_le (by omega)
   obtain ⟨M, hM⟩ : ∃ M : Nat, m.d.max = M := Int.eq_ofNat_of_zero_le (by omega)
   have HBX : Hid (∀ o, Touch [] wr (wr.alloc o)) := fun o => (Touch.refl [] wr).alloc o
   have hNB := Blk.newA wr (BoxCells m) _ 89 rfl
   have HNB := toHid hNB
   have HM := toHid (And.intro hm (And.intro hdk (And.intro hV hM)))
   have HB := toHid hB
   have hk8 : k < 8 := by omega
   rw [hV] at b2 hm1 hm2
   rw [hM] at b3 hmk hsum
   have HC : Hid (∀ w', Touch [] (wr.alloc (.cells (BoxCells m) 89)) w' → w'.cell? ⟨wr.heap.size, 2, none⟩ = some (.int .i64 (V : Int)) ∧ w'.cell? ⟨wr.heap.size, 3, none⟩ = some (.int .i64 (M : Int))) := fun w' ht => by
    have h1 := ht.blk hNB (by simp)
    rw [← hV, ← hM]
    exact ⟨h1.cell rfl, h1.cell rfl⟩
   have HT := toHid HI.out.1
   have HFA := toHid HI.out.2
   unfold BoxCells ixV at HC
   unfold ixV at b4
   generalize typF m.d.kind = ty at *
   generalize m.X = X at *
   generalize m.d.kind = kd at *
   generalize m.d.key = ky at *
   rw [hV, hM] at HC
   have HSUM := toHid hsum
   have w1 : IntKind.i64.wrap ((R : Int) + maxSum (x.ds.take k) + M) = R + maxSum (x.ds.take (k + 1)) := by rw [IntKind.wrap_i64]; omega
   have c3 := (HC.out _ (Touch.refl _ _)).2
   clear hB hmem hok hdk hNB hm hV hM HI hg hsum c0 c1 HNB
   generalize hwb : wr.alloc (.cells #[.int .i64 kd, .int .i64 ky, .int .i64 (V : Int), .int .i64 (M : Int), .iface ty (.pointer (some ⟨X, 0, none⟩))] 89) = wb at *
   have HWB := toHid hwb
   go_wp2_with fail
   clear hwb b0 b1 b2 b3 b4 c3
   have HTB : Hid (Touch [] wr wb) := by rw [← HWB.out]; exact HBX.out _
   have hM64 : M ≤ 64 := by omega
   go_loopw [30] (fun t w' => ∃ q : Nat, q ≤ M ∧ t = .int .i64 q ∧ Hid (Touch [] wb w' ∧ ∀ i : Nat, i < q → Mem.busyB s.rs (plI k i) V = false)) (fun t _ => M - (intOf t).toNat)
   case atStart => exact ⟨0, by omega, rfl, Touch.refl _ _, fun i hi => by omega⟩
   case round =>
    obtain ⟨q, hq, rfl, HJ⟩ := hrel
    obtain ⟨c2, c3⟩ := HC.out _ HJ.out.1
    by_cases hqt : q < M
    ·have hB2 := HB.out.still (HTB.out.trans HJ.out.1 (by simp))
     have HP := toHid (fun d => place_any (wr.drewN d) k q hk8 (by omega))
     have HF := toHid (fun d => isFree_any (hB2.still ((Touch.refl [] wr).drewN d)) (plI k q) V (by unfold plI; omega) (by omega) (by omega) (by unfold plI; omega))
     have hkx : (k : Int) = k := rfl
     have HNx : Hid (Mem.busyB s.rs (plI k q) V = false → ∀ n, Touch [] wb (wr.drewN n) ∧ ∀ i : Nat, i < q + 1 → Mem.busyB s.rs (plI k i) V = false) := fun hb n => ⟨HJ.out.1.drewN n, fun i hi => by
      by_cases e : i = q
      ·rw [e]; exact hb
      ·exact HJ.out.2 i (by omega)⟩
     have HBad : Hid (Mem.busyB s.rs (plI k q) V = true → ¬ roomOk x.ds s.rs) := fun hb hr => by
      obtain ⟨_, hdk, hV, hM⟩ := HM.out
      have h9 := hr.1 k m.d (by rw [HDS.out]; exact hlt) hdk q (by rw [hM]; omega)
      rw [hV, hb] at h9
      cases h9
     have HTT : Hid (∀ n, Touch [] w (wr.drewN n)) := fun n => ((HT.out.trans HTB.out (by simp)).trans HJ.out.1 (by simp)).drewN n
     generalize Mem.busyB s.rs (plI k q) V = fb at *
     generalize plI k q = pl at *
     clear hB2 HJ c3 HC
     cases fb with
     | true =>
      have HBad := toHid (HBad.out rfl)
      clear HNx
      go_wp2_with fail
      go_quiet (first | (go_at_call 42; refine Calls.quiet_of_same (HP.out _)) | (go_at_call 77; refine Calls.quiet_of (HF.out _)))
      go_wp2
      go_ret
      exact ⟨⟨false, rfl, by simpa using HBad.out⟩, HTT.out _⟩
     | false =>
      clear HBad HTT
      go_wp2_with fail
      go_quiet (first | (go_at_call 42; refine Calls.quiet_of_same (HP.out _)) | (go_at_call 77; refine Calls.quiet_of (HF.out _)))
      go_wp2
      exact ⟨⟨q + 1, by omega, by go_num, (HNx.out trivial _)⟩, by simp [intOf]; omega⟩
    ·obtain rfl : q = M := by omega
     have HNx : Hid (Touch [] w wr ∧ FreeAll x.ds s.rs (k + 1)) := ⟨(HT.out.trans HTB.out (by simp)).trans HJ.out.1 (by simp), fun i d hi hd u hu => by
      by_cases e : i = k
      ·subst e
       obtain ⟨_, hdk, hV, hM⟩ := HM.out
       rw [hdk] at hd
       injection hd with hd
       subst hd
       rw [hV]
       exact HJ.out.2 u (by omega)
      ·exact HFA.out i d (by omega) hd u hu⟩
     clear HC HJ
     go_wp2
     exact ⟨⟨k + 1, by omega, by go_num, rfl, HNx⟩, by simp [intOf]; omega⟩
  ·obtain rfl : L = k := by omega
   have hbd1 := HBD.out L
   have hT : x.ds.take L = x.ds := by rw [← HDS.out]; exact List.take_length
   have HR2 : Hid ((decide (R + maxSum (x.ds.take L) ≤ 4096) = true ↔ roomOk x.ds s.rs)) := by
    show _ ↔ _
    rw [decide_eq_true_iff, hT, ← HR.out]
    exact ⟨fun hh => ⟨by rw [HDS.out]; exact HI.out.2, hh⟩, fun hh => hh.2⟩
   have HT := toHid HI.out.1
   clear HI c0 c1 hT
   go_wp2
   go_ret
   exact ⟨⟨_, rfl, HR2.out⟩, HT.out⟩
end Go.Proofs.YtmhhahmjkopjhaaGreat
end
section
namespace Go.Proofs.YtmhhahmjkopjhaaGreat
open Go.RowKit
def PAdds : List (Int × Int) → List Mem.Reg × Nat → List Mem.Reg × Nat → Prop
 | [], a, b => b = a
 | p :: ps, a, b => ∃ (i : Nat) (r : Mem.Reg), i ≤ a.1.length ∧ Mem.RegOk r ∧ Mem.NewReg r a.2 p.1 p.2 3 ∧ PAdds ps (a.1.take i ++ r :: a.1.drop i, a.2 + 1) b
theorem PAdds.snoc {ps : List (Int × Int)} {p : Int × Int} : ∀ {a b : List Mem.Reg × Nat}, PAdds ps a b → ∀ {i : Nat} {r : Mem.Reg}, i ≤ b.1.length → Mem.RegOk r → Mem.NewReg r b.2 p.1 p.2 3 → PAdds (ps ++ [p]) a (b.1.take i ++ r :: b.1.drop i, b.2 + 1) := by
 induction ps with
 | nil =>
  intro a b h i r hi ho hn
  have h : b = a := h
  subst h
  exact ⟨i, r, hi, ho, hn, rfl⟩
 | cons q ps ih =>
  intro a b h i r hi ho hn
  obtain ⟨j, r2, h1, h2, h3, h4⟩ := h
  exact ⟨j, r2, h1, h2, h3, ih h4 hi ho hn⟩
theorem mem_put {rs : List Mem.Reg} {i : Nat} {r : Mem.Reg} (y : Mem.Reg) : y ∈ rs.take i ++ r :: rs.drop i ↔ y = r ∨ y ∈ rs := by
 rw [List.mem_append, List.mem_cons]
 constructor
 ·rintro (hx | rfl | hx)
  ·exact Or.inr (List.mem_of_mem_take hx)
  ·exact Or.inl rfl
  ·exact Or.inr (List.mem_of_mem_drop hx)
 ·rintro (rfl | hx)
  ·exact Or.inr (Or.inl rfl)
  ·rw [← List.take_append_drop i rs, List.mem_append] at hx
   rcases hx with hx | hx
   ·exact Or.inl hx
   ·exact Or.inr (Or.inr hx)
theorem PAdds.facts {ps : List (Int × Int)} : ∀ {a b : List Mem.Reg × Nat}, PAdds ps a b → b.1.length = a.1.length + ps.length ∧ b.2 = a.2 + ps.length ∧ (∀ r ∈ a.1, r ∈ b.1) ∧ (∀ p ∈ ps, ∃ r ∈ b.1, ∃ id, Mem.RegOk r ∧ Mem.NewReg r id p.1 p.2 3) ∧ (∀ r ∈ b.1, r ∈ a.1 ∨ ∃ p ∈ ps, ∃ id, Mem.NewReg r id p.1 p.2 3) := by
 induction ps with
 | nil =>
  intro a b h
  have h : b = a := h
  subst h
  exact ⟨rfl, rfl, fun _ hr => hr, by simp, fun _ hr => Or.inl hr⟩
 | cons q ps ih =>
  intro a b h
  obtain ⟨j, r2, h1, h2, h3, h4⟩ := h
  obtain ⟨e1, e2, e3, e4, e5⟩ := ih h4
  refine ⟨?_, ?_, fun r hr => e3 r ((mem_put r).2 (Or.inr hr)), fun p hp => ?_, fun r hr => ?_⟩
  ·rw [e1]
   simp
   omega
  ·rw [e2]
   simp
   omega
  ·rcases List.mem_cons.1 hp with rfl | hp
   ·exact ⟨r2, e3 r2 ((mem_put r2).2 (Or.inl rfl)), _, h2, h3⟩
   ·exact e4 p hp
  ·rcases e5 r hr with hx | ⟨p, hp, id, hx⟩
   ·rcases (mem_put r).1 hx with rfl | hx
    ·exact Or.inr ⟨q, by simp, _, h3⟩
    ·exact Or.inl hx
   ·exact Or.inr ⟨p, by simp [hp], id, hx⟩
def rowP (i : Nat) (v : Int) (n : Nat) : List (Int × Int) := (List.range n).map fun s : Nat => (plI i s, v)
theorem rowP_succ (i : Nat) (v : Int) (n : Nat) : rowP i v (n + 1) = rowP i v n ++ [(plI i n, v)] := by
 unfold rowP
 rw [List.range_succ, List.map_append]
 rfl
theorem rowP_len (i : Nat) (v : Int) (n : Nat) : (rowP i v n).length = n := by simp [rowP]
def plcs (ds : List MDef) (k : Nat) : List (Int × Int) := (List.range k).flatMap fun i => match ds[i]? with
 | some d => rowP i d.val d.max.toNat
 | none => []
theorem plcs_succ {ds : List MDef} {k : Nat} {d : MDef} (h : ds[k]? = some d) : plcs ds (k + 1) = plcs ds k ++ rowP k d.val d.max.toNat := by
 unfold plcs
 rw [List.range_succ, List.flatMap_append, List.flatMap_singleton, h]
theorem plcs_mem {ds : List MDef} {k : Nat} {p : Int × Int} (h : p ∈ plcs ds k) : ∃ (i : Nat) (d : MDef) (s : Nat), i < k ∧ ds[i]? = some d ∧ (s : Int) < d.max ∧ p = (plI i s, d.val) := by
 unfold plcs at h
 obtain ⟨i, hi, hp⟩ := List.mem_flatMap.1 h
 cases hd : ds[i]? with
 | none =>
  rw [hd] at hp
  cases hp
 | some d =>
  rw [hd] at hp
  obtain ⟨s, hs, rfl⟩ := List.mem_map.1 hp
  have := List.mem_range.1 hs
  exact ⟨i, d, s, List.mem_range.1 hi, hd, by omega, rfl⟩
theorem plcs_len {ds : List MDef} : ∀ {k : Nat}, k ≤ ds.length → (∀ d ∈ ds, 0 ≤ d.max) → ((plcs ds k).length : Int) = maxSum (ds.take k)
 | 0, _, _ => by simp [plcs, maxSum]
 | k + 1, hk, h => by
  have hd : ds[k]? = some ds[k] := List.getElem?_eq_getElem (by omega)
  rw [plcs_succ hd, maxSum_snoc ds k _ hd, List.length_append, rowP_len, ← plcs_len (k := k) (by omega) h]
  have := h _ (List.mem_of_getElem? hd)
  omega
theorem NewReg.off {r : Mem.Reg} {id b n p v : Int} (h : Mem.NewReg r id b n 3) (h0 : 0 ≤ n) (hp : p + v ≤ b ∨ b + n ≤ p) : ¬ (r.base < p + v ∧ p < r.base + (r.bytes.length : Int)) := by
 have h1 := h.hbase
 have h2 := h.hbytes
 rw [h1, h2, List.length_replicate]
 omega
theorem PAdds.free {ps : List (Int × Int)} {a b : List Mem.Reg × Nat} (h : PAdds ps a b) {p v : Int} (hf : Mem.busyB a.1 p v = false) (ho : ∀ q ∈ ps, 0 ≤ q.2 ∧ (p + v ≤ q.1 ∨ q.1 + q.2 ≤ p)) : Mem.busyB b.1 p v = false := by
 obtain ⟨_, _, _, _, e5⟩ := h.facts
 cases hb : Mem.busyB b.1 p v with
 | false => rfl
 | true =>
  unfold Mem.busyB at hb
  rw [List.any_eq_true] at hb
  obtain ⟨r, hr, hb⟩ := hb
  have hb := of_decide_eq_true hb
  rcases e5 r hr with hx | ⟨q, hq, id, hx⟩
  ·rw [Mem.busy_of hx hb.1 hb.2] at hf
   cases hf
  ·exact absurd hb (NewReg.off hx (ho q hq).1 (ho q hq).2)
theorem pl_apart {i j s t : Nat} (hs : s < 64) (ht : t < 64) {v u : Int} (v1 : 1 ≤ v) (v2 : v ≤ 64) (u1 : 1 ≤ u) (u2 : u ≤ 64) (h : i ≠ j ∨ s ≠ t) : plI i s + v ≤ plI j t ∨ plI j t + u ≤ plI i s := by
 unfold plI
 omega
structure SetAt (w w' : World) (x : PT) (s s' : Mem.MS) (ps : List (Int × Int)) : Prop where
 both : PBoth w' x s'
 m : s'.m = s.m
 own : ∀ b ∈ s'.blocks, b ∈ s.blocks ∨ w.heap.size ≤ b
 touch : Touch s.blocks w w'
 adds : PAdds ps (s.rs, s.next) (s'.rs, s'.next)
theorem SetAt.start {w : World} {x : PT} {s : Mem.MS} (h : PBoth w x s) : SetAt w w x s s [] := ⟨h, rfl, fun _ hb => Or.inl hb, Touch.refl _ _, rfl⟩
theorem SetAt.still {w w' w2 : World} {x : PT} {s s' : Mem.MS} {ps : List (Int × Int)} (h : SetAt w w' x s s' ps) (ht : Touch [] w' w2) : SetAt w w2 x s s' ps := ⟨h.both.still ht, h.m, h.own, h.touch.trans ht (by simp), h.adds⟩
theorem SetAt.add {w w' w2 : World} {x : PT} {s s' : Mem.MS} {ps : List (Int × Int)} {p v : Int} {e : Ending} (h : SetAt w w' x s s' ps) (hp : Mem.AddPost w' s' p v 3 e w2) (h0 : Mem.addE s'.rs p v 3 = 0) : ∃ s2, SetAt w w2 x s s2 (ps ++ [(p, v)]) ∧ Touch s'.blocks w' w2 ∧ ∀ b ∈ s2.blocks, b ∈ s'.blocks ∨ w'.heap.size ≤ b := by
 obtain ⟨_, ht, s2, hA, hO, _, hY⟩ := hp
 obtain ⟨hn, i, r, hi, hrs, hr⟩ := hY h0
 have hro : Mem.RegOk r := hA.ok r (by rw [hrs]; simp)
 have hsz := h.touch.size
 refine ⟨s2, ⟨h.both.over hA hO.1 hO.2 ht, by rw [hO.1, h.m], fun b hb => ?_, h.touch.trans ht (fun b hb => h.own b hb), ?_⟩, ht, hO.2⟩
 ·rcases hO.2 b hb with h1 | h1
  ·exact h.own b h1
  ·exact Or.inr (by omega)
 ·rw [hrs, hn]
  exact h.adds.snoc (p := (p, v)) hi hro hr
end Go.Proofs.YtmhhahmjkopjhaaGreat
end
section
namespace Go.Proofs.YtmhhahmjkopjhaaGreat.Mem
open Go.RowKit
def num (bs : Nat → Int) : Nat → Int
 | 0 => 0
 | n + 1 => num bs n + bs n * 256 ^ n
theorem num_bd (bs : Nat → Int) : ∀ n, (∀ j, j < n → 0 ≤ bs j ∧ bs j ≤ 255) → 0 ≤ num bs n ∧ num bs n < 256 ^ n
 | 0, _ => by simp [num]
 | n + 1, h => by
  have h1 := num_bd bs n (fun j hj => h j (by omega))
  have h2 := h n (by omega)
  have h3 : (0 : Int) < 256 ^ n := Int.pow_pos (by omega)
  have h4 : bs n * 256 ^ n ≤ 255 * 256 ^ n := Int.mul_le_mul_of_nonneg_right h2.2 (by omega)
  have h5 : 0 ≤ bs n * 256 ^ n := Int.mul_nonneg h2.1 (by omega)
  unfold num
  rw [Int.pow_succ]
  omega
theorem or_place (a x : Int) (k : Nat) (hk : k ≤ 7) (ha0 : 0 ≤ a) (ha1 : a < 256 ^ k) (hx0 : 0 ≤ x) (hx1 : x ≤ 255) :
  bits .or .u64 a (IntKind.u64.wrap (x * 2 ^ (8 * k))) = a + x * 256 ^ k := by
 obtain ⟨A, rfl⟩ := Int.eq_ofNat_of_zero_le ha0
 obtain ⟨X, rfl⟩ := Int.eq_ofNat_of_zero_le hx0
 have hp : (2 : Int) ^ (8 * k) = 256 ^ k := by rw [Int.pow_mul]; rfl
 have hA : A < 2 ^ (8 * k) := by
  have : ((A : Nat) : Int) < ((2 ^ (8 * k) : Nat) : Int) := by rw [Int.natCast_pow]; show (A : Int) < (2 : Int) ^ (8 * k); rw [hp]; exact ha1
  omega
 have hle : (2 : Nat) ^ (8 * k) ≤ 2 ^ 56 := Nat.pow_le_pow_right (by omega) (by omega)
 have hX : 2 ^ (8 * k) * X < 18446744073709551616 := by
  have : 2 ^ (8 * k) * X ≤ 2 ^ 56 * 255 := Nat.mul_le_mul hle (by omega)
  omega
 have hc : (X : Int) * 2 ^ (8 * k) = ((2 ^ (8 * k) * X : Nat) : Int) := by rw [Int.natCast_mul, Int.natCast_pow, Int.mul_comm]; rfl
 rw [← hp, hc, IntKind.wrap_u64, Int.emod_eq_of_lt (by omega) (by omega), u64_or_nat A _ (by omega) hX, Nat.or_comm, ← Nat.two_pow_add_eq_or_of_lt hA]
 omega
theorem number_any (b off n c : Nat) (bs : Nat → Int) (w : World) (hn : n ≤ 8)
  (hc : ∀ j, j < n → w.cell? ⟨b, off + j, none⟩ = some (.int .u8 (bs j))) (hb : ∀ j, j < n → 0 ≤ bs j ∧ bs j ≤ 255) :
  Calls Tryz.prog 53 #[.slice (some ⟨b, off, none⟩) n c] w fun e w' => e = .returned (.int .u64 (num bs n)) ∧ w' = w := by
 have HC := toHid hc
 have HB := toHid hb
 clear hc hb
 go_enter Tryz.func53, Tryz.ntmps53
 go_wp2
 go_loop [3, 8] (fun v t => ∃ k : Nat, k ≤ n ∧ t = .int .i64 k ∧ v = .int .u64 (num bs k)) (fun _ t => n - (intOf t).toNat)
 case atStart => exact ⟨0, by omega, rfl, rfl⟩
 case round =>
  obtain ⟨k, hk, rfl, rfl⟩ := hrel
  by_cases hlt : k < n
  ·have c1 := HC.out k hlt
   have c2 := HB.out k hlt
   go_wp2
   refine ⟨⟨k + 1, by omega, by go_num, ?_⟩, by simp [intOf]; omega⟩
   have h1 := num_bd bs k (fun j hj => HB.out j (by omega))
   rw [or_place _ _ k (by omega) h1.1 h1.2 c2.1 c2.2]
   rfl
  ·have hkn : k = n := by omega
   subst hkn
   go_wp2
   go_ret
   exact ⟨rfl, rfl⟩
def byteOf (v : Int) (j : Nat) : Int := v / 256 ^ j % 256
theorem byteOf_bd (v : Int) (j : Nat) : 0 ≤ byteOf v j ∧ byteOf v j ≤ 255 := by unfold byteOf; omega
def spreadTo (v : Int) (k : Nat) : List Value := (List.range 8).map (fun j => if j < k then .int .u8 (byteOf v j) else .int .u8 0)
theorem spread_set (v : Int) (k : Nat) (_hk : k < 8) : (spreadTo v k).set k (.int .u8 (byteOf v k)) = spreadTo v (k + 1) := by
 apply List.ext_getElem
 ·simp [spreadTo]
 ·intro j h1 h2
  rw [List.getElem_set]
  simp only [spreadTo, List.getElem_map, List.getElem_range]
  by_cases e : k = j
  ·subst e
   simp
  ·rw [if_neg e]
   by_cases h : j < k
   ·rw [if_pos h, if_pos (by omega)]
   ·rw [if_neg h, if_neg (by omega)]
theorem spread_all (v : Int) : spreadTo v 8 = [.int .u8 (byteOf v 0), .int .u8 (byteOf v 1), .int .u8 (byteOf v 2), .int .u8 (byteOf v 3), .int .u8 (byteOf v 4), .int .u8 (byteOf v 5), .int .u8 (byteOf v 6), .int .u8 (byteOf v 7)] := rfl
theorem byte_shift (v : Int) (k : Nat) : v / 2 ^ (8 * k) % 256 = byteOf v k := by
 unfold byteOf
 rw [Int.pow_mul]
 rfl
theorem spread_any (v : Int) (w : World) (_hv0 : 0 ≤ v) :
  Calls Tryz.prog 64 #[.int .u64 v] w fun e w' => e = .returned (.agg #[.int .u8 (byteOf v 0), .int .u8 (byteOf v 1), .int .u8 (byteOf v 2), .int .u8 (byteOf v 3), .int .u8 (byteOf v 4), .int .u8 (byteOf v 5), .int .u8 (byteOf v 6), .int .u8 (byteOf v 7)]) ∧ Touch [] w w' := by
 have hz : Blk ((w.alloc (.cells #[.int .u8 0, .int .u8 0, .int .u8 0, .int .u8 0, .int .u8 0, .int .u8 0, .int .u8 0, .int .u8 0] 144)).alloc (.cells #[.int .u8 0, .int .u8 0, .int .u8 0, .int .u8 0, .int .u8 0, .int .u8 0, .int .u8 0, .int .u8 0] 144)) (w.heap.size + 1) (spreadTo v 0) 144 := by
  have := Blk.newA (w.alloc (.cells #[.int .u8 0, .int .u8 0, .int .u8 0, .int .u8 0, .int .u8 0, .int .u8 0, .int .u8 0, .int .u8 0] 144)) #[.int .u8 0, .int .u8 0, .int .u8 0, .int .u8 0, .int .u8 0, .int .u8 0, .int .u8 0, .int .u8 0] (spreadTo v 0) 144 rfl
  simpa using this
 have hz0 : Blk ((w.alloc (.cells #[.int .u8 0, .int .u8 0, .int .u8 0, .int .u8 0, .int .u8 0, .int .u8 0, .int .u8 0, .int .u8 0] 144)).alloc (.cells #[.int .u8 0, .int .u8 0, .int .u8 0, .int .u8 0, .int .u8 0, .int .u8 0, .int .u8 0, .int .u8 0] 144)) w.heap.size (spreadTo v 0) 144 :=
  (Blk.newA w #[.int .u8 0, .int .u8 0, .int .u8 0, .int .u8 0, .int .u8 0, .int .u8 0, .int .u8 0, .int .u8 0] (spreadTo v 0) 144 rfl).alloc _
 have HZ := toHid hz
 have HZ0 := toHid hz0
 clear hz hz0
 go_enter Tryz.func64, Tryz.ntmps64
 go_wp2
 go_loopw [5] (fun t w' => ∃ k : Nat, k ≤ 8 ∧ t = .int .i64 k ∧ Hid (Blk w' (w.heap.size + 1) (spreadTo v k) 144 ∧ Blk w' w.heap.size (spreadTo v 0) 144 ∧ Touch [] w w')) (fun t _ => 8 - (intOf t).toNat)
 case atStart => exact ⟨0, by omega, rfl, HZ.out, HZ0.out, ((Touch.refl _ w).alloc _).alloc _⟩
 case round =>
  rename_i wr
  obtain ⟨k, hk, rfl, HI⟩ := hrel
  by_cases hlt : k < 8
  ·have c1 := HI.out.1.cellN (i := k) (by simpa [spreadTo] using hlt)
   have f1 := HI.out.1.frozen k
   have HB := toHid (byte_shift v k)
   go_wp2
   rw [HB.out]
   refine ⟨⟨k + 1, by omega, by go_num, ?_, ?_, ?_⟩, by simp [intOf]; omega⟩
   ·rw [← spread_set v k hlt]
    exact HI.out.1.setCell k _
   ·exact HI.out.2.1.setCell_other _ _ (by simp)
   ·exact HI.out.2.2.setCell _ _ (Or.inr (by simp))
  ·obtain rfl : k = 8 := by omega
   have hB := HI.out.1
   rw [spread_all] at hB
   have hR := HI.out.2.1
   have ht := toHid HI.out.2.2
   have c0 : wr.cell? ⟨w.heap.size + 1, 0, none⟩ = some _ := hB.cell rfl
   have c1 : wr.cell? ⟨w.heap.size + 1, 1, none⟩ = some _ := hB.cell rfl
   have c2 : wr.cell? ⟨w.heap.size + 1, 2, none⟩ = some _ := hB.cell rfl
   have c3 : wr.cell? ⟨w.heap.size + 1, 3, none⟩ = some _ := hB.cell rfl
   have c4 : wr.cell? ⟨w.heap.size + 1, 4, none⟩ = some _ := hB.cell rfl
   have c5 : wr.cell? ⟨w.heap.size + 1, 5, none⟩ = some _ := hB.cell rfl
   have c6 : wr.cell? ⟨w.heap.size + 1, 6, none⟩ = some _ := hB.cell rfl
   have c7 : wr.cell? ⟨w.heap.size + 1, 7, none⟩ = some _ := hB.cell rfl
   have d0 : wr.cell? ⟨w.heap.size, 0, none⟩ = some _ := hR.cell rfl
   have d1 : wr.cell? ⟨w.heap.size, 1, none⟩ = some _ := hR.cell rfl
   have d2 : wr.cell? ⟨w.heap.size, 2, none⟩ = some _ := hR.cell rfl
   have d3 : wr.cell? ⟨w.heap.size, 3, none⟩ = some _ := hR.cell rfl
   have d4 : wr.cell? ⟨w.heap.size, 4, none⟩ = some _ := hR.cell rfl
   have d5 : wr.cell? ⟨w.heap.size, 5, none⟩ = some _ := hR.cell rfl
   have d6 : wr.cell? ⟨w.heap.size, 6, none⟩ = some _ := hR.cell rfl
   have d7 : wr.cell? ⟨w.heap.size, 7, none⟩ = some _ := hR.cell rfl
   have fz := hR.frozen
   clear hB hR HI HZ HZ0
   go_wp2
   refine bodyPost_ret (v := .agg #[.int .u8 (byteOf v 0), .int .u8 (byteOf v 1), .int .u8 (byteOf v 2), .int .u8 (byteOf v 3), .int .u8 (byteOf v 4), .int .u8 (byteOf v 5), .int .u8 (byteOf v 6), .int .u8 (byteOf v 7)]) (by simp [results, Tryz.results64, go_sem, d0, d1, d2, d3, d4, d5, d6, d7]) rfl ⟨rfl, ?_⟩
   exact (((((((ht.out.setCell _ _ (Or.inr (by simp))).setCell _ _ (Or.inr (by simp))).setCell _ _ (Or.inr (by simp))).setCell _ _ (Or.inr (by simp))).setCell _ _ (Or.inr (by simp))).setCell _ _ (Or.inr (by simp))).setCell _ _ (Or.inr (by simp))).setCell _ _ (Or.inr (by simp))
end Go.Proofs.YtmhhahmjkopjhaaGreat.Mem
end
section
namespace Go.Proofs.YtmhhahmjkopjhaaGreat.Mem
open Go.RowKit
theorem indexB_any (b off n c : Nat) (st : Nat → Bool) (w : World) (hn : n ≤ 65536)
  (hc : ∀ j, j < n → w.cell? ⟨b, off + j, none⟩ = some (.bool (st j))) :
  Calls Tryz.prog 99 #[.slice (some ⟨b, off, none⟩) n c, .bool false] w fun e w' => ((∃ i : Nat, i < n ∧ e = .returned (.int .i64 i) ∧ st i = false) ∨ (e = .returned (.int .i64 (-1)) ∧ ∀ j, j < n → st j = true)) ∧ w' = w := by
 have HC := toHid hc
 clear hc
 go_enter Tryz.func99, Tryz.ntmps99
 go_wp2
 go_loop [8] (fun t => ∃ k : Nat, k ≤ n ∧ t = .int .i64 k ∧ Hid (∀ j, j < k → st j = true)) (fun t => n - (intOf t).toNat)
 case atStart => exact ⟨0, by omega, rfl, fun j hj => by omega⟩
 case round =>
  obtain ⟨k, hk, rfl, HI⟩ := hrel
  by_cases hlt : k < n
  ·have c1 := HC.out k hlt
   cases hs : st k with
   | true =>
    rw [hs] at c1
    have HS := toHid hs
    clear hs
    go_wp2
    refine ⟨⟨k + 1, by omega, by go_num, fun j hj => ?_⟩, by simp [intOf]; omega⟩
    by_cases e : j = k
    ·subst e; exact HS.out
    ·exact HI.out j (by omega)
   | false =>
    rw [hs] at c1
    have HS := toHid hs
    clear hs
    go_wp2
    go_ret
    exact ⟨Or.inl ⟨k, hlt, rfl, HS.out⟩, rfl⟩
  ·have hkn : k = n := by omega
   subst hkn
   go_wp2
   go_ret
   exact ⟨Or.inr ⟨rfl, HI.out⟩, rfl⟩
def allSetB (r : Reg) (a n : Nat) : Bool := match r.sb with
 | none => true
 | some _ => ((r.set.drop a).take n).all (fun x => x)
theorem allSetB_yes {r : Reg} {a n : Nat} (h : ∀ j, j < n → r.set.getD (a + j) true = true) : allSetB r a n = true := by
 unfold allSetB
 cases r.sb with
 | none => rfl
 | some s =>
  simp only [List.all_eq_true]
  intro x hx
  obtain ⟨j, hj, rfl⟩ := List.getElem_of_mem hx
  rw [List.getElem_take, List.getElem_drop]
  have hjn : j < n := by rw [List.length_take] at hj; omega
  have := h j hjn
  rw [List.getD_eq_getElem?_getD, List.getElem?_eq_getElem (by rw [List.length_take, List.length_drop] at hj; omega)] at this
  simpa using this
theorem allSetB_no {r : Reg} {a n s i : Nat} (hs : r.sb = some s) (hi : i < n) (hl : a + n ≤ r.set.length) (h : r.set.getD (a + i) true = false) : allSetB r a n = false := by
 unfold allSetB
 rw [hs]
 simp only [List.all_eq_false]
 refine ⟨r.set.getD (a + i) true, ?_, by rw [h]; decide⟩
 rw [List.getD_eq_getElem?_getD, List.getElem?_eq_getElem (by omega)]
 simp only [Option.getD_some]
 rw [List.mem_iff_getElem]
 exact ⟨i, by rw [List.length_take, List.length_drop]; omega, by rw [List.getElem_take, List.getElem_drop]⟩
theorem run_eql_nil {P : Program} (w : World) (t e : TypeId) (a : Option Addr) (l c : Nat) (h : P.underlying t = some (.slice e)) : (binOp .eql t (.slice a l c) (.slice none 0 0)).run P w = .ok (.bool a.isNone) w := by
 simp only [binOp]
 simp [run_equal_slice_nil w t e a l c h]
theorem nil42 (w : World) : (binOp .eql 80 (.slice none 0 0) (.slice none 0 0)).run Tryz.prog w = .ok (.bool true) w := run_eql_nil w 80 4 none 0 0 Tryz.underlying80
theorem some42 (w : World) (a : Addr) (l c : Nat) : (binOp .eql 80 (.slice (some a) l c) (.slice none 0 0)).run Tryz.prog w = .ok (.bool false) w := run_eql_nil w 80 4 (some a) l c Tryz.underlying80
theorem allSet_any {w : World} {r : Reg} (h : RegAt w r) (ho : RegOk r) (a n : Nat) (hn : 1 ≤ n) (han : a + n ≤ r.bytes.length) :
  Calls Tryz.prog 79 #[.pointer (some ⟨r.p, 0, none⟩), .int .i64 a, .int .i64 n] w fun e w' => e = .returned (.bool (allSetB r a n)) ∧ w' = w := by
 have hsz := ho.size2
 have hc4 := h.c4
 unfold Reg.setV at hc4
 cases hs : r.sb with
 | none =>
  rw [hs] at hc4
  simp only at hc4
  have HR : Hid (allSetB r a n = true) := by show allSetB r a n = true; unfold allSetB; rw [hs]
  have hnil := nil42
  clear h ho
  go_enter Tryz.func79, Tryz.ntmps79
  go_wp2
  go_ret
  exact ⟨by rw [HR.out]; rfl, rfl⟩
 | some sb =>
  rw [hs] at hc4
  simp only at hc4
  have hset := h.set sb hs
  have hlen := ho.setLen sb hs
  have HI := toHid (indexB_any sb a n (r.bytes.length - a) (fun j => r.set.getD (a + j) true) w (by omega) (fun j hj => hset.cell (by rw [List.getElem?_map, List.getElem?_eq_getElem (by omega), List.getD_eq_getElem?_getD, List.getElem?_eq_getElem (by omega)]; rfl)))
  have HS := toHid hs
  have HL := toHid hlen
  have q1 : ¬ (r.bytes.length = a) := by omega
  have hnil := some42
  clear h ho hs hlen hset
  go_enter Tryz.func79, Tryz.ntmps79
  go_wp2_with (first | (go_at_call 95; go_in) | (go_at_call 99; refine HI.out.mono ?_; rintro e w ⟨(⟨i, hi, rfl, h1⟩ | ⟨rfl, h1⟩), rfl⟩))
  ·go_ret
   exact ⟨by rw [allSetB_no HS.out hi (by rw [HL.out]; omega) h1]; rfl, rfl⟩
  ·go_ret
   exact ⟨by rw [allSetB_yes h1]; rfl, rfl⟩
theorem oneCell_u8 {bs : List Int} : ∀ v ∈ bs.map (Value.int .u8), v.oneCell' = true := by
 intro v hv
 obtain ⟨x, _, rfl⟩ := List.mem_map.1 hv
 rfl
def BytesAt (w : World) (k off : Nat) (bs : List Int) : Prop := ∀ j v, (bs.map (Value.int .u8))[j]? = some v → w.cell? ⟨k, off + j, none⟩ = some v
theorem BytesAt.touch {S : List Nat} {w w' : World} {k off : Nat} {bs : List Int} (h : BytesAt w k off bs) (ht : Touch S w w') (hk : k ∉ S) : BytesAt w' k off bs := fun j v hj => ht.cell (h j v hj) hk
theorem BytesAt.of_blk {w : World} {k off : Nat} {xs : List Int} {t : TypeId} (h : Blk w k (xs.map (Value.int .u8)) t) (n : Nat) : BytesAt w k off ((xs.drop off).take n) := fun j v hj => by
 refine h.cell ?_
 rw [List.getElem?_map] at hj ⊢
 rw [List.getElem?_take] at hj
 split at hj
 ·rwa [List.getElem?_drop] at hj
 ·simp at hj
theorem copied_any (k off n c : Nat) (bs : List Int) (w : World) (hn : n ≤ 65536) (hl : bs.length = n) (hb : BytesAt w k off bs) (_hk : k < w.heap.size) :
  Calls Tryz.prog 72 #[.slice (some ⟨k, off, none⟩) n c] w fun e w' => e = .returned (.slice (some ⟨w.heap.size, 0, none⟩) n n) ∧ Blk w' w.heap.size (bs.map (Value.int .u8)) 5 ∧ Touch [] w w' := by
 have hmk := run_make_blk (P := Tryz.prog) Tryz.underlying39 info5 rfl n (by omega) (by omega) .i64
 have hN := Blk.new w (List.replicate n (Value.int .u8 0)) 5
 have ht : Touch [] w (w.alloc (.cells (List.replicate n (Value.int .u8 0)).toArray 5)) := (Touch.refl _ w).alloc _
 have hmk0 := hmk w
 clear hmk
 generalize w.alloc (.cells (List.replicate n (Value.int .u8 0)).toArray 5) = W1 at hmk0 hN ht
 have hcp : ∀ ty, (Builtin.copy_ #[39, 39] ty #[.slice (some ⟨w.heap.size, 0, none⟩) n n, .slice (some ⟨k, off, none⟩) n c]).run Tryz.prog W1 = _ := fun ty =>
  run_copy_blk W1 39 39 ty 5 Tryz.underlying39 (size_of_info info5) w.heap.size 0 n n ⟨k, off, none⟩ n c _ 5 (bs.map (Value.int .u8)) hN (by simp only [Nat.min_def, List.length_map, hl]; split <;> omega) (fun j v hj => by
   rw [Addr.add_lit]
   exact ht.cell (hb j v hj) (by simp)) (by simp; omega) oneCell_u8
 have hX : (List.replicate n (Value.int .u8 0)).take 0 ++ bs.map (Value.int .u8) ++ (List.replicate n (Value.int .u8 0)).drop (0 + (bs.map (Value.int .u8)).length) = bs.map (Value.int .u8) := by simp [hl]
 rw [hX] at hcp
 have hB := hN.setRow (bs.map (Value.int .u8))
 have ht2 := ht.setRow w.heap.size (bs.map (Value.int .u8)).toArray (Or.inr (Nat.le_refl _))
 generalize W1.setRow w.heap.size (bs.map (Value.int .u8)).toArray = W2 at hcp hB ht2
 have HC := toHid hcp
 have HB := toHid (And.intro hB ht2)
 clear hcp hB ht2 hX hN ht hb
 go_enter Tryz.func72, Tryz.ntmps72
 go_wp2_with fail
 rw [HC.out]
 go_wp2
 go_ret
 exact ⟨rfl, HB.out⟩
def layR (r : Reg) (a : Nat) (bs : List Int) : Reg :=
 {r with bytes := r.bytes.take a ++ bs ++ r.bytes.drop (a + bs.length), set := match r.sb with
  | none => r.set
  | some _ => r.set.take a ++ List.replicate bs.length true ++ r.set.drop (a + bs.length) }
theorem layR_len {r : Reg} {a : Nat} {bs : List Int} (h : a + bs.length ≤ r.bytes.length) : (layR r a bs).bytes.length = r.bytes.length := by
 simp only [layR, List.length_append, List.length_take, List.length_drop]
 omega
def setTo (st : List Bool) (a k : Nat) : List Value := (st.take a ++ List.replicate k true ++ st.drop (a + k)).map Value.bool
theorem setTo_succ (st : List Bool) (a k : Nat) (h : a + k < st.length) : (setTo st a k).set (a + k) (.bool true) = setTo st a (k + 1) := by
 unfold setTo
 rw [← List.map_set]
 congr 1
 have e : st.drop (a + k) = st[a + k] :: st.drop (a + k + 1) := List.drop_eq_getElem_cons h
 have e2 : (st.take a ++ List.replicate k true).length = a + k := by simp; omega
 rw [e]
 conv => lhs; arg 2; rw [← e2]
 rw [List.set_append_right _ _ (Nat.le_refl _), Nat.sub_self, List.set_cons_zero, List.replicate_succ', ← Nat.add_assoc]
 simp
theorem RegAt.laid {w w' : World} {r : Reg} {a : Nat} {bs : List Int} (_h : RegAt w r) (hl : a + bs.length ≤ r.bytes.length) (hp : Blk w' r.p r.cells 138)
  (hb : Blk w' r.bb ((layR r a bs).bytes.map (Value.int .u8)) 5) (hs : ∀ s, r.sb = some s → Blk w' s (setTo r.set a bs.length) 4) : RegAt w' (layR r a bs) where
 self := by
  have e : (layR r a bs).cells = r.cells := by
   unfold Reg.cells Reg.setV
   rw [layR_len hl]
   rfl
  rw [e]
  exact hp
 bytes := hb
 set := fun s hs' => by
  have hs'' : r.sb = some s := hs'
  have := hs s hs''
  unfold setTo at this
  simp only [layR, hs'']
  exact this
theorem rlay_any {w : World} {r : Reg} (h : RegAt w r) (ho : RegOk r) (a k off n c : Nat) (bs : List Int) (hn1 : 1 ≤ n) (hl : bs.length = n) (han : a + n ≤ r.bytes.length) (hb : BytesAt w k off bs) :
  Calls Tryz.prog 88 #[.pointer (some ⟨r.p, 0, none⟩), .int .i64 a, .slice (some ⟨k, off, none⟩) n c] w fun e w' => e = .returned (.tuple #[]) ∧ RegAt w' (layR r a bs) ∧ Touch (r.bb :: r.sb.toList) w w' := by
 have hsz := ho.size2
 have hown := ho.own
 simp only [Reg.blocks, List.nodup_cons, List.mem_cons, not_or] at hown
 have hcp : ∀ ty dc, (Builtin.copy_ #[39, 39] ty #[.slice (some ⟨r.bb, a, none⟩) (r.bytes.length - a) dc, .slice (some ⟨k, off, none⟩) n c]).run Tryz.prog w = _ := fun ty dc =>
  run_copy_blk w 39 39 ty 5 Tryz.underlying39 (size_of_info info5) r.bb a (r.bytes.length - a) dc ⟨k, off, none⟩ n c _ 5 (bs.map (Value.int .u8)) h.bytes (by simp only [Nat.min_def, List.length_map, hl]; split <;> omega) (fun j v hj => by
   rw [Addr.add_lit]
   exact hb j v hj) (by simp; omega) oneCell_u8
 have hX : (r.bytes.map (Value.int .u8)).take a ++ bs.map (Value.int .u8) ++ (r.bytes.map (Value.int .u8)).drop (a + (bs.map (Value.int .u8)).length) = (layR r a bs).bytes.map (Value.int .u8) := by
  simp [layR, List.map_take, List.map_drop]
 rw [hX] at hcp
 have hB := h.bytes.setRow ((layR r a bs).bytes.map (Value.int .u8))
 have hP := h.self.setRow_other r.bb ((layR r a bs).bytes.map (Value.int .u8)).toArray hown.1.1
 have hS : ∀ s, r.sb = some s → Blk (w.setRow r.bb ((layR r a bs).bytes.map (Value.int .u8)).toArray) s (setTo r.set a 0) 4 := fun s hs => by
  have : setTo r.set a 0 = r.set.map Value.bool := by simp [setTo]
  rw [this]
  refine (h.set s hs).setRow_other _ _ (fun e => hown.2.1 ?_)
  rw [hs, e]
  simp
 have ht : Touch (r.bb :: r.sb.toList) w (w.setRow r.bb ((layR r a bs).bytes.map (Value.int .u8)).toArray) := (Touch.refl _ w).setRow _ _ (Or.inl (by simp))
 generalize w.setRow r.bb ((layR r a bs).bytes.map (Value.int .u8)).toArray = W1 at hcp hB hP hS ht
 have hc3 := h.c3
 have q1 : ¬ (r.bytes.length = a) := by omega
 have q2 : (a : Int) ≤ r.bytes.length := by omega
 cases hsb : r.sb with
 | none =>
  have hc4 : W1.cell? ⟨r.p, 4, none⟩ = some r.setV := hP.cell rfl
  unfold Reg.setV at hc4
  rw [hsb] at hc4
  simp only at hc4
  have HF : Hid (RegAt W1 (layR r a bs) ∧ Touch (r.bb :: r.sb.toList) w W1) := ⟨h.laid (by omega) hP hB (fun s hs => by rw [hsb] at hs; cases hs), ht⟩
  rw [hsb] at HF
  have HC := toHid hcp
  have hnil := nil42
  clear hcp hX hB hP hS ht h ho hb
  go_enter Tryz.func88, Tryz.ntmps88
  go_wp2_with fail
  rw [HC.out]
  go_wp2
  exact bodyPost_ret (v := .tuple #[]) (by simp [results, Tryz.results88]) rfl ⟨rfl, HF.out⟩
 | some sb =>
  have hset := hS sb hsb
  have hlen := ho.setLen sb hsb
  have hc4 : W1.cell? ⟨r.p, 4, none⟩ = some r.setV := hP.cell rfl
  unfold Reg.setV at hc4
  rw [hsb] at hc4
  simp only at hc4
  rw [hsb] at ht
  have HT := toHid ht
  have HS := toHid hset
  have HP := toHid hP
  have HBB := toHid hB
  have HC := toHid hcp
  have hnil := some42
  have hne1 : ¬ sb = r.p := fun e => hown.1.2 (by rw [hsb, e]; simp)
  have hne2 : ¬ sb = r.bb := fun e => hown.2.1 (by rw [hsb, e]; simp)
  have HR := toHid h
  have HSB := toHid hsb
  clear hcp hX hB hP hS ht h ho hb hset hsb
  go_enter Tryz.func88, Tryz.ntmps88
  go_wp2_with fail
  rw [HC.out]
  go_wp2
  go_loopw [22] (fun t w' => ∃ i : Nat, i ≤ n ∧ t = .int .i64 i ∧ Hid (Blk w' sb (setTo r.set a i) 4 ∧ Blk w' r.p r.cells 138 ∧ Blk w' r.bb ((layR r a bs).bytes.map (Value.int .u8)) 5 ∧ Touch [r.bb, sb] w w')) (fun t _ => n - (intOf t).toNat)
  case atStart => exact ⟨0, by omega, rfl, HS.out, HP.out, HBB.out, HT.out⟩
  case round =>
   rename_i wr
   obtain ⟨i, hi, rfl, HI⟩ := hrel
   clear hc4
   have hc4 : wr.cell? ⟨r.p, 4, none⟩ = some r.setV := HI.out.2.1.cell rfl
   unfold Reg.setV at hc4
   rw [HSB.out] at hc4
   simp only at hc4
   by_cases hlt : i < n
   ·have c1 := HI.out.1.cellN (i := a + i) (by simp [setTo]; omega)
    have f1 := HI.out.1.frozen (a + i)
    go_wp2
    refine ⟨⟨i + 1, by omega, by go_num, ?_, ?_, ?_, ?_⟩, by simp [intOf]; omega⟩
    ·rw [← setTo_succ r.set a i (by omega)]
     exact HI.out.1.setCell _ _
    ·exact HI.out.2.1.setCell_other _ _ (fun e => hne1 e.symm)
    ·exact HI.out.2.2.1.setCell_other _ _ (fun e => hne2 e.symm)
    ·exact HI.out.2.2.2.setCell _ _ (Or.inl (by simp))
   ·obtain rfl : i = n := by omega
    go_wp2
    go_end0
    refine ⟨rfl, HR.out.laid (by omega) HI.out.2.1 HI.out.2.2.1 (fun s hs => ?_), by simpa using HI.out.2.2.2⟩
    rw [HSB.out] at hs
    injection hs with hs
    subst hs
    rw [hl]
    exact HI.out.1
end Go.Proofs.YtmhhahmjkopjhaaGreat.Mem
end
section
namespace Go.Proofs.YtmhhahmjkopjhaaGreat.Mem
open Go.RowKit
def updR (rs : List Reg) (id : Int) (f : Reg → Reg) : List Reg := rs.map (fun x => if x.id = id then f x else x)
theorem layR_ok {r : Reg} {a : Nat} {bs : List Int} (h : RegOk r) (hl : a + bs.length ≤ r.bytes.length) (hb : ∀ x ∈ bs, 0 ≤ x ∧ x ≤ 255) : RegOk (layR r a bs) where
 base0 := h.base0
 size1 := by rw [layR_len hl]; exact h.size1
 size2 := by rw [layR_len hl]; exact h.size2
 fits := by rw [layR_len hl]; exact h.fits
 perm0 := h.perm0
 perm1 := h.perm1
 plain := h.plain
 setLen := fun s hs => by
  have hs' : r.sb = some s := hs
  have := h.setLen s hs'
  rw [layR_len hl, ← this]
  simp only [layR, hs', List.length_append, List.length_take, List.length_drop, List.length_replicate]
  omega
 setNil := fun hs => by
  have hs' : r.sb = none := hs
  simp only [layR, hs']
  exact h.setNil hs'
 byte := fun x hx => by
  simp only [layR, List.mem_append] at hx
  rcases hx with (hx | hx) | hx
  ·exact h.byte x (List.mem_of_mem_take hx)
  ·exact hb x hx
  ·exact h.byte x (List.mem_of_mem_drop hx)
 own := h.own
theorem nodup_flat {l : List Reg} (h : (l.flatMap Reg.blocks).Nodup) {x y : Reg} (hx : x ∈ l) (hy : y ∈ l) (hne : x.id ≠ y.id) : ∀ b ∈ x.blocks, b ∉ y.blocks := by
 intro b hb hb'
 obtain ⟨i, hi, rfl⟩ := List.getElem_of_mem hx
 obtain ⟨j, hj, rfl⟩ := List.getElem_of_mem hy
 have hij : i ≠ j := fun e => hne (by subst e; rfl)
 have hp := (List.pairwise_flatMap.1 h).2
 rcases Nat.lt_or_gt_of_ne hij with hlt | hlt
 ·exact (List.pairwise_iff_getElem.1 hp) i j hi hj hlt b hb b hb' rfl
 ·exact (List.pairwise_iff_getElem.1 hp) j i hj hi hlt b hb' b hb rfl
theorem id_inj {l : List Reg} (h : l.Pairwise (fun a b => a.id ≠ b.id)) {x y : Reg} (hx : x ∈ l) (hy : y ∈ l) (he : x.id = y.id) : x = y := by
 obtain ⟨i, hi, rfl⟩ := List.getElem_of_mem hx
 obtain ⟨j, hj, rfl⟩ := List.getElem_of_mem hy
 rcases Nat.lt_trichotomy i j with hlt | rfl | hlt
 ·exact absurd he ((List.pairwise_iff_getElem.1 h) i j hi hj hlt)
 ·rfl
 ·exact absurd he.symm ((List.pairwise_iff_getElem.1 h) j i hj hi hlt)
theorem MemAt.upd {w w' : World} {s : MS} (h : MemAt w s) {r : Reg} (hr : r ∈ s.rs) {a : Nat} {bs : List Int} (hl : a + bs.length ≤ r.bytes.length) (hb : ∀ x ∈ bs, 0 ≤ x ∧ x ≤ 255)
  (hr' : RegAt w' (layR r a bs)) (ht : Touch (r.bb :: r.sb.toList) w w') : MemAt w' { s with rs := updR s.rs r.id (layR · a bs) } ∧ ({ s with rs := updR s.rs r.id (layR · a bs) } : MS).blocks = s.blocks := by
 have hsub : ∀ b, b ∈ r.bb :: r.sb.toList → b ∈ r.blocks := fun b hb => by
  unfold Reg.blocks
  exact List.mem_cons_of_mem _ hb
 have hap := h.apart
 simp only [MS.blocks, List.cons_append, List.nodup_cons, List.mem_append, List.nodup_append] at hap
 have hin : ∀ b ∈ r.blocks, b ∈ s.rs.flatMap Reg.blocks := fun b hb => List.mem_flatMap.2 ⟨r, hr, hb⟩
 have hptr : (updR s.rs r.id (layR · a bs)).map Reg.ptr = s.rs.map Reg.ptr := by
  unfold updR
  rw [List.map_map]
  refine List.map_congr_left (fun x _ => ?_)
  simp only [Function.comp]
  split <;> rfl
 have hbl : (updR s.rs r.id (layR · a bs)).flatMap Reg.blocks = s.rs.flatMap Reg.blocks := by
  unfold updR
  rw [List.flatMap_map]
  congr 1
  funext x
  split <;> rfl
 have hlen : (updR s.rs r.id (layR · a bs)).length = s.rs.length := by simp [updR]
 have hmem : ∀ x ∈ updR s.rs r.id (layR · a bs), x = layR r a bs ∨ (x ∈ s.rs ∧ x.id ≠ r.id) := by
  intro x hx
  unfold updR at hx
  obtain ⟨y, hy, rfl⟩ := List.mem_map.1 hx
  split
  ·rename_i he
   left
   rw [id_inj h.ids hy hr he]
  ·rename_i he
   exact Or.inr ⟨hy, he⟩
 have hpw : ∀ (R : Reg → Reg → Prop), (∀ x y, R x y → R (if x.id = r.id then layR x a bs else x) (if y.id = r.id then layR y a bs else y)) → s.rs.Pairwise R → (updR s.rs r.id (layR · a bs)).Pairwise R := by
  intro R hR hp
  unfold updR
  rw [List.pairwise_map]
  exact hp.imp (fun {x y} hxy => hR x y hxy)
 refine ⟨⟨?_, ?_, ?_, ?_, ?_, ?_, ?_, ?_, ?_⟩, ?_⟩
 ·show Blk w' s.m [slV s.g (updR s.rs r.id (layR · a bs)).length s.cap, .int .i64 s.next] 79
  rw [hlen]
  exact ht.blk h.self (fun hx => hap.1 (Or.inr (hin _ (hsub _ hx))))
 ·show RowAt w' 118 1 s.g (updR s.rs r.id (layR · a bs)).length s.cap ((updR s.rs r.id (layR · a bs)).map Reg.ptr)
  rw [hlen, hptr]
  exact h.row.touch ht (fun b hb hx => hap.2.2.2 b (by simp [hb]) b (hin _ (hsub _ hx)) rfl)
 ·intro x hx
  rcases hmem x hx with rfl | ⟨hx, hne⟩
  ·exact hr'
  ·exact (h.regs x hx).touch ht (fun b hb hh => nodup_flat hap.2.2.1 hx hr hne b hb (hsub _ hh))
 ·intro x hx
  rcases hmem x hx with rfl | ⟨hx, _⟩
  ·exact layR_ok (h.ok r hr) hl hb
  ·exact h.ok x hx
 ·show (s.m :: s.g.toList ++ (updR s.rs r.id (layR · a bs)).flatMap Reg.blocks).Nodup
  rw [hbl]
  exact h.apart
 ·have hsl : ∀ x ∈ s.rs, (if x.id = r.id then layR x a bs else x).bytes.length = x.bytes.length ∧ (if x.id = r.id then layR x a bs else x).base = x.base := by
   intro x hx
   split
   ·rename_i he
    rw [id_inj h.ids hx hr he]
    exact ⟨layR_len hl, rfl⟩
   ·exact ⟨rfl, rfl⟩
  unfold updR
  rw [List.pairwise_map]
  refine List.Pairwise.imp_of_mem ?_ h.sorted
  intro x y hx hy hxy
  rw [(hsl x hx).1, (hsl x hx).2, (hsl y hy).2]
  exact hxy
 ·refine hpw _ (fun x y hxy => ?_) h.ids
  split <;> split <;> exact hxy
 ·intro x hx
  rcases hmem x hx with rfl | ⟨hx, _⟩
  ·exact h.idlt r hr
  ·exact h.idlt x hx
 ·show (updR s.rs r.id (layR · a bs)).length ≤ 4096
  rw [hlen]
  exact h.many
 ·show s.m :: s.g.toList ++ (updR s.rs r.id (layR · a bs)).flatMap Reg.blocks = _
  rw [hbl]
  rfl
def mayB (r : Reg) (addr n perm : Int) : Bool := decide (addr - r.base ≤ (r.bytes.length : Int) - n ∧ bits .and .i64 r.perm perm ≠ 0)
def layE (rs : List Reg) (addr n : Int) : Int := match findR rs addr with
 | none => 10
 | some r => if mayB r addr n 2 = true then 0 else 10
def layRs (rs : List Reg) (addr : Int) (bs : List Int) : List Reg := match findR rs addr with
 | none => rs
 | some r => if mayB r addr bs.length 2 = true then updR rs r.id (layR · (addr - r.base).toNat bs) else rs
def LayPost (w : World) (s : MS) (addr : Int) (bs : List Int) (e : Ending) (w' : World) : Prop :=
 e = .returned (.int .i64 (layE s.rs addr bs.length)) ∧ Touch s.blocks w w' ∧ MemAt w' { s with rs := layRs s.rs addr bs } ∧ ({ s with rs := layRs s.rs addr bs } : MS).blocks = s.blocks
theorem accessV_mayB {r : Reg} {addr n perm : Int} : accessV (some r) addr n perm = if mayB r addr n perm = true then .tuple #[.pointer (some ⟨r.p, 0, none⟩), .int .i64 (addr - r.base), .int .i64 0] else .tuple #[.pointer none, .int .i64 0, .int .i64 10] := by
 unfold accessV mayB
 by_cases h : addr - r.base ≤ (r.bytes.length : Int) - n ∧ bits .and .i64 r.perm perm ≠ 0
 ·simp [h]
 ·simp [h]
theorem lay_any {w : World} {s : MS} (h : MemAt w s) (addr : Int) (k off n c : Nat) (bs : List Int) (ha0 : 0 ≤ addr) (ha1 : addr ≤ 18446744073709551615) (hn1 : 1 ≤ n) (hn2 : n ≤ 9223372036854775807) (hl : bs.length = n)
  (hb : BytesAt w k off bs) (hbb : ∀ x ∈ bs, 0 ≤ x ∧ x ≤ 255) :
  Calls Tryz.prog 65 #[.pointer (some ⟨s.m, 0, none⟩), .int .u64 addr, .slice (some ⟨k, off, none⟩) n c] w (LayPost w s addr bs) := by
 have hA := access_any h addr n 2 ha0 ha1 (by omega) (by omega)
 cases hf : findR s.rs addr with
 | none =>
  rw [hf] at hA
  have HF : ∀ k, Hid (LayPost w s addr bs (.returned (.int .i64 10)) (w.drewN k)) := fun k => by
   refine ⟨by simp only [layE, hf], (Touch.refl _ w).drewN k, ?_, ?_⟩
   ·simp only [layRs, hf]
    exact h.touch ((Touch.refl [] w).drewN k) (by simp)
   ·simp only [layRs, hf]
  have HA := toHid hA
  clear hA h hf hb
  go_enter Tryz.func65, Tryz.ntmps65
  go_wp2_with (go_at_call 78; refine HA.out.mono ?_; rintro e w' ⟨rfl, k2, rfl⟩; simp only [accessV])
  go_ret
  exact (HF _).out
 | some r =>
  rw [hf, accessV_mayB] at hA
  have hr := findR_mem hf
  cases hm : mayB r addr n 2 with
  | false =>
   rw [hm] at hA
   have HF : ∀ k, Hid (LayPost w s addr bs (.returned (.int .i64 10)) (w.drewN k)) := fun k => by
    refine ⟨by simp [layE, hf, hl, hm], (Touch.refl _ w).drewN k, ?_, ?_⟩
    ·simp only [layRs, hf, hl, hm]
     exact h.touch ((Touch.refl [] w).drewN k) (by simp)
    ·simp [layRs, hf, hl, hm]
   have HA := toHid hA
   clear hA h hf hb
   go_enter Tryz.func65, Tryz.ntmps65
   go_wp2_with (go_at_call 78; refine HA.out.mono ?_; rintro e w' ⟨rfl, k2, rfl⟩; simp only [Bool.false_eq_true, ↓reduceIte])
   go_ret
   exact (HF _).out
  | true =>
   rw [hm] at hA
   have hin := of_decide_eq_true hr.2
   have hreach := (of_decide_eq_true hm).1
   obtain ⟨a, ha⟩ : ∃ a : Nat, addr - r.base = a := ⟨(addr - r.base).toNat, by omega⟩
   rw [ha] at hA hreach
   have HF : ∀ w', RegAt w' (layR r a bs) → Touch (r.bb :: r.sb.toList) w w' → Hid (LayPost w s addr bs (.returned (.int .i64 0)) w') := fun w' h1 h2 => by
    have hu := h.upd hr.1 (a := a) (bs := bs) (by omega) hbb h1 h2
    refine ⟨by simp [layE, hf, hl, hm], h2.mono (fun x hx => Or.inl (s.mem_r hr.1 (by unfold Reg.blocks; exact List.mem_cons_of_mem _ hx))), ?_⟩
    have e : layRs s.rs addr bs = updR s.rs r.id (layR · a bs) := by
     have : a = (addr - r.base).toNat := by omega
     subst this
     simp [layRs, hf, hl, hm]
    rw [e]
    exact hu
   have HFH := toHid HF
   have HL : ∀ k2, Hid _ := fun k2 => toHid (rlay_any ((h.regs r hr.1).touch ((Touch.refl [] w).drewN k2) (by simp)) (h.ok r hr.1) a k off n c bs hn1 hl (by omega) (hb.touch ((Touch.refl [] w).drewN k2) (by simp)))
   have HA := toHid hA
   clear hA h hf hb HF hm
   go_enter Tryz.func65, Tryz.ntmps65
   go_wp2_with (go_at_call 78; refine HA.out.mono ?_; rintro e w' ⟨rfl, k2, rfl⟩; simp only [↓reduceIte])
   refine (HL _).out.mono ?_
   rintro e w' ⟨rfl, h1, h2⟩
   have H3 := HFH.out w' h1 ((((Touch.refl [] w).drewN k2).nil).trans h2 (fun x hx => Or.inl hx))
   clear h1 h2 HFH HL
   go_wp2
   go_ret
   exact H3.out
end Go.Proofs.YtmhhahmjkopjhaaGreat.Mem
end
section
namespace Go.Proofs.YtmhhahmjkopjhaaGreat.Mem
open Go.RowKit
def lookE (rs : List Reg) (addr n : Int) : Int := match findR rs addr with
 | none => 10
 | some r => if mayB r addr n 1 = true then (if allSetB r (addr - r.base).toNat n.toNat = true then 0 else 11) else 10
def tellR (rs : List Reg) (addr n : Int) : List Int := match findR rs addr with
 | none => []
 | some r => if mayB r addr n 1 = true ∧ allSetB r (addr - r.base).toNat n.toNat = true then (r.bytes.drop (addr - r.base).toNat).take n.toNat else []
def LookPost (w : World) (s : MS) (addr : Int) (n : Nat) (e : Ending) (w' : World) : Prop := (∃ k, w' = w.drewN k) ∧
   ((lookE s.rs addr n ≠ 0 ∧ tellR s.rs addr n = [] ∧ e = .returned (.tuple #[.slice none 0 0, .int .i64 (lookE s.rs addr n)])) ∨
    (lookE s.rs addr n = 0 ∧ ∃ r ∈ s.rs, ∃ a : Nat, a + n ≤ r.bytes.length ∧ tellR s.rs addr n = (r.bytes.drop a).take n ∧ e = .returned (.tuple #[.slice (some ⟨r.bb, a, none⟩) n n, .int .i64 0])))
theorem look_any {w : World} {s : MS} (h : MemAt w s) (addr : Int) (n : Nat) (ha0 : 0 ≤ addr) (ha1 : addr ≤ 18446744073709551615) (hn1 : 1 ≤ n) (hn2 : n ≤ 9223372036854775807) :
  Calls Tryz.prog 52 #[.pointer (some ⟨s.m, 0, none⟩), .int .u64 addr, .int .i64 n] w (LookPost w s addr n) := by
 have hA := access_any h addr n 1 ha0 ha1 (by omega) (by omega)
 cases hf : findR s.rs addr with
 | none =>
  rw [hf] at hA
  have HF : ∀ k, Hid (LookPost w s addr n (.returned (.tuple #[.slice none 0 0, .int .i64 10])) (w.drewN k)) := fun k => by
   have he : lookE s.rs addr n = 10 := by simp only [lookE, hf]
   exact ⟨⟨k, rfl⟩, Or.inl ⟨by rw [he]; decide, by simp only [tellR, hf], by rw [he]⟩⟩
  have HA := toHid hA
  clear hA h hf
  go_enter Tryz.func52, Tryz.ntmps52
  go_wp2_with (go_at_call 78; refine HA.out.mono ?_; rintro e w' ⟨rfl, k2, rfl⟩; simp only [accessV])
  go_ret2
  exact (HF _).out
 | some r =>
  rw [hf, accessV_mayB] at hA
  have hr := findR_mem hf
  cases hm : mayB r addr n 1 with
  | false =>
   rw [hm] at hA
   have HF : ∀ k, Hid (LookPost w s addr n (.returned (.tuple #[.slice none 0 0, .int .i64 10])) (w.drewN k)) := fun k => by
    have he : lookE s.rs addr n = 10 := by simp [lookE, hf, hm]
    exact ⟨⟨k, rfl⟩, Or.inl ⟨by rw [he]; decide, by simp [tellR, hf, hm], by rw [he]⟩⟩
   have HA := toHid hA
   clear hA h hf
   go_enter Tryz.func52, Tryz.ntmps52
   go_wp2_with (go_at_call 78; refine HA.out.mono ?_; rintro e w' ⟨rfl, k2, rfl⟩; simp only [Bool.false_eq_true, ↓reduceIte])
   go_ret2
   exact (HF _).out
  | true =>
   rw [hm] at hA
   have hin := of_decide_eq_true hr.2
   have hreach := (of_decide_eq_true hm).1
   obtain ⟨a, ha⟩ : ∃ a : Nat, addr - r.base = a := ⟨(addr - r.base).toNat, by omega⟩
   rw [ha] at hA hreach
   have hc3 := (h.regs r hr.1).c3
   have hsz := (h.ok r hr.1).size2
   have hal : a + n ≤ r.bytes.length := by omega
   have HS := fun k2 => toHid (allSet_any ((h.regs r hr.1).touch ((Touch.refl [] w).drewN k2) (by simp)) (h.ok r hr.1) a n hn1 hal)
   have HA := toHid hA
   cases hset : allSetB r a n with
   | false =>
    have HF : ∀ k, Hid (LookPost w s addr n (.returned (.tuple #[.slice none 0 0, .int .i64 11])) (w.drewN k)) := fun k => by
     have he : lookE s.rs addr n = 11 := by simp [lookE, hf, hm, ha, hset]
     exact ⟨⟨k, rfl⟩, Or.inl ⟨by rw [he]; decide, by simp [tellR, hf, hm, ha, hset], by rw [he]⟩⟩
    rw [hset] at HS
    clear hA h hf hset hm
    go_enter Tryz.func52, Tryz.ntmps52
    go_wp2_with (first | (go_at_call 78; refine HA.out.mono ?_; rintro e w' ⟨rfl, k2, rfl⟩; simp only [↓reduceIte]) | (go_at_call 79; refine (HS _).out.mono ?_; rintro e w' ⟨rfl, rfl⟩))
    go_ret2
    exact (HF _).out
   | true =>
    have HF : ∀ k, Hid (LookPost w s addr n (.returned (.tuple #[.slice (some ⟨r.bb, a, none⟩) (a + n - a) (a + n - a), .int .i64 0])) (w.drewN k)) := fun k => by
     have he : lookE s.rs addr n = 0 := by simp [lookE, hf, hm, ha, hset]
     exact ⟨⟨k, rfl⟩, Or.inr ⟨he, r, hr.1, a, hal, by simp [tellR, hf, hm, ha, hset], by rw [Nat.add_sub_cancel_left]⟩⟩
    rw [hset] at HS
    have q1 : ¬ (a + n = a) := by omega
    have q2 : (a : Int) + n ≤ r.bytes.length := by omega
    clear hA h hf hset hm hr
    go_enter Tryz.func52, Tryz.ntmps52
    go_wp2_with (first | (go_at_call 78; refine HA.out.mono ?_; rintro e w' ⟨rfl, k2, rfl⟩; simp only [↓reduceIte]) | (go_at_call 79; refine (HS _).out.mono ?_; rintro e w' ⟨rfl, rfl⟩))
    go_ret2
    exact (HF _).out
def wordB (n : Int) : Bool := n == 1 || n == 2 || n == 4 || n == 8
theorem word_of {n : Int} (h : wordB n = true) : n = 1 ∨ n = 2 ∨ n = 4 ∨ n = 8 := by
 unfold wordB at h
 simp at h
 omega
def loadE (rs : List Reg) (addr n : Int) : Int := if wordB n = true then lookE rs addr n else 2
def loadV (rs : List Reg) (addr n : Int) : Int := if wordB n = true ∧ lookE rs addr n = 0 then num (fun j => (tellR rs addr n).getD j 0) n.toNat else 0
def storeE (rs : List Reg) (addr n : Int) : Int := if wordB n = true then layE rs addr n else 2
def storeRs (rs : List Reg) (addr n v : Int) : List Reg := if wordB n = true then layRs rs addr ((List.range n.toNat).map (byteOf v)) else rs
theorem load_any {w : World} {s : MS} (h : MemAt w s) (addr n : Int) (ha0 : 0 ≤ addr) (ha1 : addr ≤ 18446744073709551615) :
  Calls Tryz.prog 28 #[.pointer (some ⟨s.m, 0, none⟩), .int .u64 addr, .int .i64 n] w fun e w' => e = .returned (.tuple #[.int .u64 (loadV s.rs addr n), .int .i64 (loadE s.rs addr n)]) ∧ ∃ k, w' = w.drewN k := by
 cases hw : wordB n with
 | false =>
  have he : loadE s.rs addr n = 2 := by unfold loadE; rw [hw]; rfl
  have hv : loadV s.rs addr n = 0 := by unfold loadV; rw [hw]; rfl
  rw [he, hv]
  have HW : Hid ((n == 1 || n == 2 || n == 4 || n == 8) = false) := hw
  clear h he hv hw
  go_enter Tryz.func28, Tryz.ntmps28
  go_wp2_with (go_at_call 51; refine (isWord_any n _).mono ?_; rintro e w' ⟨rfl, rfl⟩; rw [HW.out])
  go_ret2
  exact ⟨rfl, 0, rfl⟩
 | true =>
  have hnn := word_of hw
  obtain ⟨z, rfl⟩ : ∃ z : Nat, n = z := ⟨n.toNat, by omega⟩
  have hz1 : 1 ≤ z := by omega
  have hz2 : z ≤ 8 := by omega
  clear hnn
  have HL := toHid (look_any h addr z ha0 ha1 hz1 (by omega))
  have HW : Hid (((z : Int) == 1 || (z : Int) == 2 || (z : Int) == 4 || (z : Int) == 8) = true) := hw
  have he : loadE s.rs addr z = lookE s.rs addr z := by unfold loadE; rw [hw]; rfl
  by_cases h0 : lookE s.rs addr z = 0
  ·have hv : loadV s.rs addr z = num (fun j => (tellR s.rs addr z).getD j 0) z := by unfold loadV; rw [if_pos ⟨hw, h0⟩]; rfl
   have HE := toHid he
   have H0 := toHid h0
   have HV := toHid hv
   have HM := toHid h
   clear h he hv hw h0
   go_enter Tryz.func28, Tryz.ntmps28
   go_wp2_with (go_at_call 51; refine (isWord_any z _).mono ?_; rintro e w ⟨rfl, rfl⟩; rw [HW.out])
   refine HL.out.mono ?_
   rintro e w' ⟨⟨k, rfl⟩, (⟨h1, _, _⟩ | ⟨_, r, hr, a, hal, htell, rfl⟩)⟩
   ·exact absurd H0.out h1
   ·have hbb := BytesAt.of_blk (off := a) ((HM.out.regs r hr).bytes.drewN k) z
    have hok := HM.out.ok r hr
    have hlen : ((r.bytes.drop a).take z).length = z := by simp; omega
    have HN := toHid (number_any r.bb a z z (fun j => ((r.bytes.drop a).take z).getD j 0) (w.drewN k) hz2
     (fun j hj => hbb j _ (by rw [List.getElem?_map, List.getElem?_eq_getElem (by omega), List.getD_eq_getElem?_getD, List.getElem?_eq_getElem (by omega)]; rfl))
     (fun j hj => by
      rw [List.getD_eq_getElem?_getD, List.getElem?_eq_getElem (by omega)]
      exact hok.byte _ (List.mem_of_mem_drop (List.mem_of_mem_take (List.getElem_mem (by omega))))))
    have HT := toHid htell
    clear hbb htell
    go_wp2_with (go_at_call 53; refine HN.out.mono ?_; rintro e w' ⟨rfl, rfl⟩)
    go_ret2
    refine ⟨?_, k, rfl⟩
    rw [HE.out, H0.out, HV.out, HT.out]
    rfl
  ·have hv : loadV s.rs addr z = 0 := by unfold loadV; rw [if_neg (fun hh => h0 hh.2)]
   have HE := toHid he
   have H0 := toHid h0
   have HV := toHid hv
   generalize hx : lookE s.rs addr z = x at *
   have HX := toHid hx
   have hb : (x == 0) = false := by simpa using h0
   have hb2 : (x != 0) = true := by simpa using h0
   clear h he hv hw h0 hx
   go_enter Tryz.func28, Tryz.ntmps28
   go_wp2_with (go_at_call 51; refine (isWord_any z _).mono ?_; rintro e w ⟨rfl, rfl⟩; rw [HW.out])
   refine HL.out.mono ?_
   rintro e w' ⟨⟨k, rfl⟩, (⟨h1, _, rfl⟩ | ⟨h1, _⟩)⟩
   ·rw [HX.out]
    clear h1 HL
    go_wp2
    go_ret2
    exact ⟨by rw [HE.out, HV.out]; rfl, k, rfl⟩
   ·rw [HX.out] at h1
    exact absurd h1 H0.out
end Go.Proofs.YtmhhahmjkopjhaaGreat.Mem
end
section
namespace Go.Proofs.YtmhhahmjkopjhaaGreat.Mem
open Go.RowKit
def StorePost (w : World) (s : MS) (addr n v : Int) (e : Ending) (w' : World) : Prop :=
 e = .returned (.int .i64 (storeE s.rs addr n)) ∧ Touch s.blocks w w' ∧ MemAt w' { s with rs := storeRs s.rs addr n v } ∧ ({ s with rs := storeRs s.rs addr n v } : MS).blocks = s.blocks
def writeE (rs : List Reg) (addr : Int) (bs : List Int) : Int := if bs.length = 0 then 0 else layE rs addr bs.length
def writeRs (rs : List Reg) (addr : Int) (bs : List Int) : List Reg := if bs.length = 0 then rs else layRs rs addr bs
def WritePost (w : World) (s : MS) (addr : Int) (bs : List Int) (e : Ending) (w' : World) : Prop :=
 e = .returned (.int .i64 (writeE s.rs addr bs)) ∧ Touch s.blocks w w' ∧ MemAt w' { s with rs := writeRs s.rs addr bs } ∧ ({ s with rs := writeRs s.rs addr bs } : MS).blocks = s.blocks
def ArgAt (w : World) (v : Value) (bs : List Int) : Prop := ∃ a c, v = .slice a bs.length c ∧ (∀ x ∈ bs, 0 ≤ x ∧ x ≤ 255) ∧ bs.length ≤ 9223372036854775807 ∧ (1 ≤ bs.length → ∃ k off, a = some ⟨k, off, none⟩ ∧ BytesAt w k off bs)
theorem write_any {w : World} {s : MS} (h : MemAt w s) (addr : Int) (v : Value) (bs : List Int) (ha0 : 0 ≤ addr) (ha1 : addr ≤ 18446744073709551615) (hv : ArgAt w v bs) :
  Calls Tryz.prog 49 #[.pointer (some ⟨s.m, 0, none⟩), .int .u64 addr, v] w (WritePost w s addr bs) := by
 obtain ⟨a, c, rfl, hbb, hn2, hb⟩ := hv
 by_cases h0 : bs.length = 0
 ·have HF : Hid (WritePost w s addr bs (.returned (.int .i64 0)) w) := by
   have e : writeRs s.rs addr bs = s.rs := by unfold writeRs; rw [if_pos h0]
   refine ⟨by unfold writeE; rw [if_pos h0], Touch.refl _ w, ?_, ?_⟩
   ·rw [e]; exact h
   ·rw [e]
  have h0' : ((bs.length : Int) == 0) = true := by simpa using h0
  clear h hb
  go_enter Tryz.func49, Tryz.ntmps49
  go_wp2
  go_ret
  exact HF.out
 ·obtain ⟨k, off, rfl, hbytes⟩ := hb (by omega)
  have HL := toHid (lay_any h addr k off bs.length c bs ha0 ha1 (by omega) hn2 rfl hbytes hbb)
  have HE : Hid (writeE s.rs addr bs = layE s.rs addr bs.length) := by
   show writeE s.rs addr bs = layE s.rs addr bs.length
   unfold writeE
   rw [if_neg h0]
  have HF : ∀ w', LayPost w s addr bs (.returned (.int .i64 (layE s.rs addr bs.length))) w' → Hid (WritePost w s addr bs (.returned (.int .i64 (layE s.rs addr bs.length))) w') := fun w' hh => by
   have e : writeRs s.rs addr bs = layRs s.rs addr bs := by unfold writeRs; rw [if_neg h0]
   refine ⟨by rw [HE.out], hh.2.1, ?_, ?_⟩
   ·rw [e]; exact hh.2.2.1
   ·rw [e]; exact hh.2.2.2
  have h0' : ((bs.length : Int) == 0) = false := by simpa using h0
  have HFF := toHid HF
  clear h hb HF hbytes hbb
  go_enter Tryz.func49, Tryz.ntmps49
  go_wp2_with fail
  refine HL.out.mono ?_
  rintro e w' hp
  obtain rfl := hp.1
  have H3 := HFF.out w' hp
  clear hp HFF HL
  generalize layE s.rs addr bs.length = x at H3
  go_wp2
  go_ret
  exact H3.out
end Go.Proofs.YtmhhahmjkopjhaaGreat.Mem
end
section
namespace Go.Proofs.YtmhhahmjkopjhaaGreat.Mem
open Go.RowKit
def SliceIs (w : World) (v : Value) (bs : List Int) : Prop := (bs = [] ∧ v = .slice none 0 0) ∨ (1 ≤ bs.length ∧ ∃ N, v = .slice (some ⟨N, 0, none⟩) bs.length bs.length ∧ Blk w N (bs.map (Value.int .u8)) 5)
def readE (rs : List Reg) (addr n : Int) : Int := if n < 0 then 2 else if n = 0 then 0 else lookE rs addr n
def readV (rs : List Reg) (addr n : Int) : List Int := if n ≤ 0 then [] else tellR rs addr n
def ReadPost (w : World) (s : MS) (addr n : Int) (e : Ending) (w' : World) : Prop := ∃ v, e = .returned (.tuple #[v, .int .i64 (readE s.rs addr n)]) ∧ SliceIs w' v (readV s.rs addr n) ∧ Touch [] w w'
def regOf (rs : List Reg) (id : Int) : Option Reg := rs.find? (fun r => r.id == id)
def BytesPost (w : World) (s : MS) (id : Int) (e : Ending) (w' : World) : Prop := Touch [] w w' ∧ match regOf s.rs id with
 | none => e = .returned (.tuple #[.slice none 0 0, .int .i64 14])
 | some r => ∃ v, e = .returned (.tuple #[v, .int .i64 0]) ∧ SliceIs w' v r.bytes
end Go.Proofs.YtmhhahmjkopjhaaGreat.Mem
end
section
namespace Go.Proofs.YtmhhahmjkopjhaaGreat
open Go.RowKit
theorem MemAt.find_at {w : World} {s : Mem.MS} (h : Mem.MemAt w s) {r : Mem.Reg} (hr : r ∈ s.rs) : Mem.findR s.rs r.base = some r := by
 refine Mem.findR_of h.sorted (fun x hx => (h.ok x hx).size1) hr ?_
 unfold Mem.hasB
 have := (h.ok r hr).size1
 rw [decide_eq_true_eq]
 omega
theorem bits31 : bits .and .i64 3 1 ≠ 0 := by decide
theorem bits32 : bits .and .i64 3 2 ≠ 0 := by decide
theorem MemAt.read_at {w : World} {s : Mem.MS} (h : Mem.MemAt w s) {r : Mem.Reg} (hr : r ∈ s.rs) (hp : r.perm = 3) : Mem.readE s.rs r.base r.bytes.length = 0 ∧ Mem.readV s.rs r.base r.bytes.length = r.bytes := by
 have hf := MemAt.find_at h hr
 have hok := h.ok r hr
 have h1 := hok.size1
 have hsb : r.sb = none := hok.plain.2 (by omega)
 have hm : Mem.mayB r r.base r.bytes.length 1 = true := by
  unfold Mem.mayB
  rw [decide_eq_true_eq, hp]
  exact ⟨by omega, bits31⟩
 have ha : Mem.allSetB r (r.base - r.base).toNat ((r.bytes.length : Nat) : Int).toNat = true := by
  unfold Mem.allSetB
  rw [hsb]
 constructor
 ·unfold Mem.readE
  rw [if_neg (by omega), if_neg (by omega)]
  unfold Mem.lookE
  rw [hf]
  dsimp only
  rw [if_pos hm, if_pos ha]
 ·unfold Mem.readV
  rw [if_neg (by omega)]
  unfold Mem.tellR
  rw [hf]
  dsimp only
  rw [if_pos ⟨hm, ha⟩, Int.sub_self]
  simp
theorem layR_all {r : Mem.Reg} {vs : List Int} (h : vs.length = r.bytes.length) : (Mem.layR r 0 vs).bytes = vs := by
 unfold Mem.layR
 simp [← h]
theorem MemAt.write_at {w : World} {s : Mem.MS} (h : Mem.MemAt w s) {r : Mem.Reg} (hr : r ∈ s.rs) (hp : r.perm = 3) {vs : List Int} (hl : vs.length = r.bytes.length) : Mem.writeE s.rs r.base vs = 0 ∧ Mem.writeRs s.rs r.base vs = Mem.updR s.rs r.id (Mem.layR · 0 vs) := by
 have hf := MemAt.find_at h hr
 have hok := h.ok r hr
 have h1 := hok.size1
 have hm : Mem.mayB r r.base vs.length 2 = true := by
  unfold Mem.mayB
  rw [decide_eq_true_eq, hp, hl]
  exact ⟨by omega, bits32⟩
 constructor
 ·unfold Mem.writeE Mem.layE
  rw [if_neg (by omega), hf]
  dsimp only
  rw [if_pos hm]
 ·unfold Mem.writeRs Mem.layRs
  rw [if_neg (by omega), hf]
  dsimp only
  rw [if_pos hm, Int.sub_self]
  rfl
end Go.Proofs.YtmhhahmjkopjhaaGreat
end
section
namespace Go.Proofs.YtmhhahmjkopjhaaGreat
open Go.RowKit
def lookP (x : PT) (i : Int) (bs : List Int) : (Int × Int) × List PX :=
 if chkP x.ds i bs.length = 0 then match x.qs[i.toNat]? with
  | some q => ((match (q.findA bs).1 with
   | some s => plI i (s : Int)
   | none => 0, 0), x.qs.set i.toNat (q.findA bs).2)
  | none => ((0, 14), x.qs)
 else ((0, chkP x.ds i bs.length), x.qs)
def PLookPost (w : World) (x : PT) (a : (Int × Int) × List PX) (e : Ending) (w' : World) : Prop := e = .returned (.tuple #[.int .u64 a.1.1, .int .i64 a.1.2]) ∧ ∃ x', PStep w w' x x' a.2
theorem pfind_lt {q : PX} {bs : List Int} {s : Nat} (h : (q.findA bs).1 = some s) : s < q.slots.length := by
 unfold PX.findA at h
 split at h
 ·unfold PX.find3 at h
  split at h
  ·exact (longTo_some h).1
  ·cases h
 ·unfold PX.find at h
  split at h
  ·exact sameP_lt h
  ·cases h
theorem method_find (k : Int) (k0 : 0 ≤ k) (k3 : k ≤ 3) (X : Nat) (n : Nat) : ∀ w : World, (method (n + 1) (typF k) (.pointer (some ⟨X, 0, none⟩)) "Find").run Tryz.prog w = .ok (findF k, .pointer (some ⟨X, 0, none⟩)) w := by
 obtain rfl | rfl | rfl | rfl : k = 0 ∨ k = 1 ∨ k = 2 ∨ k = 3 := by omega
 all_goals (intro w; kernel_rfl)
theorem call_find (k : Int) (k0 : 0 ≤ k) (k3 : k ≤ 3) : ∀ (args : Array Value) (w : World), (callFunc (findF k) args).run Tryz.prog w = .ok (.enter (findF k) args) w := by
 obtain rfl | rfl | rfl | rfl : k = 0 ∨ k = 1 ∨ k = 2 ∨ k = 3 := by omega
 all_goals (intro args w; kernel_rfl)
theorem plookup_any {w : World} {x : PT} (h : PTAt w x) (i : Int) {sa : Option Addr} {sl : Nat} {bs : List Int} (hk : KeyAt w sa sl bs) (sc : Nat) (hsc : sl ≤ sc) :
  Calls Tryz.prog 22 #[.pointer (some ⟨x.t, 0, none⟩), .int .i64 i, .slice sa sl sc] w (PLookPost w x (lookP x i bs)) := by
 have hz := (zero_of_info (P := Tryz.prog) zero89).1
 have hsz := (zero_of_info (P := Tryz.prog) zero89).2
 have H1 := toHid (asked_any h i sa sl sc (by have := hk.1; have := hk.2.2.1; omega))
 have hl := hk.1
 subst hl
 by_cases h0 : chkP x.ds i bs.length = 0
 ·obtain ⟨k, m, rfl, hm, hkey⟩ := chk_ok h0
  have hmem := List.mem_of_getElem? hm
  have hqs : x.qs[k]? = some m.q := by unfold PT.qs; rw [List.getElem?_map, hm]; rfl
  have hv : lookP x k bs = ((match (m.q.findA bs).1 with
   | some s => plI k (s : Int)
   | none => 0, 0), x.qs.set k (m.q.findA bs).2) := by
   unfold lookP
   rw [if_pos h0, Int.toNat_natCast, hqs]
  have ha : askV x k bs.length = m.v := by unfold askV; rw [if_pos h0, nth_of hm]; rfl
  rw [h0, ha] at H1
  rw [hv]
  have hok := h.ok m hmem
  have hgood := (h.maps m hmem).good
  have hkd := hok.kind
  have HMT := method_find m.d.kind (by rw [← hkd]; exact hgood.k0) (by rw [← hkd]; exact hgood.k3) m.X
  have HCF := call_find m.d.kind (by rw [← hkd]; exact hgood.k0) (by rw [← hkd]; exact hgood.k3)
  have HF := toHid (fun w0 (ht : Touch [] w w0) => kfind_any ((h.maps m hmem).still ht) (hk.touch ht) sc hsc)
  rw [hkd] at HF
  have HG := toHid (And.intro h (And.intro hm (hgood.findA bs)))
  have HS64 : Hid (∀ s, (m.q.findA bs).1 = some s → s < 64) := fun s hs => by
   have h1 := pfind_lt hs
   have h2 := hgood.m2
   omega
  have hk8 : k < 8 := by have := (List.getElem?_eq_some_iff.1 hm).1; have := h.many; omega
  unfold PMap.v ixV at H1
  generalize m.q.findA bs = fq at *
  obtain ⟨fo, q⟩ := fq
  generalize typF m.d.kind = ty at *
  generalize findF m.d.kind = ff at *
  clear h hk h0 hmem hqs hv ha hok hgood hkd hkey hm
  go_enter Tryz.func22, Tryz.ntmps22
  go_wp2_with fail
  refine Calls.mono H1.out ?_
  rintro e w2 ⟨rfl, ht2⟩
  have hta : ∀ o, Touch [] w (w2.alloc o) := fun o => ht2.alloc o
  have HT := toHid hta
  clear ht2 hta H1
  go_wp2_with fail
  refine Calls.mono (HF.out _ (HT.out _)) ?_
  rintro e w3 ⟨rfl, st⟩
  have HX := toHid (HG.out.1.step HG.out.2.1 (st.of_still (HT.out _)) HG.out.2.2.2)
  clear st HF HMT HCF
  cases fo with
  | none =>
   unfold foundV idx0
   go_wp2
   go_ret2
   exact ⟨rfl, HX.out⟩
  | some s =>
   have H3 := toHid (place_any w3 k s hk8 (HS64.out s rfl))
   unfold foundV idx0
   go_wp2_with fail
   refine Calls.mono H3.out ?_
   rintro e w3 ⟨rfl, rfl⟩
   go_wp2
   go_ret2
   exact ⟨rfl, HX.out⟩
 ·have hv : lookP x i bs = ((0, chkP x.ds i bs.length), x.qs) := if_neg h0
  have ha : askV x i bs.length = zeroV := if_neg h0
  rw [ha] at H1
  rw [hv]
  have HX := toHid h
  have hne : (chkP x.ds i bs.length != 0) = true := by simpa using h0
  generalize chkP x.ds i bs.length = ce at *
  unfold zeroV at H1
  clear h hk h0 hv ha
  go_enter Tryz.func22, Tryz.ntmps22
  go_wp2_with fail
  refine Calls.mono H1.out ?_
  rintro e w2 ⟨rfl, ht2⟩
  have HF : Hid (∀ o, ∃ x', PStep w (w2.alloc o) x x' x.qs) := fun o => ⟨x, PStep.refl HX.out (ht2.alloc o)⟩
  clear ht2
  go_wp2
  go_ret2
  exact ⟨rfl, HF.out _⟩
def delP (x : PT) (i : Int) (bs : List Int) : Int × List PX :=
 if chkP x.ds i bs.length = 0 then match x.qs[i.toNat]? with
  | some q => ((q.delA bs).1.2, x.qs.set i.toNat (q.delA bs).2)
  | none => (14, x.qs)
 else (chkP x.ds i bs.length, x.qs)
def PDelPost (w : World) (x : PT) (a : Int × List PX) (e : Ending) (w' : World) : Prop := e = .returned (.int .i64 a.1) ∧ ∃ x', PStep w w' x x' a.2
theorem method_del (k : Int) (k0 : 0 ≤ k) (k3 : k ≤ 3) (X : Nat) (n : Nat) : ∀ w : World, (method (n + 1) (typF k) (.pointer (some ⟨X, 0, none⟩)) "Del").run Tryz.prog w = .ok (delF k, .pointer (some ⟨X, 0, none⟩)) w := by
 obtain rfl | rfl | rfl | rfl : k = 0 ∨ k = 1 ∨ k = 2 ∨ k = 3 := by omega
 all_goals (intro w; kernel_rfl)
theorem call_del (k : Int) (k0 : 0 ≤ k) (k3 : k ≤ 3) : ∀ (args : Array Value) (w : World), (callFunc (delF k) args).run Tryz.prog w = .ok (.enter (delF k) args) w := by
 obtain rfl | rfl | rfl | rfl : k = 0 ∨ k = 1 ∨ k = 2 ∨ k = 3 := by omega
 all_goals (intro args w; kernel_rfl)
theorem pdelete_any {w : World} {x : PT} (h : PTAt w x) (i : Int) {sa : Option Addr} {sl : Nat} {bs : List Int} (hk : KeyAt w sa sl bs) (sc : Nat) (hsc : sl ≤ sc) :
  Calls Tryz.prog 25 #[.pointer (some ⟨x.t, 0, none⟩), .int .i64 i, .slice sa sl sc] w (PDelPost w x (delP x i bs)) := by
 have hz := (zero_of_info (P := Tryz.prog) zero89).1
 have hsz := (zero_of_info (P := Tryz.prog) zero89).2
 have H1 := toHid (asked_any h i sa sl sc (by have := hk.1; have := hk.2.2.1; omega))
 have hl := hk.1
 subst hl
 by_cases h0 : chkP x.ds i bs.length = 0
 ·obtain ⟨k, m, rfl, hm, hkey⟩ := chk_ok h0
  have hmem := List.mem_of_getElem? hm
  have hqs : x.qs[k]? = some m.q := by unfold PT.qs; rw [List.getElem?_map, hm]; rfl
  have hv : delP x k bs = ((m.q.delA bs).1.2, x.qs.set k (m.q.delA bs).2) := by
   unfold delP
   rw [if_pos h0, Int.toNat_natCast, hqs]
  have ha : askV x k bs.length = m.v := by unfold askV; rw [if_pos h0, nth_of hm]; rfl
  rw [h0, ha] at H1
  rw [hv]
  have hok := h.ok m hmem
  have hgood := (h.maps m hmem).good
  have hkd := hok.kind
  have HMT := method_del m.d.kind (by rw [← hkd]; exact hgood.k0) (by rw [← hkd]; exact hgood.k3) m.X
  have HCF := call_del m.d.kind (by rw [← hkd]; exact hgood.k0) (by rw [← hkd]; exact hgood.k3)
  have HF := toHid (fun w0 (ht : Touch [] w w0) => kdel_any ((h.maps m hmem).still ht) (hk.touch ht) sc hsc)
  rw [hkd] at HF
  have HG := toHid (And.intro h (And.intro hm (hgood.delA bs)))
  unfold PMap.v ixV at H1
  generalize m.q.delA bs = fq at *
  obtain ⟨⟨sd, er⟩, q⟩ := fq
  generalize typF m.d.kind = ty at *
  generalize delF m.d.kind = ff at *
  clear h hk h0 hmem hqs hv ha hok hgood hkd hkey hm
  go_enter Tryz.func25, Tryz.ntmps25
  go_wp2_with fail
  refine Calls.mono H1.out ?_
  rintro e w2 ⟨rfl, ht2⟩
  have hta : ∀ o, Touch [] w (w2.alloc o) := fun o => ht2.alloc o
  have HT := toHid hta
  clear ht2 hta H1
  go_wp2_with fail
  refine Calls.mono (HF.out _ (HT.out _)) ?_
  rintro e w3 ⟨rfl, st⟩
  have HX := toHid (HG.out.1.step HG.out.2.1 (st.of_still (HT.out _)) HG.out.2.2.2)
  clear st HF HMT HCF
  go_wp2
  go_ret
  exact ⟨rfl, HX.out⟩
 ·have hv : delP x i bs = (chkP x.ds i bs.length, x.qs) := if_neg h0
  have ha : askV x i bs.length = zeroV := if_neg h0
  rw [ha] at H1
  rw [hv]
  have HX := toHid h
  have hne : (chkP x.ds i bs.length != 0) = true := by simpa using h0
  generalize chkP x.ds i bs.length = ce at *
  unfold zeroV at H1
  clear h hk h0 hv ha
  go_enter Tryz.func25, Tryz.ntmps25
  go_wp2_with fail
  refine Calls.mono H1.out ?_
  rintro e w2 ⟨rfl, ht2⟩
  have HF : Hid (∀ o, ∃ x', PStep w (w2.alloc o) x x' x.qs) := fun o => ⟨x, PStep.refl HX.out (ht2.alloc o)⟩
  clear ht2
  go_wp2
  go_ret
  exact ⟨rfl, HF.out _⟩
theorem count_any {w : World} {x : PT} (h : PTAt w x) : Calls Tryz.prog 11 #[.pointer (some ⟨x.t, 0, none⟩)] w fun e w' => e = .returned (.int .i64 x.maps.length) ∧ w' = w := by
 have c1 := h.c1
 unfold slV at c1
 clear h
 go_enter Tryz.func11, Tryz.ntmps11
 go_wp2
 go_ret
 exact ⟨rfl, rfl⟩
end Go.Proofs.YtmhhahmjkopjhaaGreat
end
section
namespace Go.Proofs.YtmhhahmjkopjhaaGreat
open Go.RowKit
theorem method_put (k : Int) (k0 : 0 ≤ k) (k3 : k ≤ 3) (X : Nat) (n : Nat) : ∀ w : World, (method (n + 1) (typF k) (.pointer (some ⟨X, 0, none⟩)) "Put").run Tryz.prog w = .ok (putF k, .pointer (some ⟨X, 0, none⟩)) w := by
 obtain rfl | rfl | rfl | rfl : k = 0 ∨ k = 1 ∨ k = 2 ∨ k = 3 := by omega
 all_goals (intro w; kernel_rfl)
theorem call_put (k : Int) (k0 : 0 ≤ k) (k3 : k ≤ 3) : ∀ (args : Array Value) (w : World), (callFunc (putF k) args).run Tryz.prog w = .ok (.enter (putF k) args) w := by
 obtain rfl | rfl | rfl | rfl : k = 0 ∨ k = 1 ∨ k = 2 ∨ k = 3 := by omega
 all_goals (intro args w; kernel_rfl)
theorem poldFrom_lt (ws : List Int) : ∀ n a, a < ws.length → n ≤ ws.length → oldFrom ws n a < ws.length
 | 0, a, h, _ => h
 | n + 1, a, h, hn => by
  rw [oldFrom_succ]
  refine poldFrom_lt ws n _ ?_ (by omega)
  split <;> omega
theorem pput_slot {q : PX} (g : PGood q) {bs : List Int} {fl : Int} (h : (q.putA bs fl).1.2.2 = 0) : ∃ s : Nat, (q.putA bs fl).1.1 = s ∧ s < q.slots.length := by
 unfold PX.putA at h ⊢
 split at h
 ·rename_i hk
  rw [if_pos hk]
  unfold PX.put3 at h ⊢
  split at h
  ·rename_i hf
   rw [if_pos hf]
   split at h
   ·cases h
   ·rename_i hfl
    rw [if_neg hfl]
    cases hs : sameP q.slots (cutP bs) with
    | some i =>
     rw [hs] at h
     dsimp only at h ⊢
     split at h
     ·cases h
     ·rename_i h1
      rw [if_neg h1]
      exact ⟨i, rfl, sameP_lt hs⟩
    | none =>
     rw [hs] at h
     dsimp only at h ⊢
     split at h
     ·cases h
     ·rename_i h1
      rw [if_neg h1]
      cases hf2 : freeP q.slots with
      | some f => exact ⟨f, rfl, freeP_lt hf2⟩
      | none => rw [hf2] at h; cases h
  ·cases h
 ·rename_i hk
  rw [if_neg hk]
  unfold PX.put at h ⊢
  split at h
  ·rename_i hf
   rw [if_pos hf]
   split at h
   ·cases h
   ·rename_i hfl
    rw [if_neg hfl]
    cases hs : sameP q.slots bs with
    | some i =>
     rw [hs] at h
     dsimp only at h ⊢
     split at h
     ·cases h
     ·rename_i h1
      rw [if_neg h1]
      exact ⟨i, rfl, sameP_lt hs⟩
    | none =>
     rw [hs] at h
     dsimp only at h ⊢
     split at h
     ·cases h
     ·rename_i h0
      rw [if_neg h0]
      split at h
      ·cases h
      ·rename_i h1
       rw [if_neg h1]
       cases hr : q.room with
       | none => rw [hr] at h; cases h
       | some f =>
        refine ⟨f, rfl, ?_⟩
        unfold PX.room at hr
        cases hf2 : freeP q.slots with
        | some f2 =>
         rw [hf2] at hr
         injection hr with hr
         rw [← hr]
         exact freeP_lt hf2
        | none =>
         rw [hf2] at hr
         dsimp only at hr
         split at hr
         ·injection hr with hr
          rw [← hr, ← g.whens]
          have := g.m1
          have := g.whens
          exact poldFrom_lt _ _ _ (by omega) (Nat.le_refl _)
         ·cases hr
  ·cases h
def updP (x : PT) (i : Int) (bs vs : List Int) (fl : Int) : Int × List PX × Option Int :=
 if chkP x.ds i bs.length = 0 then match x.maps[i.toNat]? with
  | some m => if (vs.length : Int) = m.d.val then
    (if (m.q.putA bs fl).1.2.2 = 0 then (0, x.qs.set i.toNat (m.q.putA bs fl).2, some (plI i (m.q.putA bs fl).1.1))
    else ((m.q.putA bs fl).1.2.2, x.qs.set i.toNat (m.q.putA bs fl).2, none))
   else (2, x.qs, none)
  | none => (14, x.qs, none)
 else (chkP x.ds i bs.length, x.qs, none)
structure PUSt (w w' : World) (x x' : PT) (s : Mem.MS) (qs : List PX) (rs : List Mem.Reg) : Prop where
 both : PBoth w' x' { s with rs := rs }
 qs : x'.qs = qs
 t : x'.t = x.t
 ds : x'.ds = x.ds
 sblk : ({ s with rs := rs } : Mem.MS).blocks = s.blocks
 touch : Touch (x.blocks ++ s.blocks) w w'
 blocks : ∀ b ∈ x'.blocks, b ∈ x.blocks ∨ w.heap.size ≤ b
theorem PUSt.same {w w' : World} {x x' : PT} {s : Mem.MS} {qs : List PX} (h : PBoth w x s) (st : PStep w w' x x' qs) : PUSt w w' x x' s qs s.rs :=
 ⟨h.step st, st.qs, st.t, st.ds, rfl, st.touch.mono (fun _b hb => Or.inl (List.mem_append_left _ hb)), st.blocks⟩
def updE (rs : List Mem.Reg) (vs : List Int) (a : Int × List PX × Option Int) : Int := match a.2.2 with
 | some p => Mem.writeE rs p vs
 | none => a.1
def updRs (rs : List Mem.Reg) (vs : List Int) (a : Int × List PX × Option Int) : List Mem.Reg := match a.2.2 with
 | some p => Mem.writeRs rs p vs
 | none => rs
def PUpdPost (w : World) (x : PT) (s : Mem.MS) (vs : List Int) (a : Int × List PX × Option Int) (e : Ending) (w' : World) : Prop := e = .returned (.int .i64 (updE s.rs vs a)) ∧ ∃ x', PUSt w w' x x' s a.2.1 (updRs s.rs vs a)
theorem pupdate_any {w : World} {x : PT} {s : Mem.MS} (h : PBoth w x s) (i : Int) {sa : Option Addr} {sl : Nat} {bs : List Int} (hk : KeyAt w sa sl bs) (sc : Nat) (hsc : sl ≤ sc)
  (hout : ∀ b off, sa = some ⟨b, off, none⟩ → 1 ≤ bs.length → b ∉ x.blocks) {va : Option Addr} {vl : Nat} {vs : List Int} (hv : KeyAt w va vl vs) (vc : Nat) (hvout : ∀ b off, va = some ⟨b, off, none⟩ → 1 ≤ vs.length → b ∉ x.blocks) (fl : Int) (f0 : 0 ≤ fl) :
  Calls Tryz.prog 24 #[.pointer (some ⟨x.t, 0, none⟩), .int .i64 i, .slice sa sl sc, .slice va vl vc, .int .u64 fl] w (PUpdPost w x s vs (updP x i bs vs fl)) := by
 have hz := (zero_of_info (P := Tryz.prog) zero89).1
 have hsz := (zero_of_info (P := Tryz.prog) zero89).2
 have H1 := toHid (asked_any h.tab i sa sl sc (by have := hk.1; have := hk.2.2.1; omega))
 have hl := hk.1
 have hvl := hv.1
 subst hl hvl
 have hvl9 := hv.2.2.1
 by_cases h0 : chkP x.ds i bs.length = 0
 ·obtain ⟨k, m, rfl, hm, hkey⟩ := chk_ok h0
  have hmem := List.mem_of_getElem? hm
  have hv1 : updP x k bs vs fl = if (vs.length : Int) = m.d.val then
    (if (m.q.putA bs fl).1.2.2 = 0 then (0, x.qs.set k (m.q.putA bs fl).2, some (plI k (m.q.putA bs fl).1.1))
    else ((m.q.putA bs fl).1.2.2, x.qs.set k (m.q.putA bs fl).2, none))
   else (2, x.qs, none) := by
   unfold updP
   rw [if_pos h0, Int.toNat_natCast, hm]
  have ha : askV x k bs.length = m.v := by unfold askV; rw [if_pos h0, nth_of hm]; rfl
  rw [h0, ha] at H1
  rw [hv1]
  have hok := h.tab.ok m hmem
  have hgood := (h.tab.maps m hmem).good
  have hkd := hok.kind
  by_cases hvv : (vs.length : Int) = m.d.val
  ·rw [if_pos hvv]
   have hs : ((vs.length : Int) != m.d.val) = false := by simpa using hvv
   have HMT := method_put m.d.kind (by rw [← hkd]; exact hgood.k0) (by rw [← hkd]; exact hgood.k3) m.X
   have HCF := call_put m.d.kind (by rw [← hkd]; exact hgood.k0) (by rw [← hkd]; exact hgood.k3)
   have HF := toHid (fun w0 (ht : Touch [] w w0) => kput_any ((h.tab.maps m hmem).still ht) (hk.touch ht) (fun b off e hp hx => hout b off e hp (PT.mem_map hmem hx)) sc hsc fl f0)
   rw [hkd] at HF
   have HG := toHid (And.intro h (And.intro hm (hgood.putA bs fl)))
   have HSL := toHid (fun h9 => pput_slot hgood (bs := bs) (fl := fl) h9)
   have HV := toHid (And.intro hv (And.intro hvout hgood.m2))
   have hk8 : k < 8 := by have := (List.getElem?_eq_some_iff.1 hm).1; have := h.tab.many; omega
   unfold PMap.v ixV at H1
   generalize m.q.putA bs fl = pq at *
   obtain ⟨⟨sI, fr, er⟩, q⟩ := pq
   generalize hVL : vs.length = VL at *
   have HVL := toHid hVL
   generalize typF m.d.kind = ty at *
   generalize putF m.d.kind = ff at *
   generalize hmv : m.d.val = mv at *
   clear h hk hv hvout hout h0 hmem hv1 hkey hm hok hgood hkd hVL hmv ha hvv
   by_cases he : er = 0
   ·subst he
    rw [if_pos rfl]
    go_enter Tryz.func24, Tryz.ntmps24
    go_wp2_with fail
    refine Calls.mono H1.out ?_
    rintro e w2 ⟨rfl, ht2⟩
    have hta : ∀ o, Touch [] w (w2.alloc o) := fun o => ht2.alloc o
    have HT := toHid hta
    clear ht2 hta H1
    go_wp2_with fail
    refine Calls.mono (HF.out _ (HT.out _)) ?_
    rintro e w3 ⟨rfl, st⟩
    obtain ⟨x1, st1⟩ := HG.out.1.tab.step HG.out.2.1 (st.of_still (HT.out _)) HG.out.2.2.2
    obtain ⟨sN, hsI, hsN⟩ := HSL.out trivial
    have hsI : sI = sN := hsI
    subst hsI
    have hB := HG.out.1.step st1
    have hBd := hB.still ((Touch.refl [] w3).drew)
    have hs64 : sN < 64 := by have := HV.out.2.2; omega
    have HP := toHid (fun w0 => place_any w0 k sN hk8 hs64)
    have hkv := (HV.out.1.over st1.touch (fun b off e hp => HV.out.2.1 b off e (by rw [← HVL.out]; exact hp))).touch ((Touch.refl [] w3).drew)
    have hav : Mem.ArgAt w3.drew (.slice va VL vc) vs := ⟨va, vc, by rw [HVL.out], hkv.2.1, hkv.2.2.1, fun hp => by
     obtain ⟨b, off, e1, hc⟩ := hkv.2.2.2 hp
     refine ⟨b, off, e1, fun j v hj => ?_⟩
     have hjl : j < vs.length := by have := (List.getElem?_eq_some_iff.1 hj).1; simpa using this
     have := hc j hjl
     rw [List.getElem?_map, List.getElem?_eq_getElem hjl] at hj
     rw [List.getD_eq_getElem?_getD, List.getElem?_eq_getElem hjl] at this
     rw [this]
     exact hj⟩
    have HA := toHid (Mem.write_any hBd.mem (plI k sN) (.slice va VL vc) vs (by unfold plI; omega) (by unfold plI; omega) hav)
    have ht0 : x.t ∉ s.blocks := by rw [← st1.t]; exact hB.apart _ (PT.mem_top (by simp [PT.top]))
    have e0 := hBd.tab.c0
    rw [hBd.at_, st1.t] at e0
    have HSS : Hid (∀ w', Touch s.blocks w3.drew w' → w'.cell? ⟨x.t, 0, none⟩ = some (.pointer (some ⟨s.m, 0, none⟩))) := fun w' ht => ht.cell e0 ht0
    have HU : Hid (∀ w', Touch s.blocks w3.drew w' → Mem.MemAt w' { s with rs := Mem.writeRs s.rs (plI k sN) vs } → ({ s with rs := Mem.writeRs s.rs (plI k sN) vs } : Mem.MS).blocks = s.blocks → PUpdPost w x s vs (0, x.qs.set k q, some (plI k sN)) (.returned (.int .i64 (Mem.writeE s.rs (plI k sN) vs))) w') := fun w' ht hm hb =>
     ⟨rfl, x1, ⟨hBd.over hm rfl (fun b hb' => Or.inl (hb ▸ hb')) ht, st1.qs, st1.t, st1.ds, hb, ((st1.touch.drew).mono (S' := x.blocks ++ s.blocks) (fun b hb => Or.inl (List.mem_append_left _ hb))).trans ht (fun b hb => Or.inl (List.mem_append_right _ hb)), st1.blocks⟩⟩
    generalize plI k sN = pl at *
    clear st st1 hB hBd hs64 hkv hav ht0 e0 hsN HF HMT HCF HT
    go_wp2_with fail
    refine wp_region_held_drew (S := fun w' => w'.cell? ⟨x.t, 0, none⟩ = some (.pointer (some ⟨s.m, 0, none⟩))) (by kernel_rfl) ?_ (fun hHeld => ?_)
    ·exact HSS.out _ (Touch.refl _ _)
    refine tk 0 (v := ?_) rfl ?_ ?_
    rotate_left
    ·(intro w hSw; (try dsimp only at hSw); go_simp; try with_reducible rfl)
    simp only [Act.put, AP]
    refine tk 1 (v := ?_) rfl ?_ ?_
    rotate_left
    ·(intro w hSw; (try dsimp only at hSw); go_simp; try with_reducible rfl)
    simp only [Act.put, AP]
    refine tk 2 (v := ?_) rfl ?_ ?_
    rotate_left
    ·(intro w hSw; (try dsimp only at hSw); go_simp; try with_reducible rfl)
    simp only [Act.put, AP]
    refine tk 3 (v := ?_) rfl ?_ ?_
    rotate_left
    ·(intro w hSw; (try dsimp only at hSw); go_simp; try with_reducible rfl)
    simp only [Act.put, AP]
    refine tk 4 (v := ?_) rfl ?_ ?_
    rotate_left
    ·(intro w hSw; (try dsimp only at hSw); go_simp; try with_reducible rfl)
    simp only [Act.put, AP]
    refine tk 5 (v := ?_) rfl ?_ ?_
    rotate_left
    ·(intro w hSw; (try dsimp only at hSw); go_simp; try with_reducible rfl)
    simp only [Act.put, AP]
    refine tk 7 (v := ?_) rfl ?_ ?_
    rotate_left
    ·(intro w hSw; (try dsimp only at hSw); go_simp; try with_reducible rfl)
    simp only [Act.put, AP]
    refine wpAnyH_ready (rs := [6]) (by kernel_rfl) (by simp) ?_
    refine AllReadyH.cons rfl (fun K hK => ?_) AllReadyH.nil
    simp only [AP]
    go_simp
    refine Calls.mono (HP.out _) ?_; rintro e w4 ⟨rfl, rfl⟩
    go_wp2_with fail
    refine hK.out _ _ ?_ (fun hHeld => ?_)
    ·exact HSS.out _ (Touch.refl _ _)
    clear hK K
    try simp only [Act.put, AP]
    refine wpAnyH_ready (rs := [8]) (by kernel_rfl) (by simp) ?_
    refine AllReadyH.cons rfl (fun K hK => ?_) AllReadyH.nil
    simp only [AP]
    go_simp
    refine Calls.mono HA.out ?_; rintro e w4 ⟨rfl, ht4, hm4, hb4⟩; have HN := toHid (HU.out _ ht4 hm4 hb4); have HTX := toHid ht4; clear ht4 hm4 hb4
    go_wp2_with fail
    refine hK.out _ _ ?_ (fun hHeld => ?_)
    ·exact HSS.out _ HTX.out
    clear hK K
    try simp only [Act.put, AP]
    refine wpAnyH_ready (rs := [9]) (by kernel_rfl) (by simp) ?_
    refine AllReadyH.cons rfl (fun K hK => ?_) AllReadyH.nil
    simp only [AP]
    go_simp
    refine hK.out _ _ ?_ (fun hHeld => ?_)
    ·exact hHeld
    clear hK K
    try simp only [Act.put, AP]
    refine wpAnyH_done (by kernel_rfl) ?_ _
    clear hHeld HSS HA HU HTX
    go_wp2
    go_ret
    exact HN.out
   ·rw [if_neg he]
    have hne : (er != 0) = true := by simpa using he
    clear he
    go_enter Tryz.func24, Tryz.ntmps24
    go_wp2_with fail
    refine Calls.mono H1.out ?_
    rintro e w2 ⟨rfl, ht2⟩
    have hta : ∀ o, Touch [] w (w2.alloc o) := fun o => ht2.alloc o
    have HT := toHid hta
    clear ht2 hta H1
    go_wp2_with fail
    refine Calls.mono (HF.out _ (HT.out _)) ?_
    rintro e w3 ⟨rfl, st⟩
    obtain ⟨x1, st1⟩ := HG.out.1.tab.step HG.out.2.1 (st.of_still (HT.out _)) HG.out.2.2.2
    have HX := toHid (PUSt.same HG.out.1 st1)
    clear st st1 HF HMT HCF
    go_wp2
    go_ret
    exact ⟨rfl, x1, HX.out⟩
  ·rw [if_neg hvv]
   have hs : ((vs.length : Int) != m.d.val) = true := by simpa using hvv
   have HX := toHid h
   unfold PMap.v ixV at H1
   generalize vs.length = VL at *
   generalize typF m.d.kind = ty at *
   generalize m.d.val = mv at *
   clear h hk hv hvout hout h0 hmem hv1 hkey hm hok hgood hkd ha hvv
   go_enter Tryz.func24, Tryz.ntmps24
   go_wp2_with fail
   refine Calls.mono H1.out ?_
   rintro e w2 ⟨rfl, ht2⟩
   have HF : Hid (∀ o, ∃ x', PUSt w (w2.alloc o) x x' s x.qs s.rs) := fun o => ⟨x, PUSt.same HX.out (PStep.refl HX.out.tab (ht2.alloc o))⟩
   clear ht2
   go_wp2
   go_ret
   exact ⟨rfl, HF.out _⟩
 ·have hv1 : updP x i bs vs fl = (chkP x.ds i bs.length, x.qs, none) := if_neg h0
  have ha : askV x i bs.length = zeroV := if_neg h0
  rw [ha] at H1
  rw [hv1]
  have HX := toHid h
  have hne : (chkP x.ds i bs.length != 0) = true := by simpa using h0
  unfold zeroV at H1
  clear hk h0 hv hv1 ha hout hvout h
  generalize chkP x.ds i bs.length = ce at *
  go_enter Tryz.func24, Tryz.ntmps24
  go_wp2_with fail
  refine Calls.mono H1.out ?_
  rintro e w2 ⟨rfl, ht2⟩
  have HF : Hid (∀ o, ∃ x', PUSt w (w2.alloc o) x x' s x.qs s.rs) := fun o => ⟨x, PUSt.same HX.out (PStep.refl HX.out.tab (ht2.alloc o))⟩
  clear ht2
  go_wp2
  go_ret
  exact ⟨rfl, HF.out _⟩
end Go.Proofs.YtmhhahmjkopjhaaGreat
end
section
namespace Go.Proofs.YtmhhahmjkopjhaaGreat.Mem
open Go.RowKit
def ReadPost2 (w : World) (s : MS) (addr n : Int) (e : Ending) (w' : World) : Prop := ∃ v, e = .returned (.tuple #[v, .int .i64 (readE s.rs addr n)]) ∧ SliceIs w' v (readV s.rs addr n) ∧ (∀ b off l c, v = .slice (some ⟨b, off, none⟩) l c → w.heap.size ≤ b) ∧ Touch [] w w'
theorem read2_any {w : World} {s : MS} (h : MemAt w s) (addr n : Int) (ha0 : 0 ≤ addr) (ha1 : addr ≤ 18446744073709551615) (hn : n ≤ 9223372036854775807) :
  Calls Tryz.prog 41 #[.pointer (some ⟨s.m, 0, none⟩), .int .u64 addr, .int .i64 n] w (ReadPost2 w s addr n) := by
 by_cases hneg : n < 0
 ·have HF : Hid (ReadPost2 w s addr n (.returned (.tuple #[.slice none 0 0, .int .i64 2])) w) := ⟨_, by unfold readE; rw [if_pos hneg], Or.inl ⟨by unfold readV; rw [if_pos (by omega)], rfl⟩, (fun b _ _ _ e => by cases e), Touch.refl _ w⟩
  clear h
  go_enter Tryz.func41, Tryz.ntmps41
  go_wp2
  go_ret2
  exact HF.out
 ·by_cases h0 : n = 0
  ·subst h0
   have HF : Hid (ReadPost2 w s addr 0 (.returned (.tuple #[.slice none 0 0, .int .i64 0])) w) := ⟨_, rfl, Or.inl ⟨rfl, rfl⟩, (fun b _ _ _ e => by cases e), Touch.refl _ w⟩
   clear h
   go_enter Tryz.func41, Tryz.ntmps41
   go_wp2
   go_ret2
   exact HF.out
  ·obtain ⟨z, rfl⟩ : ∃ z : Nat, n = z := ⟨n.toNat, by omega⟩
   have hz1 : 1 ≤ z := by omega
   have hb0 : ((z : Int) == 0) = false := by simpa using h0
   have hE : readE s.rs addr z = lookE s.rs addr z := by unfold readE; rw [if_neg hneg, if_neg h0]
   have hV : readV s.rs addr z = tellR s.rs addr z := by unfold readV; rw [if_neg (by omega)]
   have HEV := toHid (And.intro hE hV)
   have HL := toHid (look_any h addr z ha0 ha1 hz1 (by omega))
   have HM := toHid h
   clear h hE hV h0
   go_enter Tryz.func41, Tryz.ntmps41
   go_wp2_with fail
   refine HL.out.mono ?_
   rintro e w' ⟨⟨k, rfl⟩, (⟨h1, h2, rfl⟩ | ⟨h1, r, hr, a, hal, htell, rfl⟩)⟩
   ·generalize hx : lookE s.rs addr z = x at *
    have HF : Hid (ReadPost2 w s addr z (.returned (.tuple #[.slice none 0 0, .int .i64 x])) (w.drewN k)) := ⟨_, by rw [HEV.out.1], Or.inl ⟨by rw [HEV.out.2, h2], rfl⟩, (fun b _ _ _ e => by cases e), (Touch.refl _ w).drewN k⟩
    have hb : (x == 0) = false := by simpa using h1
    have hb2 : (x != 0) = true := by simpa using h1
    clear HL h1 h2 hx
    go_wp2
    go_ret2
    exact HF.out
   ·have hbb := BytesAt.of_blk (off := a) ((HM.out.regs r hr).bytes.drewN k) z
    have hlen : ((r.bytes.drop a).take z).length = z := by simp; omega
    have hsz := (HM.out.ok r hr).size2
    have HC := toHid (copied_any r.bb a z z ((r.bytes.drop a).take z) (w.drewN k) (by omega) hlen hbb ((HM.out.regs r hr).bytes.lt))
    have HT := toHid (And.intro htell h1)
    clear hbb htell h1 HL
    go_wp2_with fail
    refine HC.out.mono ?_
    rintro e w2 ⟨rfl, hB, ht⟩
    have HF : Hid (ReadPost2 w s addr z (.returned (.tuple #[.slice (some ⟨w.heap.size, 0, none⟩) z z, .int .i64 0])) w2) := by
     refine ⟨_, by rw [HEV.out.1, HT.out.2], Or.inr ⟨by rw [HEV.out.2, HT.out.1, hlen]; exact hz1, w.heap.size, ?_, ?_⟩, (fun b _ _ _ e => by injection e with e; injection e with e; injection e with e; omega), ((Touch.refl [] w).drewN k).trans ht (by simp)⟩
     ·rw [HEV.out.2, HT.out.1, hlen]
     ·rw [HEV.out.2, HT.out.1]
      exact hB
    clear HC hB ht
    go_wp2
    go_ret2
    exact HF.out
end Go.Proofs.YtmhhahmjkopjhaaGreat.Mem
end
section
namespace Go.Proofs.YtmhhahmjkopjhaaGreat
open Go.RowKit
def getP (x : PT) (rs : List Mem.Reg) (i : Int) (bs : List Int) : (List Int × Int) × List PX :=
 if chkP x.ds i bs.length = 0 then match x.maps[i.toNat]? with
  | some m => ((match (m.q.findA bs).1 with
   | some s => (Mem.readV rs (plI i (s : Int)) m.d.val, Mem.readE rs (plI i (s : Int)) m.d.val)
   | none => ([], 14)), x.qs.set i.toNat (m.q.findA bs).2)
  | none => (([], 14), x.qs)
 else (([], chkP x.ds i bs.length), x.qs)
def PGetPost (w : World) (x : PT) (a : (List Int × Int) × List PX) (e : Ending) (w' : World) : Prop := ∃ v, e = .returned (.tuple #[v, .int .i64 a.1.2]) ∧ Mem.SliceIs w' v a.1.1 ∧ (∀ b off l c, v = .slice (some ⟨b, off, none⟩) l c → w.heap.size ≤ b) ∧ ∃ x', PStep w w' x x' a.2
theorem PStep.maps_at {w w' : World} {x x' : PT} {qs : List PX} (st : PStep w w' x x' qs) {k : Nat} {m : PMap} (hm : x.maps[k]? = some m) : ∃ m', x'.maps[k]? = some m' ∧ m'.d = m.d := by
 have h1 := congrArg (fun l => l[k]?) st.ds
 unfold PT.ds at h1
 simp only [List.getElem?_map, hm, Option.map_some] at h1
 cases hq : x'.maps[k]? with
 | none => rw [hq] at h1; cases h1
 | some m' =>
  rw [hq] at h1
  simp only [Option.map_some, Option.some.injEq] at h1
  exact ⟨m', rfl, h1⟩
theorem pget_any {w : World} {x : PT} {s : Mem.MS} (h : PBoth w x s) (i : Int) {sa : Option Addr} {sl : Nat} {bs : List Int} (hk : KeyAt w sa sl bs) (sc : Nat) (hsc : sl ≤ sc) :
  Calls Tryz.prog 23 #[.pointer (some ⟨x.t, 0, none⟩), .int .i64 i, .slice sa sl sc] w (PGetPost w x (getP x s.rs i bs)) := by
 have H1 := toHid (plookup_any h.tab i hk sc hsc)
 have hl := hk.1
 subst hl
 by_cases h0 : chkP x.ds i bs.length = 0
 ·obtain ⟨k, m, rfl, hm, hkey⟩ := chk_ok h0
  have hmem := List.mem_of_getElem? hm
  have hqs : x.qs[k]? = some m.q := by unfold PT.qs; rw [List.getElem?_map, hm]; rfl
  have hl : lookP x k bs = ((match (m.q.findA bs).1 with
   | some s => plI k (s : Int)
   | none => 0, 0), x.qs.set k (m.q.findA bs).2) := by
   unfold lookP
   rw [if_pos h0, Int.toNat_natCast, hqs] <;> rfl
  have hv : getP x s.rs k bs = ((match (m.q.findA bs).1 with
   | some u => (Mem.readV s.rs (plI k (u : Int)) m.d.val, Mem.readE s.rs (plI k (u : Int)) m.d.val)
   | none => ([], 14)), x.qs.set k (m.q.findA bs).2) := by
   unfold getP
   rw [if_pos h0, Int.toNat_natCast, hm]
  rw [hl] at H1
  rw [hv]
  have hok := h.tab.ok m hmem
  have hv2 := hok.v2
  have hk8 : k < 8 := by have := (List.getElem?_eq_some_iff.1 hm).1; have := h.tab.many; omega
  have HS64 : Hid (∀ s, (m.q.findA bs).1 = some s → s < 64) := fun s hs => by
   have h1 := pfind_lt hs
   have h2 := (h.tab.maps m hmem).good.m2
   omega
  have HH := toHid (And.intro h hm)
  generalize m.q.findA bs = fq at *
  obtain ⟨fo, q⟩ := fq
  clear h hk h0 hmem hqs hv hkey hm hl hok
  cases fo with
  | none =>
   go_enter Tryz.func23, Tryz.ntmps23
   go_wp2_with fail
   refine Calls.mono H1.out ?_
   rintro e w2 ⟨rfl, x1, st⟩
   have HX := toHid st
   clear st H1
   go_wp2
   go_ret2
   exact ⟨_, rfl, Or.inl ⟨rfl, rfl⟩, (fun b _ _ _ e => by cases e), x1, HX.out⟩
  | some sN =>
   have hs64 := HS64.out sN rfl
   dsimp only at H1 ⊢
   have hp0 : (plI k sN == 0) = false := by unfold plI; simp; omega
   have HPL : Hid (0 ≤ plI k sN ∧ plI k sN ≤ 18446744073709551615) := ⟨by unfold plI; omega, by unfold plI; omega⟩
   generalize plI k sN = pl at *
   go_enter Tryz.func23, Tryz.ntmps23
   go_wp2_with fail
   refine Calls.mono H1.out ?_
   rintro e w2 ⟨rfl, x1, st⟩
   have HX := toHid st
   have hR := (HH.out.1.step st).still ((Touch.refl [] w2).drew)
   obtain ⟨m1, hm1, hmd⟩ := st.maps_at HH.out.2
   obtain ⟨gb, hg⟩ := hR.tab.some_g hm1
   obtain ⟨_, _, b2, _, _⟩ := hR.tab.boxed hm1 hg
   rw [hmd] at b2
   have e0 := hR.tab.c0
   have e1 := hR.tab.c1
   rw [hR.at_, st.t] at e0
   rw [hg, st.t] at e1
   unfold slV at e1
   rw [Option.map_some] at e1
   have hkl1 : (k : Int) < x1.maps.length := by have := (List.getElem?_eq_some_iff.1 hm1).1; omega
   have HA := toHid (Mem.read2_any hR.mem pl m.d.val HPL.out.1 HPL.out.2 (by omega))
   have HSS : Hid (∀ w', Touch [] w2.drew w' → w'.cell? ⟨x.t, 0, none⟩ = some (.pointer (some ⟨s.m, 0, none⟩)) ∧ w'.cell? ⟨x.t, 1, none⟩ = some (.slice (some ⟨gb, 0, none⟩) x1.maps.length x1.cap) ∧ w'.cell? ⟨gb, k * 5 + 2, none⟩ = some (.int .i64 m.d.val)) := fun w' ht => ⟨ht.cell e0 (by simp), ht.cell e1 (by simp), ht.cell b2 (by simp)⟩
   generalize x1.maps.length = L at *
   generalize x1.cap = cp at *
   generalize m.d.val = mv at *
   clear st H1 hR hm1 hmd hg e0 e1 b2
   go_wp2_with fail
   refine wp_region_held_drew (S := fun w' => w'.cell? ⟨x.t, 0, none⟩ = some (.pointer (some ⟨s.m, 0, none⟩)) ∧ w'.cell? ⟨x.t, 1, none⟩ = some (.slice (some ⟨gb, 0, none⟩) L cp) ∧ w'.cell? ⟨gb, k * 5 + 2, none⟩ = some (.int .i64 mv)) (by kernel_rfl) ?_ (fun hHeld => ?_)
   ·exact HSS.out _ (Touch.refl _ _)
   refine tk 0 (v := ?_) rfl ?_ ?_
   rotate_left
   ·(intro w hSw; (try dsimp only at hSw); go_simp; try with_reducible rfl)
   simp only [Act.put, AP]
   refine tk 1 (v := ?_) rfl ?_ ?_
   rotate_left
   ·(intro w hSw; (try dsimp only at hSw); go_simp; try with_reducible rfl)
   simp only [Act.put, AP]
   refine tk 2 (v := ?_) rfl ?_ ?_
   rotate_left
   ·(intro w hSw; (try dsimp only at hSw); go_simp; try with_reducible rfl)
   simp only [Act.put, AP]
   refine tk 3 (v := ?_) rfl ?_ ?_
   rotate_left
   ·(intro w hSw; (try dsimp only at hSw); go_simp; try with_reducible rfl)
   simp only [Act.put, AP]
   refine tk 4 (v := ?_) rfl ?_ ?_
   rotate_left
   ·(intro w hSw; (try dsimp only at hSw); go_simp; try with_reducible rfl)
   simp only [Act.put, AP]
   refine tk 5 (v := ?_) rfl ?_ ?_
   rotate_left
   ·(intro w hSw; (try dsimp only at hSw); go_simp; try with_reducible rfl)
   simp only [Act.put, AP]
   refine tk 6 (v := ?_) rfl ?_ ?_
   rotate_left
   ·(intro w hSw; (try dsimp only at hSw); go_simp; try with_reducible rfl)
   simp only [Act.put, AP]
   refine tk 7 (v := ?_) rfl ?_ ?_
   rotate_left
   ·(intro w hSw; (try dsimp only at hSw); go_simp; try with_reducible rfl)
   simp only [Act.put, AP]
   refine tk 8 (v := ?_) rfl ?_ ?_
   rotate_left
   ·(intro w hSw; (try dsimp only at hSw); go_simp; try with_reducible rfl)
   simp only [Act.put, AP]
   refine tk 9 (v := ?_) rfl ?_ ?_
   rotate_left
   ·(intro w hSw; (try dsimp only at hSw); go_simp; try with_reducible rfl)
   simp only [Act.put, AP]
   refine tk 10 (v := ?_) rfl ?_ ?_
   rotate_left
   ·(intro w hSw; (try dsimp only at hSw); go_simp; try with_reducible rfl)
   simp only [Act.put, AP]
   refine tk 11 (v := ?_) rfl ?_ ?_
   rotate_left
   ·(intro w hSw; (try dsimp only at hSw); go_simp; try with_reducible rfl)
   simp only [Act.put, AP]
   refine tk 12 (v := ?_) rfl ?_ ?_
   rotate_left
   ·(intro w hSw; (try dsimp only at hSw); go_simp; try with_reducible rfl)
   simp only [Act.put, AP]
   refine tk 13 (v := ?_) rfl ?_ ?_
   rotate_left
   ·(intro w hSw; (try dsimp only at hSw); go_simp; try with_reducible rfl)
   simp only [Act.put, AP]
   refine wpAnyH_ready (rs := [14]) (by kernel_rfl) (by simp) ?_
   refine AllReadyH.cons rfl (fun K hK => ?_) AllReadyH.nil
   simp only [AP]
   go_simp
   refine Calls.mono HA.out ?_; rintro e w4 ⟨rv, rfl, hsl, hnw, ht4⟩; have HN := toHid (And.intro hsl (And.intro hnw ht4)); clear hsl hnw ht4
   go_wp2_with fail
   refine hK.out _ _ ?_ (fun hHeld => ?_)
   ·exact HSS.out _ HN.out.2.2
   clear hK K
   try simp only [Act.put, AP]
   refine tk 15 (v := ?_) rfl ?_ ?_
   rotate_left
   ·(intro w hSw; (try dsimp only at hSw); go_simp; try with_reducible rfl)
   simp only [Act.put, AP]
   refine tk 16 (v := ?_) rfl ?_ ?_
   rotate_left
   ·(intro w hSw; (try dsimp only at hSw); go_simp; try with_reducible rfl)
   simp only [Act.put, AP]
   refine wpAnyH_ready (rs := [17]) (by kernel_rfl) (by simp) ?_
   refine AllReadyH.cons rfl (fun K hK => ?_) AllReadyH.nil
   simp only [AP]
   go_simp
   refine hK.out _ _ ?_ (fun hHeld => ?_)
   ·exact hHeld
   clear hK K
   try simp only [Act.put, AP]
   refine wpAnyH_ready (rs := [18]) (by kernel_rfl) (by simp) ?_
   refine AllReadyH.cons rfl (fun K hK => ?_) AllReadyH.nil
   simp only [AP]
   go_simp
   refine hK.out _ _ ?_ (fun hHeld => ?_)
   ·exact hHeld
   clear hK K
   try simp only [Act.put, AP]
   refine wpAnyH_done (by kernel_rfl) ?_ _
   clear hHeld HSS HA
   go_wp2
   go_ret2
   exact ⟨_, rfl, HN.out.1, (fun b off l c e => by have h1 := HN.out.2.1 b off l c e; have h2 : w2.drew.heap.size = w2.heap.size := rfl; have h3 := HX.out.touch.size; omega), x1, HX.out.still (((Touch.refl [] w2).drew).trans HN.out.2.2 (by simp))⟩
 ·have hv : getP x s.rs i bs = (([], chkP x.ds i bs.length), x.qs) := if_neg h0
  have hl : lookP x i bs = ((0, chkP x.ds i bs.length), x.qs) := if_neg h0
  rw [hl] at H1
  rw [hv]
  have hne : (chkP x.ds i bs.length != 0) = true := by simpa using h0
  generalize chkP x.ds i bs.length = ce at *
  clear h hk h0 hv hl
  go_enter Tryz.func23, Tryz.ntmps23
  go_wp2_with fail
  refine Calls.mono H1.out ?_
  rintro e w2 ⟨rfl, x1, st⟩
  have HX := toHid st
  clear st
  go_wp2
  go_ret2
  exact ⟨_, rfl, Or.inl ⟨rfl, rfl⟩, (fun b _ _ _ e => by cases e), x1, HX.out⟩
end Go.Proofs.YtmhhahmjkopjhaaGreat
end
section
namespace Go.Proofs.YtmhhahmjkopjhaaGreat
open Go.RowKit
theorem maxSum_le (ds : List MDef) (h : ∀ d ∈ ds, 0 ≤ d.max) (k : Nat) : maxSum (ds.take k) ≤ maxSum ds := by
 unfold maxSum
 induction ds generalizing k with
 | nil => simp
 | cons d ds ih =>
  cases k with
  | zero =>
   have h0 : 0 ≤ (List.map MDef.max (d :: ds)).sum := by
    have : ∀ l : List MDef, (∀ d ∈ l, 0 ≤ d.max) → 0 ≤ (l.map MDef.max).sum := fun l => by
     induction l with
     | nil => simp
     | cons a l ih2 =>
      intro hl
      have h1 := hl a (by simp)
      have h2 := ih2 (fun d hd => hl d (by simp [hd]))
      simp only [List.map_cons, List.sum_cons]
      omega
    exact this _ h
   simpa using h0
  | succ k =>
   have := ih (fun d hd => h d (by simp [hd])) k
   simp only [List.take_succ_cons, List.map_cons, List.sum_cons]
   omega
structure Settles (x : PT) (s : Mem.MS) : Prop where
 mx : ∀ m ∈ x.maps, 1 ≤ m.d.max ∧ m.d.max ≤ 64
 room : roomOk x.ds s.rs
 next : s.next ≤ 1000000
theorem Settles.add {w w' : World} {x : PT} {s s' : Mem.MS} (h : Settles x s) (ho : ∀ m ∈ x.maps, PMapOk m) (hmany : x.maps.length ≤ 8) {k q : Nat} {m : PMap} (hm : x.maps[k]? = some m) (hq : (q : Int) < m.d.max) (hS : SetAt w w' x s s' (plcs x.ds k ++ rowP k m.d.val q)) :
  Mem.addE s'.rs (plI k q) m.d.val 3 = 0 ∧ s'.next < 4611686018427387904 := by
 have hmem := List.mem_of_getElem? hm
 have hok := ho m hmem
 have hdk : x.ds[k]? = some m.d := by unfold PT.ds; rw [List.getElem?_map, hm]; rfl
 have hkl := (List.getElem?_eq_some_iff.1 hm).1
 have hdl : x.ds.length = x.maps.length := by simp [PT.ds]
 have hmx : ∀ d ∈ x.ds, 1 ≤ d.max ∧ d.max ≤ 64 ∧ 1 ≤ d.val ∧ d.val ≤ 64 := fun d hd => by
  obtain ⟨m', hm', rfl⟩ := List.mem_map.1 hd
  exact ⟨(h.mx m' hm').1, (h.mx m' hm').2, (ho m' hm').v1, (ho m' hm').v2⟩
 have hf := hS.adds.facts
 have hle := plcs_len (ds := x.ds) (k := k) (by omega) (fun d hd => by have := hmx d hd; omega)
 have hsum := maxSum_snoc x.ds k m.d hdk
 have hs1 := maxSum_le x.ds (fun d hd => by have := hmx d hd; omega) (k + 1)
 have hr := h.room.2
 have hbd := maxSum_bd x.ds (fun d hd => by have := hmx d hd; omega)
 have hlen : (plcs x.ds k ++ rowP k m.d.val q).length = (plcs x.ds k).length + q := by rw [List.length_append, rowP_len]
 have hm64 := h.mx m hmem
 have hfree := hS.adds.free (h.room.1 k m.d (by omega) hdk q hq) (fun p hp => by
  rcases List.mem_append.1 hp with hp | hp
  ·obtain ⟨i, d, u, hi, hd, hu, rfl⟩ := plcs_mem hp
   have h9 := hmx d (List.mem_of_getElem? hd)
   refine ⟨by dsimp only; omega, ?_⟩
   exact pl_apart (by omega) (by omega) hok.v1 hok.v2 h9.2.2.1 h9.2.2.2 (Or.inl (by omega))
  ·obtain ⟨u, hu, rfl⟩ := List.mem_map.1 hp
   have h9 := List.mem_range.1 hu
   refine ⟨by have := hok.v1; dsimp only; omega, ?_⟩
   exact pl_apart (by omega) (by omega) hok.v1 hok.v2 hok.v1 hok.v2 (Or.inr (by omega)))
 obtain ⟨f1, f2, _⟩ := hf
 have hnx := h.next
 have f1 : s'.rs.length = s.rs.length + ((plcs x.ds k).length + q) := by rw [← hlen]; exact f1
 have f2 : s'.next = s.next + ((plcs x.ds k).length + q) := by rw [← hlen]; exact f2
 refine ⟨?_, by omega⟩
 unfold Mem.addE Mem.mayBeB
 have hv1 := hok.v1
 have hv2 := hok.v2
 rw [decide_eq_true (by unfold plI; omega), if_neg (by decide), hfree, if_neg (by decide), if_neg (by omega)]
theorem settle_any {w : World} {x : PT} {s : Mem.MS} (h : PBoth w x s) (hs : Settles x s) :
  Calls Tryz.prog 47 #[.pointer (some ⟨x.t, 0, none⟩)] w fun e w' => e = .returned (.tuple #[]) ∧ ∃ s', SetAt w w' x s s' (plcs x.ds x.maps.length) := by
 have hz := (zero_of_info (P := Tryz.prog) zero89).1
 have hsz := (zero_of_info (P := Tryz.prog) zero89).2
 have HS := toHid hs
 have HH := toHid h
 have hmany := h.tab.many
 have c1 := h.tab.c1
 unfold slV at c1
 generalize hsg : (x.g.map fun b => (⟨b, 0, none⟩ : Addr)) = sg at *
 have HG := toHid hsg
 generalize hL : x.maps.length = L at *
 have HL := toHid hL
 clear hs h hsg hL
 go_enter Tryz.func47, Tryz.ntmps47
 go_wp2_with fail
 go_loopw [10] (fun t w' => ∃ k : Nat, k ≤ L ∧ t = .int .i64 k ∧ Hid (∃ s', SetAt w w' x s s' (plcs x.ds k))) (fun t _ => L - (intOf t).toNat)
 case atStart => exact ⟨0, by omega, rfl, s, SetAt.start HH.out⟩
 case round =>
  obtain ⟨k, hk, rfl, HI⟩ := hrel
  by_cases hlt : k < L
  ·obtain ⟨s1, hS1⟩ := HI.out
   obtain ⟨m, hm⟩ : ∃ m, x.maps[k]? = some m := ⟨_, List.getElem?_eq_getElem (by rw [HL.out]; exact hlt)⟩
   have hmem := List.mem_of_getElem? hm
   have hB := hS1.both
   obtain ⟨gb, hg⟩ := hB.tab.some_g hm
   have hsg := HG.out
   rw [hg, Option.map_some] at hsg
   subst hsg
   obtain ⟨b0, b1, b2, b3, b4⟩ := hB.tab.boxed hm hg
   have hmk := HS.out.mx m hmem
   have hok := hB.tab.ok m hmem
   have hm1 := hok.v1
   have hm2 := hok.v2
   obtain ⟨V, hV⟩ : ∃ V : Nat, m.d.val = V := Int.eq_ofNat_of_zero_le (by omega)
   obtain ⟨M, hM⟩ : ∃ M : Nat, m.d.max = M := Int.eq_ofNat_of_zero_le (by omega)
   have hnb : wr.heap.size ∉ s1.blocks := fun hx => by have := hB.mem.lt _ hx; omega
   have hNB := Blk.newA wr (BoxCells m) _ 89 rfl
   have HM := toHid (And.intro hm (And.intro hV (And.intro hM (And.intro hB.tab.ok hB.tab.many))))
   have hk8 : k < 8 := by omega
   have HJ0 : Hid (∃ s2, SetAt w (wr.alloc (.cells (BoxCells m) 89)) x s s2 (plcs x.ds k ++ rowP k m.d.val 0) ∧ wr.heap.size ∉ s2.blocks ∧ Blk (wr.alloc (.cells (BoxCells m) 89)) wr.heap.size (BoxCells m).toList 89) :=
    ⟨s1, by rw [show rowP k m.d.val 0 = [] from rfl, List.append_nil]; exact hS1.still ((Touch.refl [] wr).alloc _), hnb, hNB⟩
   have c3 : (wr.alloc (.cells (BoxCells m) 89)).cell? ⟨wr.heap.size, 3, none⟩ = some (.int .i64 (M : Int)) := by
    rw [← hM]
    exact hNB.cell rfl
   rw [hV] at b2 hm1 hm2
   rw [hM] at b3 hmk
   unfold BoxCells ixV at HJ0 c3
   unfold ixV at b4
   rw [hV, hM] at HJ0 c3
   generalize typF m.d.kind = ty at *
   generalize m.X = X at *
   generalize m.d.kind = kd at *
   generalize m.d.key = ky at *
   clear hB hmem hok hNB hm hV hM HI hg c1 hS1 hnb
   generalize hwb : wr.alloc (.cells #[.int .i64 kd, .int .i64 ky, .int .i64 (V : Int), .int .i64 (M : Int), .iface ty (.pointer (some ⟨X, 0, none⟩))] 89) = wb at *
   go_wp2_with fail
   clear hwb b0 b1 b2 b3 b4 c3
   generalize wr.heap.size = B at *
   have hM64 : M ≤ 64 := by omega
   go_loopw [18] (fun t w' => ∃ q : Nat, q ≤ M ∧ t = .int .i64 q ∧ Hid (∃ s2, SetAt w w' x s s2 (plcs x.ds k ++ rowP k V q) ∧ B ∉ s2.blocks ∧ Blk w' B [.int .i64 kd, .int .i64 ky, .int .i64 (V : Int), .int .i64 (M : Int), .iface ty (.pointer (some ⟨X, 0, none⟩))] 89)) (fun t _ => M - (intOf t).toNat)
   case atStart => exact ⟨0, by omega, rfl, HJ0.out⟩
   case round =>
    obtain ⟨q, hq, rfl, HJ⟩ := hrel
    obtain ⟨s2, hS2, hnb, hNB⟩ := HJ.out
    by_cases hqt : q < M
    ·have hB2 := hS2.both
     obtain ⟨hm, hV, hM, hok, hmany⟩ := HM.out
     have hadd := HS.out.add hok hmany hm (q := q) (by rw [hM]; omega) (by rw [hV]; exact hS2)
     rw [hV] at hadd
     have HP := toHid (fun w0 => place_any w0 k q hk8 (by omega))
     have hBd := hB2.still ((Touch.refl [] wr).drew)
     have HA := toHid (Mem.add_any hBd.mem (plI k q) V 3 (by unfold plI; omega) (by unfold plI; omega) hadd.2)
     have ht0 : x.t ∉ s2.blocks := hB2.apart _ (PT.mem_top (by simp [PT.top]))
     have e0 := hBd.tab.c0
     rw [hBd.at_] at e0
     have e2 := (hNB.drew).cell (i := 2) rfl
     have HSS : Hid (∀ w', Touch s2.blocks wr.drew w' → w'.cell? ⟨x.t, 0, none⟩ = some (.pointer (some ⟨s2.m, 0, none⟩)) ∧ w'.cell? ⟨B, 2, none⟩ = some (.int .i64 (V : Int))) := fun w' ht => ⟨ht.cell e0 ht0, ht.cell e2 hnb⟩
     have HNx : Hid (∀ e w3, Mem.AddPost wr.drew s2 (plI k q) V 3 e w3 → ∃ s3, SetAt w w3 x s s3 (plcs x.ds k ++ rowP k V (q + 1)) ∧ B ∉ s3.blocks ∧ Blk w3 B [.int .i64 kd, .int .i64 ky, .int .i64 (V : Int), .int .i64 (M : Int), .iface ty (.pointer (some ⟨X, 0, none⟩))] 89) := fun e w3 hp => by
      obtain ⟨s3, q1, q2, q3⟩ := (hS2.still ((Touch.refl [] wr).drew)).add hp hadd.1
      refine ⟨s3, by rw [rowP_succ, ← List.append_assoc]; exact q1, fun hx => ?_, q2.blk hNB.drew hnb⟩
      rcases q3 B hx with h9 | h9
      ·exact hnb h9
      ·have := hNB.drew.lt
       omega
     have HAE : Hid (∀ e w3, Mem.AddPost wr.drew s2 (plI k q) V 3 e w3 → Touch s2.blocks wr.drew w3 ∧ ∃ a b, e = .returned (.tuple #[.int .i64 a, .int .i64 b])) := fun e w3 hp => ⟨hp.2.1, _, _, hp.1⟩
     generalize plI k q = pl at *
     clear hB2 hm hV hM hok hadd hBd ht0 e0 e2 hS2 hnb hNB HJ HJ0
     go_wp2_with fail
     refine wp_region_held_drew (S := fun w' => w'.cell? ⟨x.t, 0, none⟩ = some (.pointer (some ⟨s2.m, 0, none⟩)) ∧ w'.cell? ⟨B, 2, none⟩ = some (.int .i64 (V : Int))) (by kernel_rfl) ?_ (fun hHeld => ?_)
     ·exact HSS.out _ (Touch.refl _ _)
     refine tk 0 (v := ?_) rfl ?_ ?_
     rotate_left
     ·(intro w hSw; (try dsimp only at hSw); go_simp; try with_reducible rfl)
     simp only [Act.put, AP]
     refine tk 1 (v := ?_) rfl ?_ ?_
     rotate_left
     ·(intro w hSw; (try dsimp only at hSw); go_simp; try with_reducible rfl)
     simp only [Act.put, AP]
     refine tk 2 (v := ?_) rfl ?_ ?_
     rotate_left
     ·(intro w hSw; (try dsimp only at hSw); go_simp; try with_reducible rfl)
     simp only [Act.put, AP]
     refine tk 3 (v := ?_) rfl ?_ ?_
     rotate_left
     ·(intro w hSw; (try dsimp only at hSw); go_simp; try with_reducible rfl)
     simp only [Act.put, AP]
     refine tk 4 (v := ?_) rfl ?_ ?_
     rotate_left
     ·(intro w hSw; (try dsimp only at hSw); go_simp; try with_reducible rfl)
     simp only [Act.put, AP]
     refine tk 5 (v := ?_) rfl ?_ ?_
     rotate_left
     ·(intro w hSw; (try dsimp only at hSw); go_simp; try with_reducible rfl)
     simp only [Act.put, AP]
     refine tk 7 (v := ?_) rfl ?_ ?_
     rotate_left
     ·(intro w hSw; (try dsimp only at hSw); go_simp; try with_reducible rfl)
     simp only [Act.put, AP]
     refine tk 8 (v := ?_) rfl ?_ ?_
     rotate_left
     ·(intro w hSw; (try dsimp only at hSw); go_simp; try with_reducible rfl)
     simp only [Act.put, AP]
     refine tk 9 (v := ?_) rfl ?_ ?_
     rotate_left
     ·(intro w hSw; (try dsimp only at hSw); go_simp; try with_reducible rfl)
     simp only [Act.put, AP]
     refine wpAnyH_ready (rs := [6]) (by kernel_rfl) (by simp) ?_
     refine AllReadyH.cons rfl (fun K hK => ?_) AllReadyH.nil
     simp only [AP]
     go_simp
     refine Calls.mono (HP.out _) ?_; rintro e w3 ⟨rfl, rfl⟩
     go_wp2_with fail
     refine hK.out _ _ ?_ (fun hHeld => ?_)
     ·exact HSS.out _ (Touch.refl _ _)
     clear hK K
     try simp only [Act.put, AP]
     refine wpAnyH_ready (rs := [10]) (by kernel_rfl) (by simp) ?_
     refine AllReadyH.cons rfl (fun K hK => ?_) AllReadyH.nil
     simp only [AP]
     go_simp
     refine Calls.mono HA.out ?_; intro e w3 hp; obtain ⟨htx, za, zb, rfl⟩ := HAE.out _ _ hp; have HN := toHid (HNx.out _ _ hp); have HTX := toHid htx; clear hp htx
     go_wp2_with fail
     refine hK.out _ _ ?_ (fun hHeld => ?_)
     ·exact HSS.out _ HTX.out
     clear hK K
     try simp only [Act.put, AP]
     refine wpAnyH_done (by kernel_rfl) ?_ _
     clear hHeld HSS HA HAE HNx HTX
     go_wp2
     exact ⟨⟨q + 1, by omega, by go_num, HN⟩, by simp [intOf]; omega⟩
    ·obtain rfl : q = M := by omega
     have HNx : Hid (∃ s', SetAt w wr x s s' (plcs x.ds (k + 1))) := by
      obtain ⟨hm, hV, hM, hok, hmany⟩ := HM.out
      have hdk : x.ds[k]? = some m.d := by unfold PT.ds; rw [List.getElem?_map, hm]; rfl
      refine ⟨s2, ?_⟩
      rw [plcs_succ hdk, hV, hM, Int.toNat_natCast]
      exact hS2
     have c3 : wr.cell? ⟨B, 3, none⟩ = some (.int .i64 (q : Int)) := hNB.cell rfl
     clear hS2 hnb hNB HJ HJ0
     go_wp2
     exact ⟨⟨k + 1, by omega, by go_num, HNx⟩, by simp [intOf]; omega⟩
  ·obtain rfl : L = k := by omega
   clear c1
   go_wp2
   go_end0
   exact ⟨rfl, HI.out⟩
end Go.Proofs.YtmhhahmjkopjhaaGreat
end
section
namespace Go.Proofs.YtmhhahmjkopjhaaGreat
open Go.RowKit
theorem info89 : (Tryz.prog.info? 89).map (fun i => (i.zero, i.size, i.bytes)) = some (some (.agg #[.int .i64 0, .int .i64 0, .int .i64 0, .int .i64 0, .nilIface]), 5, 48) := by kernel_rfl
def PT.add (x : PT) (g : Option Nat) (cap : Nat) (m : PMap) : PT := { x with g := g, cap := cap, maps := x.maps ++ [m] }
theorem PTAt.push {w : World} {x : PT} (h : PTAt w x) {m : PMap} (hm : KAt w m.X m.bl m.q) (ho : PMapOk m) (hsep : ∀ b ∈ m.bl, b ∉ x.blocks) (hn : x.maps.length < 8) :
  ∃ g' cap' w', (Builtin.append_ #[83, 83] 83 #[slV x.g x.maps.length x.cap, .slice (some ⟨w.heap.size, 0, none⟩) 1 1]).run Tryz.prog (w.alloc (.cells #[.int .i64 m.d.kind, .int .i64 m.d.key, .int .i64 m.d.val, .int .i64 m.d.max, ixV m.d.kind m.X] 89)) = .ok (slV g' (x.maps.length + 1) cap') w' ∧
   w'.cell? ⟨x.t, 1, none⟩ = some (slV x.g x.maps.length x.cap) ∧ w'.frozen? ⟨x.t, 1, none⟩ = false ∧
   PTAt (w'.setCell ⟨x.t, 1, none⟩ (slV g' (x.maps.length + 1) cap')) (x.add g' cap' m) ∧
   Touch x.top w w' ∧ Touch x.top w (w'.setCell ⟨x.t, 1, none⟩ (slV g' (x.maps.length + 1) cap')) ∧ (∀ b, g' = some b → x.g = some b ∨ w.heap.size ≤ b) := by
 obtain ⟨i, hi0, hz, hs0, hb⟩ := info_of info89
 have hN := Blk.newA w #[.int .i64 m.d.kind, .int .i64 m.d.key, .int .i64 m.d.val, .int .i64 m.d.max, ixV m.d.kind m.X] _ 89 rfl
 have hta : Touch [] w (w.alloc (.cells #[.int .i64 m.d.kind, .int .i64 m.d.key, .int .i64 m.d.val, .int .i64 m.d.max, ixV m.d.kind m.X] 89)) := (Touch.refl _ w).alloc _
 have hL := h.touch hta (by simp)
 have hlt := h.lt
 have hmlt := hm.lt
 obtain ⟨g', cap', w', hr, h2, h3, h4, _⟩ := run_append_row (P := Tryz.prog) _ 83 83 89 i _ 5 Tryz.underlying83 hi0 hz hs0 rfl (by omega) x.g x.maps.length x.cap _ hL.row ⟨w.heap.size, 0, none⟩ 1 1 m.cells rfl
  (fun j u hj => by
   rw [Addr.add_lit, Nat.zero_add]
   exact hN.cell hj) (fun u hu => by
   simp only [PMap.cells, List.mem_cons, List.not_mem_nil, or_false] at hu
   rcases hu with rfl | rfl | rfl | rfl | rfl <;> rfl) (by rw [hb]; omega) (by omega)
 have hap := h.apTop
 simp only [PT.top, List.nodup_cons, Option.mem_toList] at hap
 have htg : x.t ∉ x.g.toList := fun hx => hap.1 (by simpa using hx)
 have hself := h3.blk hL.self htg
 have hts : Touch [x.t] w' (w'.setCell ⟨x.t, 1, none⟩ (slV g' (x.maps.length + 1) cap')) := (Touch.refl _ w').setCell _ _ (Or.inl (by simp))
 have hg' : ∀ b, g' = some b → x.g = some b ∨ b = w.heap.size + 1 := fun b hb => by
  rcases h4 with h4 | h4
  ·rw [← h4]; exact Or.inl hb
  ·rw [hb] at h4; injection h4 with h4; exact Or.inr (by rw [h4]; simp)
 have htlt := hlt x.t (PT.mem_top (by simp [PT.top]))
 have hgt : g' ≠ some x.t := fun e => by
  rcases hg' _ e with hx | hx
  ·exact htg (by simpa using hx)
  ·omega
 have hgtop : ∀ b ∈ x.g.toList, b ∈ x.top := fun b hb => by unfold PT.top; exact List.mem_cons_of_mem _ hb
 have hT1 : Touch x.top w w' := (hta.mono (S' := x.top) (fun b hb => by cases hb)).trans h3 (fun b hb => Or.inl (hgtop b hb))
 have hT2 : Touch x.top w (w'.setCell ⟨x.t, 1, none⟩ (slV g' (x.maps.length + 1) cap')) := hT1.trans hts (fun b hb => Or.inl (by simp at hb; subst hb; simp [PT.top]))
 have hmT : ∀ m' ∈ x.maps ++ [m], KAt w m'.X m'.bl m'.q ∧ PMapOk m' ∧ ∀ b ∈ m'.bl, b ∉ x.top := fun m' hm' => by
  rcases List.mem_append.1 hm' with h9 | h9
  ·exact ⟨h.maps m' h9, h.ok m' h9, h.apT m' h9⟩
  ·rw [List.mem_singleton.1 h9]
   exact ⟨hm, ho, fun b hb hx => hsep b hb (PT.mem_top hx)⟩
 refine ⟨g', cap', w', hr, hself.cell rfl, hself.frozen 1, ⟨?_, ?_, fun m' hm' => ?_, fun m' hm' => (hmT m' hm').2.1, ?_, fun m' hm' b hb hx => ?_, fun i j mi mj hi hj hij y hy => ?_, ?_⟩, hT1, hT2, fun b hb => ?_⟩
 ·have := hself.setCell 1 (slV g' (x.maps.length + 1) cap')
  show Blk _ x.t [_, slV g' (x.maps ++ [m]).length cap'] _
  rw [List.length_append]
  exact this
 ·have := h2.touch hts (fun b hgb hx => by simp at hx; subst hx; exact hgt hgb)
  show RowAt _ 89 5 g' (x.maps ++ [m]).length cap' ((x.maps ++ [m]).flatMap PMap.cells)
  rw [List.length_append, List.flatMap_append, List.flatMap_singleton]
  exact this
 ·exact (hmT m' hm').1.touch hT2 (hmT m' hm').2.2
 ·show (x.t :: g'.toList).Nodup
  cases hgg : g' with
  | none => simp
  | some b =>
   simp only [Option.toList_some, List.nodup_cons, List.mem_singleton, List.not_mem_nil, not_false_eq_true, List.nodup_nil, and_true]
   intro e
   exact hgt (by rw [hgg, e])
 ·rcases List.mem_cons.1 (show b ∈ x.t :: g'.toList from hx) with hx | hx
  ·exact (hmT m' hm').2.2 b hb (by rw [hx]; simp [PT.top])
  ·rcases hg' b (by simpa using hx) with hx | hx
   ·exact (hmT m' hm').2.2 b hb (PT.mem_g hx)
   ·have := (hmT m' hm').1.lt b hb
    omega
 ·have hi : (x.maps ++ [m])[i]? = some mi := hi
  have hj : (x.maps ++ [m])[j]? = some mj := hj
  have hcase : ∀ k mk, (x.maps ++ [m])[k]? = some mk → x.maps[k]? = some mk ∨ (k = x.maps.length ∧ mk = m) := fun k mk hk => by
   rw [List.getElem?_append] at hk
   split at hk
   ·exact Or.inl hk
   ·rename_i hge
    have hk0 : k - x.maps.length = 0 := by
     have := (List.getElem?_eq_some_iff.1 hk).1
     simp at this
     omega
    rw [hk0] at hk
    simp at hk
    exact Or.inr ⟨by omega, hk.symm⟩
  rcases hcase i mi hi with a | ⟨a1, a2⟩
  ·rcases hcase j mj hj with b | ⟨b1, b2⟩
   ·exact h.apM i j mi mj a b hij y hy
   ·rw [b2]
    intro hx
    exact hsep y hx (PT.mem_map (List.mem_of_getElem? a) hy)
  ·rcases hcase j mj hj with b | ⟨b1, b2⟩
   ·intro hx
    rw [a2] at hy
    exact hsep y hy (PT.mem_map (List.mem_of_getElem? b) hx)
   ·omega
 ·show (x.maps ++ [m]).length ≤ 8
  rw [List.length_append]
  simp
  omega
 ·rcases hg' b hb with h9 | h9
  ·exact Or.inl h9
  ·exact Or.inr (by omega)
def NewIxPost (w : World) (k n : Int) (m : Nat) (e : Ending) (w' : World) : Prop := ∃ X bl, e = .returned (.tuple #[ixV k X, .int .i64 0]) ∧ KAt w' X bl (PX.new k n m) ∧ (∀ b ∈ bl, w.heap.size ≤ b) ∧ Touch [] w w'
def dV (d : MDef) : Value := .agg #[.int .i64 d.kind, .int .i64 d.key, .int .i64 d.val, .int .i64 d.max]
theorem KNewPost.ix {w w1 : World} {k n : Int} {m : Nat} {e : Ending} {w' : World} (h : KNewPost w1 (PX.new k n m) e w') (ht : Touch [] w w1) : ∃ X, e = .returned (.tuple #[.pointer (some ⟨X, 0, none⟩), .int .i64 0]) ∧ NewIxPost w k n m (.returned (.tuple #[ixV k X, .int .i64 0])) w' := by
 obtain ⟨X, bl, he, hA, hb, ht2⟩ := h
 have := ht.size
 exact ⟨X, he, X, bl, rfl, hA, fun b hx => by have := hb b hx; omega, ht.trans ht2 (by simp)⟩
theorem newIndex_any (w : World) (k n v : Int) (m : Nat) (k0 : 0 ≤ k) (k3 : k ≤ 3) (h : newOk k n m) : Calls Tryz.prog 45 #[dV ⟨k, n, v, m⟩] w (NewIxPost w k n m) := by
 have hta : ∀ o, Touch [] w (w.alloc o) := fun o => (Touch.refl [] w).alloc o
 have HT := toHid hta
 unfold dV
 have hk : k = 0 ∨ k = 1 ∨ k = 2 ∨ k = 3 := by omega
 rcases hk with rfl | rfl | rfl | rfl
 ·have hn : n = 4 := by
   have h1 := h.2.2.1
   have h2 := h.2.2.2
   simp at h1 h2
   omega
  subst hn
  have H1 := toHid (fun w1 => knew0_any w1 m h)
  clear h hta k0 k3
  go_enter Tryz.func45, Tryz.ntmps45
  go_wp2_with fail
  refine Calls.mono (H1.out _) ?_
  intro e w2 hp
  obtain ⟨X, rfl, hq⟩ := hp.ix (HT.out _)
  have HF := toHid hq
  clear hp hq
  go_wp2
  go_ret2
  exact HF.out
 ·obtain ⟨n, rfl⟩ : ∃ n' : Nat, n = n' := Int.eq_ofNat_of_zero_le (by have h1 := h.2.2.1; simp at h1; omega)
  have H1 := toHid (fun w1 => knew1_any w1 n m h)
  clear h hta k0 k3
  go_enter Tryz.func45, Tryz.ntmps45
  go_wp2_with fail
  refine Calls.mono (H1.out _) ?_
  intro e w2 hp
  obtain ⟨X, rfl, hq⟩ := hp.ix (HT.out _)
  have HF := toHid hq
  clear hp hq
  go_wp2
  go_ret2
  exact HF.out
 ·obtain ⟨n, rfl⟩ : ∃ n' : Nat, n = n' := Int.eq_ofNat_of_zero_le (by have h1 := h.2.2.1; simp at h1; omega)
  have H1 := toHid (fun w1 => knew2_any w1 n m h)
  clear h hta k0 k3
  go_enter Tryz.func45, Tryz.ntmps45
  go_wp2_with fail
  refine Calls.mono (H1.out _) ?_
  intro e w2 hp
  obtain ⟨X, rfl, hq⟩ := hp.ix (HT.out _)
  have HF := toHid hq
  clear hp hq
  go_wp2
  go_ret2
  exact HF.out
 ·obtain ⟨n, rfl⟩ : ∃ n' : Nat, n = (n' : Int) + 4 := ⟨(n - 4).toNat, by have h1 := h.2.2.1; simp at h1; omega⟩
  have H1 := toHid (fun w1 => knew3_any w1 n m h)
  clear h hta k0 k3
  go_enter Tryz.func45, Tryz.ntmps45
  go_wp2_with fail
  refine Calls.mono (H1.out _) ?_
  intro e w2 hp
  obtain ⟨X, rfl, hq⟩ := hp.ix (HT.out _)
  have HF := toHid hq
  clear hp hq
  go_wp2
  go_ret2
  exact HF.out
def NewIxBad (w : World) (e : Ending) (w' : World) : Prop := ∃ v, e = .returned (.tuple #[v, .int .i64 2]) ∧ Touch [] w w'
theorem newIndex_bad (w : World) (d : MDef) (h : ¬ (0 ≤ d.kind ∧ d.kind ≤ 3 ∧ newOk d.kind d.key d.max)) : Calls Tryz.prog 45 #[dV d] w (NewIxBad w) := by
 have hta : ∀ o, Touch [] w (w.alloc o) := fun o => (Touch.refl [] w).alloc o
 have HT := toHid hta
 obtain ⟨k, n, v, m⟩ := d
 unfold dV
 dsimp only at h ⊢
 have H0 : Hid (∀ w1 : World, ¬ (1 ≤ m ∧ m ≤ 64) → Calls Tryz.prog 73 #[.int .i64 m] w1 fun e w' => e = .returned (.tuple #[.pointer none, .int .i64 2]) ∧ w' = w1) := fun w1 h1 => Arr.new_bad w1 m h1
 by_cases hk : k = 0 ∨ k = 1 ∨ k = 2 ∨ k = 3
 ·rcases hk with rfl | rfl | rfl | rfl
  ·by_cases hn : n = 4
   ·subst hn
    have H1 := toHid (fun w1 => H0.out w1 (fun hm => h ⟨by omega, by omega, hm.1, hm.2, by decide, by decide⟩))
    clear h hta
    go_enter Tryz.func45, Tryz.ntmps45
    go_wp2_with fail
    refine Calls.mono (H1.out _) ?_
    rintro e w2 ⟨rfl, rfl⟩
    go_wp2
    go_ret2
    exact ⟨_, rfl, HT.out _⟩
   ·clear h hta
    go_enter Tryz.func45, Tryz.ntmps45
    go_wp2
    go_ret2
    exact ⟨_, rfl, HT.out _⟩
  ·have H1 := toHid (fun w1 => new_bad w1 n m (fun hm => h ⟨by omega, by omega, hm.1, hm.2.1, by simp; omega, by simp; omega⟩))
   clear h hta
   go_enter Tryz.func45, Tryz.ntmps45
   go_wp2_with fail
   refine Calls.mono (H1.out _) ?_
   rintro e w2 ⟨rfl, rfl⟩
   go_wp2
   go_ret2
   exact ⟨_, rfl, HT.out _⟩
  ·have H1 := toHid (fun w1 => lnew_bad w1 n m (fun hm => h ⟨by omega, by omega, hm.1, hm.2.1, by simp; omega, by simp; omega⟩))
   clear h hta
   go_enter Tryz.func45, Tryz.ntmps45
   go_wp2_with fail
   refine Calls.mono (H1.out _) ?_
   rintro e w2 ⟨rfl, rfl⟩
   go_wp2
   go_ret2
   exact ⟨_, rfl, HT.out _⟩
  ·have H1 := toHid (fun w1 => Lpm.inew_bad w1 n m (fun hm => h ⟨by omega, by omega, hm.1, hm.2.1, by simp; omega, by simp; omega⟩))
   clear h hta
   go_enter Tryz.func45, Tryz.ntmps45
   go_wp2_with fail
   refine Calls.mono (H1.out _) ?_
   rintro e w2 ⟨rfl, rfl⟩
   go_wp2
   go_ret2
   exact ⟨_, rfl, HT.out _⟩
 ·have e0 : ¬ k = 0 := fun e => hk (Or.inl e)
  have e1 : ¬ k = 1 := fun e => hk (Or.inr (Or.inl e))
  have e2 : ¬ k = 2 := fun e => hk (Or.inr (Or.inr (Or.inl e)))
  have e3 : ¬ k = 3 := fun e => hk (Or.inr (Or.inr (Or.inr e)))
  have b0 : (k == 0) = false := by simpa using e0
  have b1 : (k == 1) = false := by simpa using e1
  have b2 : (k == 2) = false := by simpa using e2
  have b3 : (k == 3) = false := by simpa using e3
  clear h hk H0 hta
  go_enter Tryz.func45, Tryz.ntmps45
  go_wp2
  go_ret2
  exact ⟨_, rfl, HT.out _⟩
end Go.Proofs.YtmhhahmjkopjhaaGreat
end
section
namespace Go.Proofs.YtmhhahmjkopjhaaGreat
open Go.RowKit
def newQ (d : MDef) : PX := PX.new d.kind d.key d.max.toNat
structure MadeAt (w w' : World) (x : PT) (m T : Nat) (l : List MDef) : Prop where
 tab : PTAt w' x
 t : x.t = T
 mem : x.mem = m
 ds : x.ds = l
 qs : x.qs = l.map newQ
 own : ∀ b ∈ x.blocks, w.heap.size ≤ b
 touch : Touch [] w w'
 ok : ∀ d ∈ l, d.Ok
theorem newQ_len {d : MDef} (h : d.Ok) : ((newQ d).slots.length : Int) = d.max := by
 have h1 := h.2.2.2.2.1
 have : (newQ d).slots.length = d.max.toNat := by
  unfold newQ PX.new
  dsimp only
  split
  ·simp [allKeys]
  ·simp
 omega
theorem MadeAt.push {w w1 w2 : World} {x : PT} {m T k : Nat} {ds : List MDef} {d : MDef} {X : Nat} {bl : List Nat} (h : MadeAt w w1 x m T (ds.take k)) (hd : ds[k]? = some d) (hk : k < 8) (hok : d.Ok) (ht : Touch [] w1 w2) (hA : KAt w2 X bl (newQ d)) (hb : ∀ b ∈ bl, w1.heap.size ≤ b) :
  ∃ sg' cap' w3, (Builtin.append_ #[83, 83] 83 #[slV x.g x.maps.length x.cap, .slice (some ⟨w2.heap.size, 0, none⟩) 1 1]).run Tryz.prog ((w2.alloc (.cells #[.int .i64 d.kind, .int .i64 d.key, .int .i64 d.val, .int .i64 d.max, ixV d.kind X] 89)).drew) = .ok (.slice sg' (x.maps.length + 1) cap') w3 ∧
   w3.cell? ⟨T, 1, none⟩ = some (slV x.g x.maps.length x.cap) ∧ w3.frozen? ⟨T, 1, none⟩ = false ∧ ∃ x', MadeAt w (w3.setCell ⟨T, 1, none⟩ (.slice sg' (x.maps.length + 1) cap')) x' m T (ds.take (k + 1)) := by
 have hx2 : PTAt w2.drew x := h.tab.still ht.drew
 have hlt := h.tab.lt
 have hsz := ht.size
 have hl : x.maps.length = k := by
  have h1 := congrArg List.length h.ds
  have h2 := (List.getElem?_eq_some_iff.1 hd).1
  simp [PT.ds] at h1
  omega
 have hsz0 := h.touch.size
 have hkd : (newQ d).kind = d.kind := rfl
 obtain ⟨g', cap', w3, hr, hc, hf, hA3, ht1, ht2, hg⟩ := hx2.push (m := ⟨d, X, bl, newQ d⟩) (hA.still ((Touch.refl [] w2).drew)) ⟨hkd, rfl, newQ_len hok, hok.2.2.1, hok.2.2.2.1⟩ (fun b hbx hx => by
  have := hb b hbx
  have := hlt b hx
  omega) (by omega)
 have htk : ds.take (k + 1) = ds.take k ++ [d] := by rw [List.take_add_one, hd]; rfl
 rw [h.t] at hc hf hA3 ht2
 refine ⟨g'.map fun b => (⟨b, 0, none⟩ : Addr), cap', w3, hr, hc, hf, x.add g' cap' ⟨d, X, bl, newQ d⟩, hA3, h.t, h.mem, ?_, ?_, fun b hbx => ?_, ?_, fun d' hd' => ?_⟩
 ·rw [htk]
  show (x.maps ++ [_]).map PMap.d = _
  have h1 : x.maps.map PMap.d = ds.take k := h.ds
  rw [List.map_append, h1]
  rfl
 ·rw [htk]
  show (x.maps ++ [_]).map PMap.q = _
  have h1 : x.maps.map PMap.q = (ds.take k).map newQ := h.qs
  rw [List.map_append, h1, List.map_append]
  rfl
 ·rcases List.mem_append.1 hbx with hbx | hbx
  ·rcases List.mem_cons.1 (show b ∈ x.t :: g'.toList from hbx) with hbx | hbx
   ·exact h.own b (by rw [hbx]; exact PT.mem_top (by simp [PT.top]))
   ·rcases hg b (by simpa using hbx) with hbx | hbx
    ·exact h.own b (PT.mem_top (PT.mem_g hbx))
    ·have : w2.drew.heap.size = w2.heap.size := rfl
     omega
  ·rw [show (x.add g' cap' ⟨d, X, bl, newQ d⟩).maps = x.maps ++ [⟨d, X, bl, newQ d⟩] from rfl, List.flatMap_append, List.flatMap_singleton] at hbx
   rcases List.mem_append.1 hbx with hbx | hbx
   ·obtain ⟨m9, h9, hbx⟩ := List.mem_flatMap.1 hbx
    exact h.own b (PT.mem_map h9 hbx)
   ·have := hb b hbx
    omega
 ·exact (h.touch.trans ht.drew (by simp)).trans ht2 (fun b hbx => Or.inr (h.own b (PT.mem_top hbx)))
 ·rw [htk] at hd'
  rcases List.mem_append.1 hd' with h9 | h9
  ·exact h.ok d' h9
  ·rw [List.mem_singleton.1 h9]
   exact hok
structure PNewAt (w w' : World) (x : PT) (s s' : Mem.MS) (l : List MDef) : Prop where
 both : PBoth w' x s'
 ds : x.ds = l
 qs : x.qs = l.map newQ
 own : ∀ b ∈ x.blocks, w.heap.size ≤ b
 m : s'.m = s.m
 mown : ∀ b ∈ s'.blocks, b ∈ s.blocks ∨ w.heap.size ≤ b
 touch : Touch s.blocks w w'
 adds : PAdds (plcs l l.length) (s.rs, s.next) (s'.rs, s'.next)
def PNewPost (w : World) (s : Mem.MS) (ds : List MDef) (e : Ending) (w' : World) : Prop :=
 (mayI ds = false ∧ e = .returned (.tuple #[.pointer none, .int .i64 2]) ∧ Touch [] w w') ∨
 (mayI ds = true ∧ ¬ roomOk ds s.rs ∧ e = .returned (.tuple #[.pointer none, .int .i64 12]) ∧ Touch [] w w') ∨
 (mayI ds = true ∧ roomOk ds s.rs ∧ ∃ x s', e = .returned (.tuple #[.pointer (some ⟨x.t, 0, none⟩), .int .i64 0]) ∧ PNewAt w w' x s s' ds)
theorem pnew_any {w : World} {s : Mem.MS} (h : Mem.MemAt w s) (hnx : s.next ≤ 1000000) {sa : Option Addr} {n sc : Nat} {ds : List MDef} (hd : DefsAt w sa n ds) :
  Calls Tryz.prog 21 #[.pointer (some ⟨s.m, 0, none⟩), .slice sa n sc] w (PNewPost w s ds) := by
 obtain rfl := hd.len
 have hsm := hd.small
 by_cases h8 : 8 < ds.length
 ·have hv : mayI ds = false := by unfold mayI; rw [decide_eq_false_iff_not]; omega
  have HF : Hid (PNewPost w s ds (.returned (.tuple #[.pointer none, .int .i64 2])) w) := Or.inl ⟨hv, rfl, Touch.refl _ _⟩
  clear h hd hv
  go_enter Tryz.func21, Tryz.ntmps21
  go_wp2
  go_ret2
  exact HF.out
 ·have hL : ds.length ≤ 8 := by omega
  have HD := toHid hd
  have HH := toHid (And.intro h hnx)
  have hB := Blk.newA w #[.pointer (some ⟨s.m, 0, none⟩), .slice none 0 0] _ 85 rfl
  have HI0 : Hid (∃ x, MadeAt w (w.alloc (.cells #[.pointer (some ⟨s.m, 0, none⟩), .slice none 0 0] 85)) x s.m w.heap.size (ds.take 0)) := by
   refine ⟨⟨w.heap.size, s.m, none, 0, []⟩, ⟨hB, ?_, ?_, ?_, ?_, ?_, ?_, by simp⟩, rfl, rfl, rfl, rfl, ?_, (Touch.refl _ w).alloc _, by simp⟩
   ·exact ⟨rfl, Nat.le_refl _, Nat.zero_le _, rfl⟩
   ·intro m hm; cases hm
   ·intro m hm; cases hm
   ·simp [PT.top]
   ·intro m hm; cases hm
   ·intro i j mi mj hi; simp at hi
   ·intro b hb; simp [PT.blocks, PT.top] at hb; omega
  clear h hd hB hnx
  go_enter Tryz.func21, Tryz.ntmps21
  go_wp2_with fail
  generalize hT0 : w.heap.size = T at *
  have HT0 := toHid hT0
  clear hT0
  generalize hLL : ds.length = L at *
  have HL := toHid hLL
  clear hLL
  go_loopw [21] (fun t w' => ∃ k : Nat, k ≤ L ∧ t = .int .i64 k ∧ Hid (∃ x, MadeAt w w' x s.m T (ds.take k))) (fun t _ => L - (intOf t).toNat)
  case atStart => exact ⟨0, by omega, rfl, HI0⟩
  case round =>
   obtain ⟨k, hk, rfl, HI⟩ := hrel
   clear HI0
   by_cases hlt : k < L
   ·obtain ⟨x, hM⟩ := HI.out
    have hda := HD.out.touch hM.touch
    obtain ⟨b, off, rfl, hc⟩ := hda.at_ (by omega)
    obtain ⟨d, hdk⟩ : ∃ d, ds[k]? = some d := ⟨_, List.getElem?_eq_getElem (by rw [HL.out]; exact hlt)⟩
    have c0 := hc k d hdk 0 _ rfl
    have c1 := hc k d hdk 1 _ rfl
    have c2 := hc k d hdk 2 _ rfl
    have c3 := hc k d hdk 3 _ rfl
    rw [Nat.add_zero] at c0
    have hNB := Blk.newA wr #[.int .i64 d.kind, .int .i64 d.key, .int .i64 d.val, .int .i64 d.max] _ 36 rfl
    have HNB := toHid hNB
    have HM := toHid (And.intro hM hdk)
    have hta := (Touch.refl [] wr).alloc (.cells #[.int .i64 d.kind, .int .i64 d.key, .int .i64 d.val, .int .i64 d.max] 36)
    have HTA := toHid hta
    have HNO : Hid (¬ d.Ok → ∀ w3, Touch [] wr w3 → PNewPost w s ds (.returned (.tuple #[.pointer none, .int .i64 2])) w3) := fun hn w3 ht3 => Or.inl ⟨mayI_no hdk hn, rfl, hM.touch.trans ht3 (by simp)⟩
    by_cases hnk : 0 ≤ d.kind ∧ d.kind ≤ 3 ∧ newOk d.kind d.key d.max
    ·have hmx1 := hnk.2.2.1
     have hmx2 := hnk.2.2.2.1
     have hmt : ((d.max.toNat : Nat) : Int) = d.max := Int.toNat_of_nonneg (by omega)
     have HN : Hid (∀ w0, Calls Tryz.prog 45 #[dV d] w0 (NewIxPost w0 d.kind d.key d.max.toNat)) := fun w0 => by
      have h9 := newIndex_any w0 d.kind d.key d.val d.max.toNat hnk.1 hnk.2.1 (by rw [hmt]; exact hnk.2.2)
      rw [hmt] at h9
      exact h9
     unfold dV at HN
     by_cases hv1 : d.val < 1
     ·have HNO := toHid (HNO.out (fun hok => by have := hok.2.2.1; omega))
      clear hnk hM hda hc hdk hNB hta HM HI hmt hmx1 hmx2
      go_wp2_with fail
      refine Calls.mono (HN.out _) ?_
      rintro e w3 ⟨X, bl, rfl, hA, hbl, ht3⟩
      have HF := toHid (HNO.out _ (HTA.out.trans ht3 (by simp)))
      have d2 := (ht3.blk HNB.out (by simp)).cell (i := 2) rfl
      clear ht3 HNO hA hbl
      unfold ixV
      go_wp2
      go_ret2
      exact HF.out
     ·by_cases hv2 : 64 < d.val
      ·have HNO := toHid (HNO.out (fun hok => by have := hok.2.2.2.1; omega))
       clear hnk hM hda hc hdk hNB hta HM HI hmt hmx1 hmx2
       go_wp2_with fail
       refine Calls.mono (HN.out _) ?_
       rintro e w3 ⟨X, bl, rfl, hA, hbl, ht3⟩
       have HF := toHid (HNO.out _ (HTA.out.trans ht3 (by simp)))
       have d2 := (ht3.blk HNB.out (by simp)).cell (i := 2) rfl
       clear ht3 HNO hA hbl
       unfold ixV
       go_wp2
       go_ret2
       exact HF.out
      ·have hok : d.Ok := ⟨hnk.1, hnk.2.1, by omega, by omega, hnk.2.2⟩
       have HOK := toHid hok
       clear hnk hM hda hc hdk hNB hta HI hmt hmx1 hmx2 hok HNO
       go_wp2_with fail
       refine Calls.mono (HN.out _) ?_
       rintro e w2 ⟨X, bl, rfl, hA, hbl, ht3⟩
       have hT2 := HTA.out.trans ht3 (by simp)
       obtain ⟨sg, cap, w3, hr, hs1, hs2, x', hM'⟩ := HM.out.1.push (X := X) (bl := bl) HM.out.2 (by omega) HOK.out hT2 hA (fun b hb => by have := hbl b hb; have := HTA.out.size; omega)
       have HR := toHid hr
       have HN' := toHid hM'
       have e0 := (ht3.blk HNB.out (by simp)).cell (i := 0) rfl
       have e1 := (ht3.blk HNB.out (by simp)).cell (i := 1) rfl
       have e2 := (ht3.blk HNB.out (by simp)).cell (i := 2) rfl
       have e3 := (ht3.blk HNB.out (by simp)).cell (i := 3) rfl
       have t1 := (HM.out.1.tab.still hT2).c1
       have hE : ∀ o p v, w2.cell? p = some v → (w2.alloc o).cell? p = some v := fun o p v hp => ((Touch.refl [] w2).alloc o).cell hp (by simp)
       have a0 := fun o => hE o _ _ e0
       have a1 := fun o => hE o _ _ e1
       have a2 := fun o => hE o _ _ e2
       have a3 := fun o => hE o _ _ e3
       rw [HM.out.1.t] at t1
       have at1 := fun o => hE o _ _ t1
       clear hA hbl hT2 hr hM' ht3 hE
       unfold ixV at *
       unfold slV at *
       generalize typF d.kind = ty at *
       generalize (x.g.map fun b => (⟨b, 0, none⟩ : Addr)) = og at *
       generalize x.maps.length = ml at *
       generalize x.cap = xc at *
       go_wp2_with fail
       go_region_law (refine step_append_known rfl (.tmp 46) (.tmp 50) 83 83 rfl (.slice og ml xc) (.slice (some ⟨w2.heap.size, 0, none⟩) 1 1) (by simp [Act.eval]) (by simp [Act.eval]) HR.out ?_)
       all_goals go_wp2
       all_goals exact ⟨⟨k + 1, by omega, by go_num, x', HN'.out⟩, by simp [intOf]; omega⟩
    ·have HN := toHid (fun w0 => newIndex_bad w0 d hnk)
     unfold dV at HN
     have HNO := toHid (HNO.out (fun hok => hnk ⟨hok.1, hok.2.1, hok.2.2.2.2⟩))
     clear hnk hM hda hc hdk hNB hta HM HI
     go_wp2_with fail
     refine Calls.mono (HN.out _) ?_
     rintro e w3 ⟨v, rfl, ht3⟩
     have HF := toHid (HNO.out _ (HTA.out.trans ht3 (by simp)))
     have d2 := (ht3.blk HNB.out (by simp)).cell (i := 2) rfl
     clear ht3 HNO
     go_wp2
     go_ret2
     exact HF.out
   ·obtain rfl : k = L := by omega
    obtain ⟨x, hM⟩ := HI.out
    have htk : ds.take k = ds := by rw [← HL.out]; exact List.take_length
    rw [htk] at hM
    have hdl := HL.out
    have hsz := hM.touch.size
    have hB : PBoth wr x s := ⟨hM.tab, HH.out.1.touch hM.touch (by simp), hM.mem, fun b hb hx => by
     have h1 := hM.own b hb
     have h2 := HH.out.1.lt b hx
     omega⟩
    have hml : x.maps.length = k := by
     have h1 := congrArg List.length hM.ds
     simp [PT.ds] at h1
     omega
    have hmx : ∀ m ∈ x.maps, 1 ≤ m.d.max ∧ m.d.max ≤ 64 := fun m hm => by
     have h1 := hM.ok m.d (by rw [← hM.ds]; exact List.mem_map.2 ⟨m, hm, rfl⟩)
     exact ⟨h1.2.2.2.2.1, h1.2.2.2.2.2.1⟩
    have hmay : mayI ds = true := by
     unfold mayI
     rw [decide_eq_true_iff]
     exact ⟨by omega, hM.ok⟩
    have H1 := toHid (hasRoom_any hB hmx)
    rw [hM.ds, hM.t] at H1
    have HX := toHid (And.intro hM (And.intro hmx (And.intro hmay (And.intro hml hB))))
    clear hM htk hdl hB hml hmx hmay HI
    go_wp2_with fail
    refine Calls.mono H1.out ?_
    rintro e w2 ⟨⟨rb, rfl, hrb⟩, ht2⟩
    cases rb with
    | false =>
     have HF : Hid (PNewPost w s ds (.returned (.tuple #[.pointer none, .int .i64 12])) w2) := Or.inr (Or.inl ⟨HX.out.2.2.1, (fun hr => Bool.noConfusion (hrb.2 hr)), rfl, HX.out.1.touch.trans ht2 (by simp)⟩)
     clear hrb ht2
     go_wp2
     go_ret2
     exact HF.out
    | true =>
     have hr := hrb.1 rfl
     have H2 := toHid (settle_any (HX.out.2.2.2.2.still ht2) ⟨HX.out.2.1, by rw [HX.out.1.ds]; exact hr, HH.out.2⟩)
     rw [HX.out.1.ds, HX.out.1.t, HX.out.2.2.2.1] at H2
     have HR := toHid (And.intro hr ht2)
     clear hrb ht2 hr
     go_wp2_with fail
     refine Calls.mono H2.out ?_
     rintro e w3 ⟨rfl, s', hS⟩
     have HF : Hid (PNewPost w s ds (.returned (.tuple #[.pointer (some ⟨T, 0, none⟩), .int .i64 0])) w3) := by
      have hT := HX.out.1.touch.trans HR.out.2 (by simp)
      have hsz2 := hT.size
      refine Or.inr (Or.inr ⟨HX.out.2.2.1, HR.out.1, x, s', by rw [HX.out.1.t], ⟨hS.both, HX.out.1.ds, HX.out.1.qs, HX.out.1.own, hS.m, fun b hb => ?_, (hT.mono (S' := s.blocks) (fun b hb => by cases hb)).trans hS.touch (fun b hb => Or.inl hb), by rw [HL.out]; exact hS.adds⟩⟩)
      rcases hS.own b hb with h1 | h1
      ·exact Or.inl h1
      ·exact Or.inr (by omega)
     clear hS
     go_wp2
     go_ret2
     exact HF.out
end Go.Proofs.YtmhhahmjkopjhaaGreat
end
section
namespace Go.Proofs.YtmhhahmjkopjhaaGreat.Mem
open Go.RowKit
end Go.Proofs.YtmhhahmjkopjhaaGreat.Mem
end
section
namespace Go.Proofs.YtmhhahmjkopjhaaGreat.Mem
open Go.RowKit
def MS.new (m : Nat) : MS := ⟨m, none, 0, [], 0⟩
theorem memAt_new (w : World) : MemAt (w.alloc (.cells #[.slice none 0 0, .int .i64 0] 79)) (MS.new w.heap.size) where
 self := Blk.newA w #[.slice none 0 0, .int .i64 0] _ 79 rfl
 row := ⟨rfl, by simp [MS.new], by simp [MS.new], rfl⟩
 regs := fun r hr => by cases hr
 ok := fun r hr => by cases hr
 apart := by simp [MS.blocks, MS.new]
 sorted := List.Pairwise.nil
 ids := List.Pairwise.nil
 idlt := fun r hr => by cases hr
 many := by simp [MS.new]
theorem newM_any (w : World) : Calls Tryz.prog 26 #[] w fun e w' => e = .returned (.pointer (some ⟨w.heap.size, 0, none⟩)) ∧ MemAt w' (MS.new w.heap.size) ∧ Touch [] w w' :=
 (new_any w).mono (fun e w' ⟨h1, h2⟩ => ⟨h1, by rw [h2]; exact memAt_new w, by rw [h2]; exact (Touch.refl _ w).alloc _⟩)
end Go.Proofs.YtmhhahmjkopjhaaGreat.Mem
end
section
namespace Go.Proofs.YtmhhahmjkopjhaaGreat
open Go.RowKit
def Regs (ds : List MDef) (rs : List Mem.Reg) : Prop := ∀ (k : Nat) (d : MDef), ds[k]? = some d → ∀ sl : Nat, (sl : Int) < d.max → ∃ r ∈ rs, r.perm = 3 ∧ r.base = plI k sl ∧ (r.bytes.length : Int) = d.val
theorem plcs_of {ds : List MDef} : ∀ {k i sl : Nat} {d : MDef}, i < k → ds[i]? = some d → (sl : Int) < d.max → (plI i sl, d.val) ∈ plcs ds k := by
 intro k i sl d hi hd hs
 unfold plcs
 refine List.mem_flatMap.2 ⟨i, List.mem_range.2 hi, ?_⟩
 rw [hd]
 exact List.mem_map.2 ⟨sl, List.mem_range.2 (by omega), rfl⟩
theorem Regs.of_adds {ds : List MDef} {a b : List Mem.Reg × Nat} (h : PAdds (plcs ds ds.length) a b) (hv : ∀ d ∈ ds, 1 ≤ d.val) : Regs ds b.1 := fun k d hd sl hs => by
 have hk := (List.getElem?_eq_some_iff.1 hd).1
 obtain ⟨r, hr, id, ho, hn⟩ := h.facts.2.2.2.1 _ (plcs_of hk hd hs)
 have h1 := hv d (List.mem_of_getElem? hd)
 refine ⟨r, hr, hn.hperm, hn.hbase, ?_⟩
 rw [hn.hbytes]
 simp
 omega
theorem id_eq {w : World} {s : Mem.MS} (h : Mem.MemAt w s) {r r2 : Mem.Reg} (hr : r ∈ s.rs) (hr2 : r2 ∈ s.rs) (hid : r2.id = r.id) : r2 = r := by
 obtain ⟨i, hi, rfl⟩ := List.getElem_of_mem hr
 obtain ⟨j, hj, rfl⟩ := List.getElem_of_mem hr2
 have hp := List.pairwise_iff_getElem.1 h.ids
 rcases Nat.lt_trichotomy i j with hij | rfl | hij
 ·exact absurd hid.symm (hp i j hi hj hij)
 ·rfl
 ·exact absurd hid (hp j i hj hi hij)
theorem write_all {w w2 : World} {s s2 : Mem.MS} (h : Mem.MemAt w s) (h2 : Mem.MemAt w2 s2) {r : Mem.Reg} (hr : r ∈ s.rs) (hp : r.perm = 3) {vs : List Int} (hl : vs.length = r.bytes.length) (e : s2.rs = Mem.writeRs s.rs r.base vs) :
  (Mem.readE s2.rs r.base vs.length = 0 ∧ Mem.readV s2.rs r.base vs.length = vs) ∧
  (∀ r2 ∈ s.rs, r2.perm = 3 → r2.base ≠ r.base → Mem.readE s2.rs r2.base r2.bytes.length = 0 ∧ Mem.readV s2.rs r2.base r2.bytes.length = Mem.readV s.rs r2.base r2.bytes.length) := by
 have hw := (MemAt.write_at h hr hp hl).2
 rw [hw] at e
 have hm : Mem.layR r 0 vs ∈ s2.rs := by
  rw [e]
  unfold Mem.updR
  exact List.mem_map.2 ⟨r, hr, by rw [if_pos rfl]⟩
 have hb := layR_all hl
 constructor
 ·have := MemAt.read_at h2 hm hp
  rw [hb] at this
  exact this
 ·intro r2 hr2 hp2 hne
  have hid : r2.id ≠ r.id := fun hx => hne (by rw [id_eq h hr hr2 hx])
  have hm2 : r2 ∈ s2.rs := by
   rw [e]
   unfold Mem.updR
   exact List.mem_map.2 ⟨r2, hr2, by rw [if_neg hid]⟩
  have h3 := MemAt.read_at h2 hm2 hp2
  have h4 := MemAt.read_at h hr2 hp2
  exact ⟨h3.1, by rw [h3.2, h4.2]⟩
theorem Regs.write {w : World} {s : Mem.MS} {ds : List MDef} (h : Mem.MemAt w s) (hg : Regs ds s.rs) {r : Mem.Reg} (hr : r ∈ s.rs) (hp : r.perm = 3) {vs : List Int} (hl : vs.length = r.bytes.length) : Regs ds (Mem.writeRs s.rs r.base vs) := fun k d hd sl hs => by
 obtain ⟨r2, h1, h2, h3, h4⟩ := hg k d hd sl hs
 rw [(MemAt.write_at h hr hp hl).2]
 unfold Mem.updR
 by_cases he : r2.id = r.id
 ·obtain rfl := id_eq h hr h1 he
  refine ⟨Mem.layR r2 0 vs, List.mem_map.2 ⟨r2, h1, by rw [if_pos rfl]⟩, h2, h3, ?_⟩
  rw [layR_all hl, hl, h4]
 ·exact ⟨r2, List.mem_map.2 ⟨r2, h1, by rw [if_neg he]⟩, h2, h3, h4⟩
theorem PT.at_ds {x : PT} {k : Nat} {d : MDef} {q : PX} (hd : x.ds[k]? = some d) (hq : x.qs[k]? = some q) : ∃ m, x.maps[k]? = some m ∧ m.d = d ∧ m.q = q := by
 unfold PT.ds at hd
 unfold PT.qs at hq
 rw [List.getElem?_map] at hd hq
 cases hm : x.maps[k]? with
 | none => rw [hm] at hd; cases hd
 | some m =>
  rw [hm] at hd hq
  exact ⟨m, rfl, by injection hd, by injection hq⟩
theorem pl_inj {k sl k' sl' : Nat} (h1 : sl < 64) (h2 : sl' < 64) (h : plI k sl = plI k' sl') : k = k' ∧ sl = sl' := by
 unfold plI at h
 omega
structure Solo (w0 w : World) (x : PT) (s : Mem.MS) (ds : List MDef) (qs : List PX) : Prop where
 p : PBoth w x s
 regs : Regs ds s.rs
 ds : x.ds = ds
 qs : x.qs = qs
 own : ∀ b, b ∈ x.blocks ∨ b ∈ s.blocks → w0.heap.size ≤ b
 touch : Touch [] w0 w
theorem Solo.still {w0 w w' : World} {x : PT} {s : Mem.MS} {ds : List MDef} {qs : List PX} (h : Solo w0 w x s ds qs) (ht : Touch [] w w') : Solo w0 w' x s ds qs :=
 ⟨h.p.still ht, h.regs, h.ds, h.qs, h.own, h.touch.trans ht (by simp)⟩
theorem Solo.over {w0 w w' : World} {x : PT} {s : Mem.MS} {ds : List MDef} {qs : List PX} {S : List Nat} (h : Solo w0 w x s ds qs) (ht : Touch S w w') (h1 : ∀ b, b ∈ x.blocks ∨ b ∈ s.blocks → b ∉ S) (h2 : ∀ b ∈ S, w0.heap.size ≤ b) : Solo w0 w' x s ds qs :=
 ⟨⟨h.p.tab.touch ht (fun b hb => h1 b (Or.inl hb)), h.p.mem.touch ht (fun b hb => h1 b (Or.inr hb)), h.p.at_, h.p.apart⟩, h.regs, h.ds, h.qs, h.own, h.touch.trans ht (fun b hb => Or.inr (h2 b hb))⟩
theorem Solo.step {w0 w w' : World} {x x' : PT} {s : Mem.MS} {ds : List MDef} {qs qs' : List PX} (h : Solo w0 w x s ds qs) (st : PStep w w' x x' qs') : Solo w0 w' x' s ds qs' :=
 ⟨h.p.step st, h.regs, by rw [st.ds, h.ds], st.qs, fun b hb => by
  have := h.touch.size
  rcases hb with hb | hb
  ·rcases st.blocks b hb with h1 | h1
   ·exact h.own b (Or.inl h1)
   ·omega
  ·exact h.own b (Or.inr hb), h.touch.trans st.touch (fun b hb => Or.inr (h.own b (Or.inl hb)))⟩
theorem Solo.upd {w0 w w' : World} {x x' : PT} {s : Mem.MS} {ds : List MDef} {qs qs' : List PX} {rs : List Mem.Reg} (h : Solo w0 w x s ds qs) (st : PUSt w w' x x' s qs' rs) (hg : Regs ds rs) : Solo w0 w' x' { s with rs := rs } ds qs' :=
 ⟨st.both, hg, by rw [st.ds, h.ds], st.qs, fun b hb => by
  have := h.touch.size
  rcases hb with hb | hb
  ·rcases st.blocks b hb with h1 | h1
   ·exact h.own b (Or.inl h1)
   ·omega
  ·rw [st.sblk] at hb
   exact h.own b (Or.inr hb), h.touch.trans st.touch (fun b hb => Or.inr (h.own b (List.mem_append.1 hb)))⟩
theorem Solo.new {w0 w w' : World} {x : PT} {s s' : Mem.MS} {ds : List MDef} (h : PNewAt w w' x s s' ds) (hv : ∀ d ∈ ds, 1 ≤ d.val) (h0 : Touch [] w0 w) (hs : ∀ b ∈ s.blocks, w0.heap.size ≤ b) : Solo w0 w' x s' ds (ds.map newQ) :=
 ⟨h.both, Regs.of_adds h.adds hv, h.ds, h.qs, fun b hb => by
  have := h0.size
  rcases hb with hb | hb
  ·have := h.own b hb; omega
  ·rcases h.mown b hb with h1 | h1
   ·exact hs b h1
   ·omega, h0.trans h.touch (fun b hb => Or.inr (hs b hb))⟩
theorem Solo.read {w0 w : World} {x : PT} {s : Mem.MS} {ds : List MDef} {qs : List PX} (h : Solo w0 w x s ds qs) {k : Nat} {d : MDef} (hd : ds[k]? = some d) {sl : Nat} (hs : (sl : Int) < d.max) :
  Mem.readE s.rs (plI k sl) d.val = 0 ∧ ((Mem.readV s.rs (plI k sl) d.val).length : Int) = d.val ∧ ∀ y ∈ Mem.readV s.rs (plI k sl) d.val, 0 ≤ y ∧ y ≤ 255 := by
 obtain ⟨r, hr, hp, hb, hl⟩ := h.regs k d hd sl hs
 have := MemAt.read_at h.p.mem hr hp
 rw [hb, hl] at this
 rw [this.1, this.2]
 exact ⟨rfl, hl, (h.p.mem.ok r hr).byte⟩
theorem Solo.write {w0 w w2 : World} {x : PT} {s s2 : Mem.MS} {ds : List MDef} {qs : List PX} (h : Solo w0 w x s ds qs) (h2 : Mem.MemAt w2 s2) {k : Nat} {d : MDef} (hd : ds[k]? = some d) {sl : Nat} (hs : (sl : Int) < d.max) {vs : List Int} (hl : (vs.length : Int) = d.val) (e : s2.rs = Mem.writeRs s.rs (plI k sl) vs) :
  Mem.readV s2.rs (plI k sl) d.val = vs ∧ ∀ (k' : Nat) (d' : MDef) (sl' : Nat), ds[k']? = some d' → (sl' : Int) < d'.max → plI k' sl' ≠ plI k sl → Mem.readV s2.rs (plI k' sl') d'.val = Mem.readV s.rs (plI k' sl') d'.val := by
 obtain ⟨r, hr, hp, hb, hrl⟩ := h.regs k d hd sl hs
 rw [← hb] at e
 obtain ⟨e1, e2⟩ := write_all h.p.mem h2 hr hp (vs := vs) (by omega) e
 rw [hb, hl] at e1
 refine ⟨e1.2, fun k' d' sl' hd' hs' hne => ?_⟩
 obtain ⟨r2, h1, h2, h3, h4⟩ := h.regs k' d' hd' sl' hs'
 have := (e2 r2 h1 h2 (by rw [h3, hb]; exact hne)).2
 rw [h3, h4] at this
 exact this
theorem Solo.writes {w0 w : World} {x : PT} {s : Mem.MS} {ds : List MDef} {qs : List PX} (h : Solo w0 w x s ds qs) {k : Nat} {d : MDef} (hd : ds[k]? = some d) {sl : Nat} (hs : (sl : Int) < d.max) {vs : List Int} (hl : (vs.length : Int) = d.val) :
  Mem.writeE s.rs (plI k sl) vs = 0 ∧ Regs ds (Mem.writeRs s.rs (plI k sl) vs) := by
 obtain ⟨r, hr, hp, hb, hrl⟩ := h.regs k d hd sl hs
 rw [← hb]
 exact ⟨(MemAt.write_at h.p.mem hr hp (by omega)).1, Regs.write h.p.mem h.regs hr hp (by omega)⟩
theorem load_read {rs : List Mem.Reg} {p n : Int} (h0 : 0 < n) (hw : Mem.wordB n = true) (hr : Mem.readE rs p n = 0) : Mem.loadE rs p n = 0 ∧ Mem.loadV rs p n = Mem.num (fun j => (Mem.readV rs p n).getD j 0) n.toNat := by
 unfold Mem.readE at hr
 rw [if_neg (by omega), if_neg (by omega)] at hr
 unfold Mem.loadE Mem.loadV Mem.readV
 rw [if_pos hw, if_pos ⟨hw, hr⟩, if_neg (by omega)]
 exact ⟨hr, rfl⟩
end Go.Proofs.YtmhhahmjkopjhaaGreat
end
section
namespace Go.Proofs.YtmhhahmjkopjhaaGreat
open Go.RowKit
def updA (d : MDef) (q : PX) (bs vs : List Int) (fl : Int) : Int × PX × Option Int :=
 if (bs.length : Int) = d.key then
  if (vs.length : Int) = d.val then (if (q.putA bs fl).1.2.2 = 0 then (0, (q.putA bs fl).2, some (q.putA bs fl).1.1) else ((q.putA bs fl).1.2.2, (q.putA bs fl).2, none)) else (2, q, none)
 else (2, q, none)
def delAA (d : MDef) (q : PX) (bs : List Int) : Int × PX := if (bs.length : Int) = d.key then ((q.delA bs).1.2, (q.delA bs).2) else (2, q)
def lookA (d : MDef) (q : PX) (bs : List Int) : Option Nat × Int × PX := if (bs.length : Int) = d.key then ((q.findA bs).1, 0, (q.findA bs).2) else (none, 2, q)
theorem chk_at {ds : List MDef} {k : Nat} {d : MDef} (hd : ds[k]? = some d) (n : Nat) : chkP ds k n = if (n : Int) = d.key then 0 else 2 := by
 unfold chkP
 rw [if_pos ⟨by omega, by have := (List.getElem?_eq_some_iff.1 hd).1; omega⟩, Int.toNat_natCast, hd]
theorem set_same {α : Type} {l : List α} {k : Nat} {a : α} (h : l[k]? = some a) : l.set k a = l := by
 obtain ⟨hk, rfl⟩ := List.getElem?_eq_some_iff.1 h
 exact List.set_getElem_self hk
theorem upd_at {x : PT} {ds : List MDef} {qs : List PX} (h1 : x.ds = ds) (h2 : x.qs = qs) {k : Nat} {d : MDef} {q : PX} (hd : ds[k]? = some d) (hq : qs[k]? = some q) (bs vs : List Int) (fl : Int) :
  updP x k bs vs fl = ((updA d q bs vs fl).1, qs.set k (updA d q bs vs fl).2.1, (updA d q bs vs fl).2.2.map fun s => plI k s) := by
 subst h1
 subst h2
 obtain ⟨m, hm, hmd, hmq⟩ := PT.at_ds hd hq
 subst hmd
 subst hmq
 unfold updP updA
 rw [chk_at hd]
 by_cases hb : (bs.length : Int) = m.d.key
 ·rw [if_pos hb, if_pos rfl, Int.toNat_natCast, hm, if_pos hb]
  dsimp only
  by_cases hv : (vs.length : Int) = m.d.val
  ·rw [if_pos hv, if_pos hv]
   split <;> rfl
  ·rw [if_neg hv, if_neg hv]
   simp only [set_same hq, Option.map_none]
 ·rw [if_neg hb, if_neg (by decide), if_neg hb]
  simp only [set_same hq, Option.map_none]
theorem del_at {x : PT} {ds : List MDef} {qs : List PX} (h1 : x.ds = ds) (h2 : x.qs = qs) {k : Nat} {d : MDef} {q : PX} (hd : ds[k]? = some d) (hq : qs[k]? = some q) (bs : List Int) :
  delP x k bs = ((delAA d q bs).1, qs.set k (delAA d q bs).2) := by
 subst h1
 subst h2
 unfold delP delAA
 rw [chk_at hd]
 by_cases hb : (bs.length : Int) = d.key
 ·rw [if_pos hb, if_pos rfl, Int.toNat_natCast, hq, if_pos hb]
 ·rw [if_neg hb, if_neg (by decide), if_neg hb]
  simp only [set_same hq]
theorem get_at {x : PT} {ds : List MDef} {qs : List PX} (h1 : x.ds = ds) (h2 : x.qs = qs) (rs : List Mem.Reg) {k : Nat} {d : MDef} {q : PX} (hd : ds[k]? = some d) (hq : qs[k]? = some q) (bs : List Int) :
  getP x rs k bs = ((if (lookA d q bs).2.1 = 0 then (match (lookA d q bs).1 with
   | some s => (Mem.readV rs (plI k (s : Int)) d.val, Mem.readE rs (plI k (s : Int)) d.val)
   | none => ([], 14)) else ([], (lookA d q bs).2.1)), qs.set k (lookA d q bs).2.2) := by
 subst h1
 subst h2
 obtain ⟨m, hm, hmd, hmq⟩ := PT.at_ds hd hq
 subst hmd
 subst hmq
 unfold getP lookA
 rw [chk_at hd]
 by_cases hb : (bs.length : Int) = m.d.key
 ·rw [if_pos hb, if_pos rfl, Int.toNat_natCast, hm, if_pos hb]
  rfl
 ·rw [if_neg hb, if_neg (by decide), if_neg hb]
  simp only [set_same hq]
  rfl
theorem upd_zero {d : MDef} {q : PX} {bs vs : List Int} {fl z : Int} (h : (updA d q bs vs fl).2.2 = some z) : (updA d q bs vs fl).1 = 0 := by
 by_cases h1 : (bs.length : Int) = d.key
 ·by_cases h2 : (vs.length : Int) = d.val
  ·by_cases h3 : (q.putA bs fl).1.2.2 = 0
   ·unfold updA
    rw [if_pos h1, if_pos h2, if_pos h3]
   ·unfold updA at h
    rw [if_pos h1, if_pos h2, if_neg h3] at h
    cases h
  ·unfold updA at h
   rw [if_pos h1, if_neg h2] at h
   cases h
 ·unfold updA at h
  rw [if_neg h1] at h
  cases h
theorem upd_slot {d : MDef} {q : PX} (g : PGood q) {bs vs : List Int} {fl z : Int} (h : (updA d q bs vs fl).2.2 = some z) : ∃ sl : Nat, z = sl ∧ sl < q.slots.length ∧ (vs.length : Int) = d.val := by
 unfold updA at h
 split at h
 ·split at h
  ·rename_i hv
   split at h
   ·rename_i h0
    injection h with h
    obtain ⟨sl, h1, h2⟩ := pput_slot g h0
    exact ⟨sl, by rw [← h, h1], h2, hv⟩
   ·cases h
  ·cases h
 ·cases h
theorem Solo.map {w0 w : World} {x : PT} {s : Mem.MS} {ds : List MDef} {qs : List PX} (h : Solo w0 w x s ds qs) {k : Nat} {d : MDef} {q : PX} (hd : ds[k]? = some d) (hq : qs[k]? = some q) : PGood q ∧ (q.slots.length : Int) = d.max ∧ q.slots.length ≤ 64 := by
 obtain ⟨m, hm, rfl, rfl⟩ := PT.at_ds (x := x) (by rw [h.ds]; exact hd) (by rw [h.qs]; exact hq)
 have hmem := List.mem_of_getElem? hm
 have hg := (h.p.tab.maps m hmem).good
 exact ⟨hg, (h.p.tab.ok m hmem).max, by have := hg.m2; omega⟩
structure Sep (w0 w : World) (x : PT) (s : Mem.MS) (ds : List MDef) (qs : List PX) (x' : PT) (s' : Mem.MS) (ds' : List MDef) (qs' : List PX) : Prop where
 t : Solo w0 w x s ds qs
 u : Solo w0 w x' s' ds' qs'
 apart : ∀ y, y ∈ x.blocks ∨ y ∈ s.blocks → ¬ (y ∈ x'.blocks ∨ y ∈ s'.blocks)
theorem Sep.flip {w0 w : World} {x x' : PT} {s s' : Mem.MS} {ds ds' : List MDef} {qs qs' : List PX} (h : Sep w0 w x s ds qs x' s' ds' qs') : Sep w0 w x' s' ds' qs' x s ds qs := ⟨h.u, h.t, fun y hy hx => h.apart y hx hy⟩
theorem Sep.still {w0 w w' : World} {x x' : PT} {s s' : Mem.MS} {ds ds' : List MDef} {qs qs' : List PX} (h : Sep w0 w x s ds qs x' s' ds' qs') (ht : Touch [] w w') : Sep w0 w' x s ds qs x' s' ds' qs' := ⟨h.t.still ht, h.u.still ht, h.apart⟩
theorem Sep.left {w0 w w2 : World} {x x' x1 : PT} {s s' s1 : Mem.MS} {ds ds' : List MDef} {qs qs' qs1 : List PX} {S : List Nat} (h : Sep w0 w x s ds qs x' s' ds' qs') (t2 : Solo w0 w2 x1 s1 ds qs1) (ht : Touch S w w2) (hS : ∀ y ∈ S, y ∈ x.blocks ∨ y ∈ s.blocks)
  (hb : ∀ y, y ∈ x1.blocks ∨ y ∈ s1.blocks → (y ∈ x.blocks ∨ y ∈ s.blocks) ∨ w.heap.size ≤ y) : Sep w0 w2 x1 s1 ds qs1 x' s' ds' qs' := by
 refine ⟨t2, h.u.over ht (fun y hy hx => h.apart y (hS y hx) hy) (fun y hy => h.t.own y (hS y hy)), fun y hy hx => ?_⟩
 rcases hb y hy with h1 | h1
 ·exact h.apart y h1 hx
 ·rcases hx with hx | hx
  ·have := h.u.p.tab.lt y hx
   omega
  ·have := h.u.p.mem.lt y hx
   omega
theorem Sep.stepL {w0 w w2 : World} {x x' x1 : PT} {s s' : Mem.MS} {ds ds' : List MDef} {qs qs' qs1 : List PX} (h : Sep w0 w x s ds qs x' s' ds' qs') (st : PStep w w2 x x1 qs1) : Sep w0 w2 x1 s ds qs1 x' s' ds' qs' :=
 h.left (h.t.step st) st.touch (fun y hy => Or.inl hy) (fun y hy => by
  rcases hy with hy | hy
  ·rcases st.blocks y hy with h1 | h1
   ·exact Or.inl (Or.inl h1)
   ·exact Or.inr h1
  ·exact Or.inl (Or.inr hy))
theorem Sep.updL {w0 w w2 : World} {x x' x1 : PT} {s s' : Mem.MS} {ds ds' : List MDef} {qs qs' qs1 : List PX} {rs : List Mem.Reg} (h : Sep w0 w x s ds qs x' s' ds' qs') (st : PUSt w w2 x x1 s qs1 rs) (hg : Regs ds rs) : Sep w0 w2 x1 { s with rs := rs } ds qs1 x' s' ds' qs' :=
 h.left (h.t.upd st hg) st.touch (fun y hy => List.mem_append.1 hy) (fun y hy => by
  rcases hy with hy | hy
  ·rcases st.blocks y hy with h1 | h1
   ·exact Or.inl (Or.inl h1)
   ·exact Or.inr h1
  ·rw [st.sblk] at hy
   exact Or.inl (Or.inr hy))
theorem Solo.updW {w0 w w2 : World} {x x1 : PT} {s : Mem.MS} {ds : List MDef} {qs : List PX} (h : Solo w0 w x s ds qs) {k : Nat} {d : MDef} {q : PX} (hd : ds[k]? = some d) (hq : qs[k]? = some q) (bs vs : List Int) (fl : Int) {rs : List Mem.Reg} (e : rs = updRs s.rs vs (updP x k bs vs fl)) (st : PUSt w w2 x x1 s (updP x k bs vs fl).2.1 rs) :
  updE s.rs vs (updP x k bs vs fl) = (updA d q bs vs fl).1 ∧ (updP x k bs vs fl).2.1 = qs.set k (updA d q bs vs fl).2.1 ∧ Regs ds rs ∧
  (∀ (k' : Nat) (d' : MDef) (sl : Nat), ds[k']? = some d' → (sl : Int) < d'.max → sl < 64 → k' ≠ k → Mem.readV rs (plI k' sl) d'.val = Mem.readV s.rs (plI k' sl) d'.val) ∧
  (∀ sl : Nat, (sl : Int) < d.max → Mem.readV rs (plI k sl) d.val = if (updA d q bs vs fl).2.2 = some (sl : Int) then vs else Mem.readV s.rs (plI k sl) d.val) := by
 have hu := upd_at h.ds h.qs hd hq bs vs fl
 obtain ⟨hg, hmax, h64⟩ := h.map hd hq
 rw [hu] at e ⊢
 cases hz : (updA d q bs vs fl).2.2 with
 | none =>
  rw [hz] at e
  have e : rs = s.rs := e
  subst e
  refine ⟨rfl, rfl, h.regs, fun k' d' sl _ _ _ _ => rfl, fun sl _ => ?_⟩
  rw [if_neg (by simp)]
 | some z =>
  obtain ⟨sl0, rfl, hsl, hv⟩ := upd_slot hg hz
  rw [hz] at e
  have e : rs = Mem.writeRs s.rs (plI k sl0) vs := e
  obtain ⟨w1, w2'⟩ := h.writes hd (sl := sl0) (by omega) hv
  obtain ⟨v1, v2⟩ := h.write st.both.mem hd (sl := sl0) (by omega) hv e
  have hA1 := upd_zero hz
  refine ⟨by rw [hA1]; exact w1, rfl, by rw [e]; exact w2', fun k' d' sl hd' hs' hs64 hk => v2 k' d' sl hd' hs' (fun hx => hk (pl_inj (by omega) (by omega) hx).1), fun sl hs => ?_⟩
  by_cases hss : sl = sl0
  ·subst hss
   rw [if_pos rfl]
   exact v1
  ·rw [if_neg (fun hx => hss (by injection hx with hx; omega))]
   exact v2 k d sl hd hs (fun hx => hss (pl_inj (by omega) (by omega) hx).2)
structure Alike (w0 w : World) (x : PT) (s : Mem.MS) (qs : List PX) (x' : PT) (s' : Mem.MS) (qs' : List PX) (a b : MDef) : Prop where
 sep : Sep w0 w x s [a, b] qs x' s' [b] qs'
 q : ∃ q0 q, qs = [q0, q] ∧ qs' = [q]
 vals : ∀ sl : Nat, (sl : Int) < b.max → Mem.readV s.rs (plI 1 sl) b.val = Mem.readV s'.rs (plI 0 sl) b.val
theorem Alike.still {w0 w w' : World} {x x' : PT} {s s' : Mem.MS} {qs qs' : List PX} {a b : MDef} (h : Alike w0 w x s qs x' s' qs' a b) (ht : Touch [] w w') : Alike w0 w' x s qs x' s' qs' a b :=
 ⟨h.sep.still ht, h.q, h.vals⟩
theorem Alike.small {w0 w : World} {x x' : PT} {s s' : Mem.MS} {qs qs' : List PX} {a b : MDef} (h : Alike w0 w x s qs x' s' qs' a b) {sl : Nat} (hs : (sl : Int) < b.max) : sl < 64 := by
 obtain ⟨q0, q, rfl, rfl⟩ := h.q
 obtain ⟨_, h1, h2⟩ := h.sep.u.map (k := 0) (d := b) (q := q) rfl rfl
 omega
theorem Alike.upd0 {w0 w w2 : World} {x x' x1 : PT} {s s' : Mem.MS} {qs qs' : List PX} {a b : MDef} (h : Alike w0 w x s qs x' s' qs' a b) (bs vs : List Int) (fl : Int) (st : PUSt w w2 x x1 s (updP x ((0 : Nat) : Int) bs vs fl).2.1 (updRs s.rs vs (updP x ((0 : Nat) : Int) bs vs fl))) :
  ∃ qs2, Alike w0 w2 x1 { s with rs := updRs s.rs vs (updP x ((0 : Nat) : Int) bs vs fl) } qs2 x' s' qs' a b := by
 obtain ⟨q0, q, hq, hq'⟩ := h.q
 subst hq
 obtain ⟨e1, e2, e3, e4, _⟩ := h.sep.t.updW (k := 0) (d := a) (q := q0) rfl rfl bs vs fl rfl st
 have hS := h.sep.updL st e3
 rw [e2] at hS
 exact ⟨_, hS, ⟨_, q, rfl, hq'⟩, fun sl hs => (e4 1 b sl rfl hs (h.small hs) (by decide)).trans (h.vals sl hs)⟩
theorem Alike.step0 {w0 w w2 : World} {x x' x1 : PT} {s s' : Mem.MS} {qs qs' : List PX} {a b : MDef} (h : Alike w0 w x s qs x' s' qs' a b) {p : PX} {qs1 : List PX} (e : qs1 = qs.set 0 p) (st : PStep w w2 x x1 qs1) : ∃ qs2, Alike w0 w2 x1 s qs2 x' s' qs' a b := by
 obtain ⟨q0, q, hq, hq'⟩ := h.q
 subst hq
 subst e
 exact ⟨_, h.sep.stepL st, ⟨_, q, rfl, hq'⟩, h.vals⟩
theorem Alike.upd1 {w0 w w2 w3 : World} {x x' x1 x2 : PT} {s s' : Mem.MS} {qs qs' : List PX} {a b : MDef} (h : Alike w0 w x s qs x' s' qs' a b) (bs vs : List Int) (fl : Int) (st : PUSt w w2 x x1 s (updP x ((1 : Nat) : Int) bs vs fl).2.1 (updRs s.rs vs (updP x ((1 : Nat) : Int) bs vs fl)))
  (st' : PUSt w2 w3 x' x2 s' (updP x' ((0 : Nat) : Int) bs vs fl).2.1 (updRs s'.rs vs (updP x' ((0 : Nat) : Int) bs vs fl))) :
  updE s.rs vs (updP x ((1 : Nat) : Int) bs vs fl) = updE s'.rs vs (updP x' ((0 : Nat) : Int) bs vs fl) ∧
  ∃ qs2 qs2', Alike w0 w3 x1 { s with rs := updRs s.rs vs (updP x ((1 : Nat) : Int) bs vs fl) } qs2 x2 { s' with rs := updRs s'.rs vs (updP x' ((0 : Nat) : Int) bs vs fl) } qs2' a b := by
 obtain ⟨q0, q, hq, hq'⟩ := h.q
 subst hq
 subst hq'
 obtain ⟨e1, e2, e3, _, e5⟩ := h.sep.t.updW (k := 1) (d := b) (q := q) rfl rfl bs vs fl rfl st
 have hS := h.sep.updL st e3
 rw [e2] at hS
 obtain ⟨f1, f2, f3, _, f5⟩ := hS.u.updW (k := 0) (d := b) (q := q) rfl rfl bs vs fl rfl st'
 have hS' := (hS.flip.updL st' f3).flip
 rw [f2] at hS'
 refine ⟨by rw [e1, f1], _, _, hS', ⟨q0, _, rfl, rfl⟩, fun sl hs => ?_⟩
 have g1 := e5 sl hs
 have g2 := f5 sl hs
 have g3 := h.vals sl hs
 refine g1.trans (Eq.trans ?_ g2.symm)
 split
 ·rfl
 ·exact g3
theorem Alike.step1 {w0 w w2 w3 : World} {x x' x1 x2 : PT} {s s' : Mem.MS} {qs qs' : List PX} {a b : MDef} (h : Alike w0 w x s qs x' s' qs' a b) {p : PX} {qs1 qs1' : List PX} (e : qs1 = qs.set 1 p) (e' : qs1' = qs'.set 0 p) (st : PStep w w2 x x1 qs1) (st' : PStep w2 w3 x' x2 qs1') : ∃ qs2 qs2', Alike w0 w3 x1 s qs2 x2 s' qs2' a b := by
 obtain ⟨q0, q, hq, hq'⟩ := h.q
 subst hq
 subst hq'
 subst e
 subst e'
 exact ⟨_, _, ((h.sep.stepL st).flip.stepL st').flip, ⟨q0, p, rfl, rfl⟩, h.vals⟩
theorem look_slot {d : MDef} {q : PX} {bs : List Int} {sl : Nat} (h : (lookA d q bs).1 = some sl) : sl < q.slots.length := by
 unfold lookA at h
 by_cases hb : (bs.length : Int) = d.key
 ·rw [if_pos hb] at h
  exact pfind_lt h
 ·rw [if_neg hb] at h
  cases h
theorem Alike.get1 {w0 w : World} {x x' : PT} {s s' : Mem.MS} {qs qs' : List PX} {a b : MDef} (h : Alike w0 w x s qs x' s' qs' a b) (bs : List Int) :
  (getP x s.rs ((1 : Nat) : Int) bs).1 = (getP x' s'.rs ((0 : Nat) : Int) bs).1 ∧ ∃ p, (getP x s.rs ((1 : Nat) : Int) bs).2 = qs.set 1 p ∧ (getP x' s'.rs ((0 : Nat) : Int) bs).2 = qs'.set 0 p := by
 obtain ⟨q0, q, hq, hq'⟩ := h.q
 subst hq
 subst hq'
 have g1 := get_at h.sep.t.ds h.sep.t.qs s.rs (k := 1) (d := b) (q := q) rfl rfl bs
 have g2 := get_at h.sep.u.ds h.sep.u.qs s'.rs (k := 0) (d := b) (q := q) rfl rfl bs
 obtain ⟨_, hm, _⟩ := h.sep.u.map (k := 0) (d := b) (q := q) rfl rfl
 rw [g1, g2]
 refine ⟨?_, _, rfl, rfl⟩
 dsimp only
 cases hl : (lookA b q bs).1 with
 | none => rfl
 | some sl =>
  have hs : (sl : Int) < b.max := by have := look_slot hl; omega
  have r1 := h.sep.t.read (k := 1) (d := b) rfl (sl := sl) hs
  have r2 := h.sep.u.read (k := 0) (d := b) rfl (sl := sl) hs
  have v := h.vals sl hs
  have v' : Mem.readV s.rs (plI ((1 : Nat) : Int) sl) b.val = Mem.readV s'.rs (plI ((0 : Nat) : Int) sl) b.val := v
  dsimp only
  rw [r1.1, r2.1, v']
theorem Alike.del1 {w0 w : World} {x x' : PT} {s s' : Mem.MS} {qs qs' : List PX} {a b : MDef} (h : Alike w0 w x s qs x' s' qs' a b) (bs : List Int) :
  (delP x ((1 : Nat) : Int) bs).1 = (delP x' ((0 : Nat) : Int) bs).1 ∧ ∃ p, (delP x ((1 : Nat) : Int) bs).2 = qs.set 1 p ∧ (delP x' ((0 : Nat) : Int) bs).2 = qs'.set 0 p := by
 obtain ⟨q0, q, hq, hq'⟩ := h.q
 subst hq
 subst hq'
 rw [del_at h.sep.t.ds h.sep.t.qs (k := 1) (d := b) (q := q) rfl rfl bs, del_at h.sep.u.ds h.sep.u.qs (k := 0) (d := b) (q := q) rfl rfl bs]
 exact ⟨rfl, _, rfl, rfl⟩
theorem Alike.get0 {w0 w : World} {x x' : PT} {s s' : Mem.MS} {qs qs' : List PX} {a b : MDef} (h : Alike w0 w x s qs x' s' qs' a b) (bs : List Int) : ∃ p, (getP x s.rs ((0 : Nat) : Int) bs).2 = qs.set 0 p := by
 obtain ⟨q0, q, hq, _⟩ := h.q
 subst hq
 rw [get_at h.sep.t.ds h.sep.t.qs s.rs (k := 0) (d := a) (q := q0) rfl rfl bs]
 exact ⟨_, rfl⟩
theorem Alike.del0 {w0 w : World} {x x' : PT} {s s' : Mem.MS} {qs qs' : List PX} {a b : MDef} (h : Alike w0 w x s qs x' s' qs' a b) (bs : List Int) : ∃ p, (delP x ((0 : Nat) : Int) bs).2 = qs.set 0 p := by
 obtain ⟨q0, q, hq, _⟩ := h.q
 subst hq
 rw [del_at h.sep.t.ds h.sep.t.qs (k := 0) (d := a) (q := q0) rfl rfl bs]
 exact ⟨_, rfl⟩
end Go.Proofs.YtmhhahmjkopjhaaGreat
end
section
namespace Go.Proofs.YtmhhahmjkopjhaaGreat
open Go.RowKit
theorem pfind_own2 {q : PX} (hk : ¬ q.kind = 3) {i : Nat} {bs : List Int} (hi : q.slots[i]? = some (some bs)) (hl : (bs.length : Int) = q.size) (h1 : ∀ j, q.slots[j]? = some (some bs) → j = i) : (q.findA bs).1 = some i := by
 rw [pfind_ne hk]
 unfold PX.find
 rw [if_pos hl]
 cases hs : sameP q.slots bs with
 | none => exact absurd hi (same_not hs i)
 | some j => rw [h1 j (sameP_get hs)]
theorem kfind_own {w : World} {X : Nat} {bl : List Nat} {q : PX} (h : KAt w X bl q) {i : Nat} {bs : List Int} (hi : q.slots[i]? = some (some bs)) : (q.findA bs).1 = some i := by
 have hl := h.good.lens bs (List.mem_of_getElem? hi)
 rcases h.is with ⟨a1, rfl, a3, m, a4, a5⟩ | ⟨a1, b, n, a2, rfl, a4⟩ | ⟨a1, x, a2, rfl, rfl, a5, a6, a7⟩ | ⟨a1, x, a2, rfl, rfl, a5, a6⟩
 ·have hget : ∀ j : Nat, q.slots[j]? = some (some bs) → j < m ∧ bs = le4 (j : Int) := fun j hj => by
   rw [a5] at hj
   have hlt := (List.getElem?_eq_some_iff.1 hj).1
   have hm : j < m := by simpa [allKeys] using hlt
   rw [allKeys, List.map_map, List.getElem?_map, List.getElem?_range hm] at hj
   injection hj with hj
   injection hj with hj
   exact ⟨hm, hj.symm⟩
  have hm64 := a4.2.2
  refine pfind_own2 (by rw [a1]; decide) hi hl (fun j hj => ?_)
  obtain ⟨q1, q2⟩ := hget i hi
  obtain ⟨q3, q4⟩ := hget j hj
  have e1 : keyNum bs = i := by rw [q2, num_le4 _ (by omega) (by omega)]
  have e2 : keyNum bs = j := by rw [q4, num_le4 _ (by omega) (by omega)]
  omega
 ·obtain ⟨D, _, _, hS⟩ := a4.map.map
  exact pfind_own2 (by rw [a1]; decide) hi hl (fun j hj => hS.once hj hi)
 ·obtain ⟨D, _, _, hS⟩ := a6.map.map
  rw [a5] at hS
  exact pfind_own2 (by rw [a1]; decide) hi hl (fun j hj => hS.once hj hi)
 ·unfold PX.findA
  rw [if_pos a1]
  unfold PX.find3
  rw [pfits a2]
  have hT := a6.tied
  obtain ⟨p, hp, rfl⟩ := hT.form bs (by rw [a5]; exact List.mem_of_getElem? hi)
  have hn := a6.n12
  have hnum : keyNum (Lpm.keyP p x.n) = p.length := Lpm.keyNum_key p x.n (by omega)
  have hf : Lpm.fitsK (Lpm.keyP p x.n) x.n = true := by
   unfold Lpm.fitsK
   rw [Lpm.keyP_len, hnum, decide_eq_true rfl, decide_eq_true (by omega)]
   rfl
  rw [hf, if_pos rfl]
  show longTo q.slots (Lpm.keyP p x.n) q.slots.length = some i
  rw [← a5, Lpm.long_eq hT (by omega) (Lpm.keyP_len p x.n) (Lpm.keyP_bd p x.n) (by rw [hnum]; omega), Lpm.pathP_key p hp (by omega)]
  have hat : Lpm.atT x.T p = some i := (hT.at_ p i).2 ⟨hp, by rw [a5]; exact hi⟩
  rcases Lpm.longT_get p x.T with ⟨_, h2⟩ | ⟨s, k, h1, h2, h3, h4⟩
  ·have := h2 p.length
   rw [List.take_length, hat] at this
   cases this
  ·by_cases hk : k < p.length
   ·have := h4 p.length hk (Nat.le_refl _)
    rw [List.take_length, hat] at this
    cases this
   ·have : p.take k = p := by rw [show k = p.length by omega, List.take_length]
    rw [this, hat] at h3
    rw [h1]
    exact h3.symm
theorem ta00 (v : Value) (w : World) : (Instr.typeAssert (.iface 148 v) 87 148 true).run Tryz.prog w = .ok (.tuple #[v, .bool true]) w := by kernel_rfl
theorem ta01 (v : Value) (w : World) : (Instr.typeAssert (.iface 148 v) 87 150 true).run Tryz.prog w = .ok (.tuple #[.pointer none, .bool false]) w := by kernel_rfl
theorem ta02 (v : Value) (w : World) : (Instr.typeAssert (.iface 148 v) 87 152 true).run Tryz.prog w = .ok (.tuple #[.pointer none, .bool false]) w := by kernel_rfl
theorem ta03 (v : Value) (w : World) : (Instr.typeAssert (.iface 148 v) 87 154 true).run Tryz.prog w = .ok (.tuple #[.pointer none, .bool false]) w := by kernel_rfl
theorem ta10 (v : Value) (w : World) : (Instr.typeAssert (.iface 150 v) 87 148 true).run Tryz.prog w = .ok (.tuple #[.pointer none, .bool false]) w := by kernel_rfl
theorem ta11 (v : Value) (w : World) : (Instr.typeAssert (.iface 150 v) 87 150 true).run Tryz.prog w = .ok (.tuple #[v, .bool true]) w := by kernel_rfl
theorem ta12 (v : Value) (w : World) : (Instr.typeAssert (.iface 150 v) 87 152 true).run Tryz.prog w = .ok (.tuple #[.pointer none, .bool false]) w := by kernel_rfl
theorem ta13 (v : Value) (w : World) : (Instr.typeAssert (.iface 150 v) 87 154 true).run Tryz.prog w = .ok (.tuple #[.pointer none, .bool false]) w := by kernel_rfl
theorem ta20 (v : Value) (w : World) : (Instr.typeAssert (.iface 152 v) 87 148 true).run Tryz.prog w = .ok (.tuple #[.pointer none, .bool false]) w := by kernel_rfl
theorem ta21 (v : Value) (w : World) : (Instr.typeAssert (.iface 152 v) 87 150 true).run Tryz.prog w = .ok (.tuple #[.pointer none, .bool false]) w := by kernel_rfl
theorem ta22 (v : Value) (w : World) : (Instr.typeAssert (.iface 152 v) 87 152 true).run Tryz.prog w = .ok (.tuple #[v, .bool true]) w := by kernel_rfl
theorem ta23 (v : Value) (w : World) : (Instr.typeAssert (.iface 152 v) 87 154 true).run Tryz.prog w = .ok (.tuple #[.pointer none, .bool false]) w := by kernel_rfl
theorem ta30 (v : Value) (w : World) : (Instr.typeAssert (.iface 154 v) 87 148 true).run Tryz.prog w = .ok (.tuple #[.pointer none, .bool false]) w := by kernel_rfl
theorem ta31 (v : Value) (w : World) : (Instr.typeAssert (.iface 154 v) 87 150 true).run Tryz.prog w = .ok (.tuple #[.pointer none, .bool false]) w := by kernel_rfl
theorem ta32 (v : Value) (w : World) : (Instr.typeAssert (.iface 154 v) 87 152 true).run Tryz.prog w = .ok (.tuple #[.pointer none, .bool false]) w := by kernel_rfl
theorem ta33 (v : Value) (w : World) : (Instr.typeAssert (.iface 154 v) 87 154 true).run Tryz.prog w = .ok (.tuple #[v, .bool true]) w := by kernel_rfl
def TwinPost (w : World) (k : Int) (q : PX) (e : Ending) (w' : World) : Prop := ∃ C bl, e = .returned (ixV k C) ∧ KAt w' C bl q ∧ (∀ b ∈ bl, w.heap.size ≤ b) ∧ Touch [] w w'
theorem twin_any {w : World} {X : Nat} {bl : List Nat} {q : PX} (h : KAt w X bl q) : Calls Tryz.prog 40 #[ixV q.kind X] w (TwinPost w q.kind q) := by
 have H1 := toHid (kcopy_any h)
 have hg := h.good
 have hk : q.kind = 0 ∨ q.kind = 1 ∨ q.kind = 2 ∨ q.kind = 3 := by have := hg.k0; have := hg.k3; omega
 have HF : Hid (∀ C bl w', KAt w' C bl q → (∀ b ∈ bl, w.heap.size ≤ b) → Touch [] w w' → TwinPost w q.kind q (.returned (ixV q.kind C)) w') := fun C bl w' h1 h2 h3 => ⟨C, bl, rfl, h1, h2, h3⟩
 clear h hg
 rcases hk with hk | hk | hk | hk
 ·rw [hk] at H1 HF ⊢
  unfold ixV typF at *
  simp only [copyF, if_true, if_false, Int.reduceEq] at *
  have t0 := ta00
  have t1 := ta01
  have t2 := ta02
  have t3 := ta03
  go_enter Tryz.func40, Tryz.ntmps40
  go_wp2_with fail
  refine Calls.mono H1.out ?_
  rintro e w2 ⟨C, bl, rfl, hA, hb, ht⟩
  have HX := toHid (HF.out _ _ _ hA hb ht)
  clear hA hb ht
  go_wp2
  go_ret
  exact HX.out
 ·rw [hk] at H1 HF ⊢
  unfold ixV typF at *
  simp only [copyF, if_true, if_false, Int.reduceEq] at *
  have t0 := ta10
  have t1 := ta11
  have t2 := ta12
  have t3 := ta13
  go_enter Tryz.func40, Tryz.ntmps40
  go_wp2_with fail
  refine Calls.mono H1.out ?_
  rintro e w2 ⟨C, bl, rfl, hA, hb, ht⟩
  have HX := toHid (HF.out _ _ _ hA hb ht)
  clear hA hb ht
  go_wp2
  go_ret
  exact HX.out
 ·rw [hk] at H1 HF ⊢
  unfold ixV typF at *
  simp only [copyF, if_true, if_false, Int.reduceEq] at *
  have t0 := ta20
  have t1 := ta21
  have t2 := ta22
  have t3 := ta23
  go_enter Tryz.func40, Tryz.ntmps40
  go_wp2_with fail
  refine Calls.mono H1.out ?_
  rintro e w2 ⟨C, bl, rfl, hA, hb, ht⟩
  have HX := toHid (HF.out _ _ _ hA hb ht)
  clear hA hb ht
  go_wp2
  go_ret
  exact HX.out
 ·rw [hk] at H1 HF ⊢
  unfold ixV typF at *
  simp only [copyF, if_false, Int.reduceEq] at *
  have t0 := ta30
  have t1 := ta31
  have t2 := ta32
  have t3 := ta33
  go_enter Tryz.func40, Tryz.ntmps40
  go_wp2_with fail
  refine Calls.mono H1.out ?_
  rintro e w2 ⟨C, bl, rfl, hA, hb, ht⟩
  have HX := toHid (HF.out _ _ _ hA hb ht)
  clear hA hb ht
  go_wp2
  go_ret
  exact HX.out
end Go.Proofs.YtmhhahmjkopjhaaGreat
end
