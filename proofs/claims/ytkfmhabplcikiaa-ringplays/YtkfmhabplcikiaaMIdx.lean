/-
  index (slices.IndexFunc with a closure), Live, Count, Find: reading calls of a memory.
-/
import Derived.Test.YtkfmhabplcikiaaMFind
namespace Go.Proofs.Ytkfmhabplcikiaa.Mem
open Go.RowKit

set_option maxHeartbeats 400000 in
theorem count_any {w : World} {s : MS} (h : MemAt w s) : Calls Try.prog 22 #[.pointer (some ⟨s.m, 0, none⟩)] w fun e w' => e = .returned (.int .i64 s.rs.length) ∧ w' = w := by
  have hc0 := h.c0
  simp only [slV] at hc0
  clear h
  go_enter Try.func22, Try.ntmps22
  go_wp2
  go_ret
  exact ⟨rfl, rfl⟩

set_option maxHeartbeats 400000 in
theorem clos_any (p q : Nat) (a id : Int) (w : World) (hp : w.cell? ⟨p, 0, none⟩ = some (.int .i64 a)) (hq : w.cell? ⟨q, 0, none⟩ = some (.int .i64 id)) :
    Calls Try.prog 55 #[.pointer (some ⟨p, 0, none⟩), .pointer (some ⟨q, 0, none⟩)] w fun e w' => e = .returned (.bool (a == id)) ∧ ∃ k, w' = w.drewN k := by
  go_enter Try.func55, Try.ntmps55
  go_wp2
  go_quiet (fail)
  go_wp2
  go_ret
  exact ⟨rfl, _, rfl⟩

set_option maxHeartbeats 1000000 in
set_option maxRecDepth 100000 in
theorem idxf_any (g n cap q : Nat) (id : Int) (ps : Nat → Nat) (ids : Nat → Int) (w : World) (hn : n ≤ 4096)
    (hc : ∀ j, j < n → w.cell? ⟨g, j, none⟩ = some (.pointer (some ⟨ps j, 0, none⟩)))
    (hb : ∀ j, j < n → w.cell? ⟨ps j, 0, none⟩ = some (.int .i64 (ids j)))
    (hq : w.cell? ⟨q, 0, none⟩ = some (.int .i64 id)) :
    Calls Try.prog 54 #[.slice (some ⟨g, 0, none⟩) n cap, .func (.func 55) #[] #[.pointer (some ⟨q, 0, none⟩)]] w fun e w' =>
      ((∃ i : Nat, i < n ∧ e = .returned (.int .i64 i) ∧ ids i = id ∧ ∀ j, j < i → ids j ≠ id) ∨ (e = .returned (.int .i64 (-1)) ∧ ∀ j, j < n → ids j ≠ id)) ∧ ∃ k, w' = w.drewN k := by
  have HC := toHid hc
  have HB := toHid hb
  clear hc hb
  go_enter Try.func54, Try.ntmps54
  go_wp2
  go_loopw [8] (fun t w' => ∃ k : Nat, k ≤ n ∧ t = .int .i64 k ∧ (∃ d, w' = w.drewN d) ∧ Hid (∀ j, j < k → ids j ≠ id)) (fun t _ => n - (intOf t).toNat)
  case atStart => exact ⟨0, by omega, rfl, ⟨0, rfl⟩, fun j hj => by omega⟩
  case round =>
    obtain ⟨k, hk, rfl, ⟨d, rfl⟩, HI⟩ := hrel
    by_cases hlt : k < n
    · have c1 := HC.out k hlt
      have c2 := HB.out k hlt
      by_cases he : ids k = id
      · have hb : (ids k == id) = true := by simpa using he
        have HE := toHid he
        have HBB := toHid hb
        clear he hb
        go_wp2_with (go_at_call 55; refine (clos_any (ps k) q (ids k) id _ (by simp only [World.cell?_drewN, c2]) (by simp only [World.cell?_drewN, hq])).mono ?_; rintro e w' ⟨rfl, k2, rfl⟩; rw [HBB.out])
        go_ret
        exact ⟨Or.inl ⟨k, hlt, rfl, HE.out, HI.out⟩, _, rfl⟩
      · have hb : (ids k == id) = false := by simpa using he
        have HE := toHid he
        have HBB := toHid hb
        clear he hb
        go_wp2_with (go_at_call 55; refine (clos_any (ps k) q (ids k) id _ (by simp only [World.cell?_drewN, c2]) (by simp only [World.cell?_drewN, hq])).mono ?_; rintro e w' ⟨rfl, k2, rfl⟩; rw [HBB.out])
        go_roundw
        case rel => exact ⟨k + 1, by omega, by go_num, ⟨_, rfl⟩, fun j hj => by
            by_cases e : j = k
            · subst e; exact HE.out
            · exact HI.out j (by omega)⟩
        case measure => simp [intOf]; omega
    · have hkn : k = n := by omega
      subst hkn
      go_wp2
      go_ret
      exact ⟨Or.inr ⟨rfl, HI.out⟩, _, rfl⟩

set_option maxHeartbeats 400000 in
theorem idxf_nil (f : Value) (w : World) :
    Calls Try.prog 54 #[.slice none 0 0, f] w fun e w' => e = .returned (.int .i64 (-1)) ∧ w' = w := by
  go_enter Try.func54, Try.ntmps54
  go_wp2
  go_loop [8] (fun t => t = .int .i64 0) (fun _ => 0)
  case atStart => rfl
  case round =>
    subst hrel
    go_wp2
    go_ret
    exact ⟨rfl, rfl⟩

/-- Where the region with that id stands; -1: nowhere. -/
def idxR (rs : List Reg) (id : Int) : Int := match rs.findIdx? (fun r => r.id == id) with
  | some i => i
  | none => -1

theorem idxR_some {rs : List Reg} {id : Int} {i : Nat} (hi : i < rs.length) (h1 : (rs.getD i Reg.zero).id = id) (h2 : ∀ j, j < i → (rs.getD j Reg.zero).id ≠ id) : idxR rs id = i := by
  have : rs.findIdx? (fun r => r.id == id) = some i := by
    rw [List.findIdx?_eq_some_iff_getElem]
    refine ⟨hi, ?_, fun j hj => ?_⟩
    · rw [List.getD_eq_getElem?_getD, List.getElem?_eq_getElem hi] at h1
      simpa using h1
    · have := h2 j hj
      rw [List.getD_eq_getElem?_getD, List.getElem?_eq_getElem (by omega)] at this
      simpa using this
  unfold idxR
  rw [this]
theorem idxR_none {rs : List Reg} {id : Int} (h2 : ∀ j, j < rs.length → (rs.getD j Reg.zero).id ≠ id) : idxR rs id = -1 := by
  have : rs.findIdx? (fun r => r.id == id) = none := by
    rw [List.findIdx?_eq_none_iff]
    intro x hx
    obtain ⟨j, hj, rfl⟩ := List.getElem_of_mem hx
    have := h2 j hj
    rw [List.getD_eq_getElem?_getD, List.getElem?_eq_getElem hj] at this
    simpa using this
  unfold idxR
  rw [this]

set_option maxHeartbeats 400000 in
set_option maxRecDepth 100000 in
theorem index_any {w : World} {s : MS} (h : MemAt w s) (id : Int) :
    Calls Try.prog 45 #[.pointer (some ⟨s.m, 0, none⟩), .int .i64 id] w fun e w' => e = .returned (.int .i64 (idxR s.rs id)) ∧ Touch [] w w' := by
  have hlt := h.lt s.m s.mem_m
  have hM : ∀ o, MemAt (w.alloc o) s := fun o => h.touch ((Touch.refl [] w).alloc o) (by simp)
  have hc0 := h.c0
  cases hg : s.g with
  | none =>
    obtain ⟨h1, h2⟩ := h.nil hg
    rw [hg, h1, h2] at hc0
    simp only [slV_none, List.length_nil] at hc0
    have HR : Hid (idxR s.rs id = -1) := idxR_none (fun j hj => by rw [h1] at hj; simp at hj)
    clear h hM
    go_enter Try.func45, Try.ntmps45
    go_wp2_with (go_at_call 54; refine (idxf_nil _ _).mono ?_; rintro e w' ⟨rfl, rfl⟩)
    go_ret
    exact ⟨by rw [HR.out]; rfl, (Touch.refl _ w).alloc _⟩
  | some b =>
    rw [hg] at hc0
    simp only [slV_some] at hc0
    have HI := toHid (idxf_any b s.rs.length s.cap w.heap.size id (fun j => (s.rs.getD j Reg.zero).p) (fun j => (s.rs.getD j Reg.zero).id) (w.alloc (.cells #[.int .i64 id] 3)) h.many (fun j hj => (hM _).ptrAt hg hj) (fun j hj => ((hM _).regs _ (getD_mem hj)).c0) (by simp))
    clear h hM
    go_enter Try.func45, Try.ntmps45
    go_wp2_with (go_at_call 54; refine HI.out.mono ?_; rintro e w' ⟨(⟨i, hi, rfl, h1, h2⟩ | ⟨rfl, h2⟩), k, rfl⟩)
    · go_ret
      exact ⟨by rw [idxR_some hi h1 h2]; rfl, ((Touch.refl _ w).alloc _).drewN k⟩
    · go_ret
      exact ⟨by rw [idxR_none h2]; rfl, ((Touch.refl _ w).alloc _).drewN k⟩
end Go.Proofs.Ytkfmhabplcikiaa.Mem
