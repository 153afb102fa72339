/-
  A memory with bytes laid into one of its regions; lay, look, Store, Load, Read, Write.
-/
import Derived.Test.YtkfmhabplcikiaaMLook
namespace Go.Proofs.Ytkfmhabplcikiaa.Mem
open Go.RowKit

/-- The region with that id turned. -/
def updR (rs : List Reg) (id : Int) (f : Reg → Reg) : List Reg := rs.map (fun x => if x.id = id then f x else x)

theorem layR_ok {r : Reg} {a : Nat} {bs : List Int} (h : RegOk r) (hl : a + bs.length ≤ r.bytes.length) (hb : ∀ x ∈ bs, 0 ≤ x ∧ x ≤ 255) : RegOk (layR r a bs) where
  base0 := h.base0
  size1 := by rw [layR_len hl]; exact h.size1
  size2 := by rw [layR_len hl]; exact h.size2
  fits := by rw [layR_len hl]; exact h.fits
  perm0 := h.perm0
  perm1 := h.perm1
  plain := h.plain
  setLen := fun s hs => by
    have hs' : r.sb = some s := hs
    have := h.setLen s hs'
    rw [layR_len hl, ← this]
    simp only [layR, hs', List.length_append, List.length_take, List.length_drop, List.length_replicate]
    omega
  setNil := fun hs => by
    have hs' : r.sb = none := hs
    simp only [layR, hs']
    exact h.setNil hs'
  byte := fun x hx => by
    simp only [layR, List.mem_append] at hx
    rcases hx with (hx | hx) | hx
    · exact h.byte x (List.mem_of_mem_take hx)
    · exact hb x hx
    · exact h.byte x (List.mem_of_mem_drop hx)
  own := h.own

theorem nodup_flat {l : List Reg} (h : (l.flatMap Reg.blocks).Nodup) {x y : Reg} (hx : x ∈ l) (hy : y ∈ l) (hne : x.id ≠ y.id) : ∀ b ∈ x.blocks, b ∉ y.blocks := by
  intro b hb hb'
  obtain ⟨i, hi, rfl⟩ := List.getElem_of_mem hx
  obtain ⟨j, hj, rfl⟩ := List.getElem_of_mem hy
  have hij : i ≠ j := fun e => hne (by subst e; rfl)
  have hp := (List.pairwise_flatMap.1 h).2
  rcases Nat.lt_or_gt_of_ne hij with hlt | hlt
  · exact (List.pairwise_iff_getElem.1 hp) i j hi hj hlt b hb b hb' rfl
  · exact (List.pairwise_iff_getElem.1 hp) j i hj hi hlt b hb' b hb rfl

theorem id_inj {l : List Reg} (h : l.Pairwise (fun a b => a.id ≠ b.id)) {x y : Reg} (hx : x ∈ l) (hy : y ∈ l) (he : x.id = y.id) : x = y := by
  obtain ⟨i, hi, rfl⟩ := List.getElem_of_mem hx
  obtain ⟨j, hj, rfl⟩ := List.getElem_of_mem hy
  rcases Nat.lt_trichotomy i j with hlt | rfl | hlt
  · exact absurd he ((List.pairwise_iff_getElem.1 h) i j hi hj hlt)
  · rfl
  · exact absurd he.symm ((List.pairwise_iff_getElem.1 h) j i hj hi hlt)

theorem MemAt.upd {w w' : World} {s : MS} (h : MemAt w s) {r : Reg} (hr : r ∈ s.rs) {a : Nat} {bs : List Int} (hl : a + bs.length ≤ r.bytes.length) (hb : ∀ x ∈ bs, 0 ≤ x ∧ x ≤ 255)
    (hr' : RegAt w' (layR r a bs)) (ht : Touch (r.bb :: r.sb.toList) w w') : MemAt w' { s with rs := updR s.rs r.id (layR · a bs) } ∧ ({ s with rs := updR s.rs r.id (layR · a bs) } : MS).blocks = s.blocks := by
  have hsub : ∀ b, b ∈ r.bb :: r.sb.toList → b ∈ r.blocks := fun b hb => by
    unfold Reg.blocks
    exact List.mem_cons_of_mem _ hb
  have hap := h.apart
  simp only [MS.blocks, List.cons_append, List.nodup_cons, List.mem_append, List.nodup_append] at hap
  have hin : ∀ b ∈ r.blocks, b ∈ s.rs.flatMap Reg.blocks := fun b hb => List.mem_flatMap.2 ⟨r, hr, hb⟩
  have hptr : (updR s.rs r.id (layR · a bs)).map Reg.ptr = s.rs.map Reg.ptr := by
    unfold updR
    rw [List.map_map]
    refine List.map_congr_left (fun x _ => ?_)
    simp only [Function.comp]
    split <;> rfl
  have hbl : (updR s.rs r.id (layR · a bs)).flatMap Reg.blocks = s.rs.flatMap Reg.blocks := by
    unfold updR
    rw [List.flatMap_map]
    congr 1
    funext x
    split <;> rfl
  have hlen : (updR s.rs r.id (layR · a bs)).length = s.rs.length := by simp [updR]
  have hmem : ∀ x ∈ updR s.rs r.id (layR · a bs), x = layR r a bs ∨ (x ∈ s.rs ∧ x.id ≠ r.id) := by
    intro x hx
    unfold updR at hx
    obtain ⟨y, hy, rfl⟩ := List.mem_map.1 hx
    split
    · rename_i he
      left
      rw [id_inj h.ids hy hr he]
    · rename_i he
      exact Or.inr ⟨hy, he⟩
  have hpw : ∀ (R : Reg → Reg → Prop), (∀ x y, R x y → R (if x.id = r.id then layR x a bs else x) (if y.id = r.id then layR y a bs else y)) → s.rs.Pairwise R → (updR s.rs r.id (layR · a bs)).Pairwise R := by
    intro R hR hp
    unfold updR
    rw [List.pairwise_map]
    exact hp.imp (fun {x y} hxy => hR x y hxy)
  refine ⟨⟨?_, ?_, ?_, ?_, ?_, ?_, ?_, ?_, ?_⟩, ?_⟩
  · show Blk w' s.m [slV s.g (updR s.rs r.id (layR · a bs)).length s.cap, .int .i64 s.next] 66
    rw [hlen]
    exact ht.blk h.self (fun hx => hap.1 (Or.inr (hin _ (hsub _ hx))))
  · show RowAt w' 70 1 s.g (updR s.rs r.id (layR · a bs)).length s.cap ((updR s.rs r.id (layR · a bs)).map Reg.ptr)
    rw [hlen, hptr]
    exact h.row.touch ht (fun b hb hx => hap.2.2.2 b (by simp [hb]) b (hin _ (hsub _ hx)) rfl)
  · intro x hx
    rcases hmem x hx with rfl | ⟨hx, hne⟩
    · exact hr'
    · exact (h.regs x hx).touch ht (fun b hb hh => nodup_flat hap.2.2.1 hx hr hne b hb (hsub _ hh))
  · intro x hx
    rcases hmem x hx with rfl | ⟨hx, _⟩
    · exact layR_ok (h.ok r hr) hl hb
    · exact h.ok x hx
  · show (s.m :: s.g.toList ++ (updR s.rs r.id (layR · a bs)).flatMap Reg.blocks).Nodup
    rw [hbl]
    exact h.apart
  · have hsl : ∀ x ∈ s.rs, (if x.id = r.id then layR x a bs else x).bytes.length = x.bytes.length ∧ (if x.id = r.id then layR x a bs else x).base = x.base := by
      intro x hx
      split
      · rename_i he
        rw [id_inj h.ids hx hr he]
        exact ⟨layR_len hl, rfl⟩
      · exact ⟨rfl, rfl⟩
    unfold updR
    rw [List.pairwise_map]
    refine List.Pairwise.imp_of_mem ?_ h.sorted
    intro x y hx hy hxy
    rw [(hsl x hx).1, (hsl x hx).2, (hsl y hy).2]
    exact hxy
  · refine hpw _ (fun x y hxy => ?_) h.ids
    split <;> split <;> exact hxy
  · intro x hx
    rcases hmem x hx with rfl | ⟨hx, _⟩
    · exact h.idlt r hr
    · exact h.idlt x hx
  · show (updR s.rs r.id (layR · a bs)).length ≤ 4096
    rw [hlen]
    exact h.many
  · show s.m :: s.g.toList ++ (updR s.rs r.id (layR · a bs)).flatMap Reg.blocks = _
    rw [hbl]
    rfl

/-- May n bytes at the address be reached in the region, by that permission? -/
def mayB (r : Reg) (addr n perm : Int) : Bool := decide (addr - r.base ≤ (r.bytes.length : Int) - n ∧ bits .and .i64 r.perm perm ≠ 0)
def layE (rs : List Reg) (addr n : Int) : Int := match findR rs addr with
  | none => 10
  | some r => if mayB r addr n 2 = true then 0 else 10
def layRs (rs : List Reg) (addr : Int) (bs : List Int) : List Reg := match findR rs addr with
  | none => rs
  | some r => if mayB r addr bs.length 2 = true then updR rs r.id (layR · (addr - r.base).toNat bs) else rs

/-- Behind bytes that were laid, or refused. -/
def LayPost (w : World) (s : MS) (addr : Int) (bs : List Int) (e : Ending) (w' : World) : Prop :=
  e = .returned (.int .i64 (layE s.rs addr bs.length)) ∧ Touch s.blocks w w' ∧ MemAt w' { s with rs := layRs s.rs addr bs } ∧ ({ s with rs := layRs s.rs addr bs } : MS).blocks = s.blocks

theorem accessV_mayB {r : Reg} {addr n perm : Int} : accessV (some r) addr n perm = if mayB r addr n perm = true then .tuple #[.pointer (some ⟨r.p, 0, none⟩), .int .i64 (addr - r.base), .int .i64 0] else .tuple #[.pointer none, .int .i64 0, .int .i64 10] := by
  unfold accessV mayB
  by_cases h : addr - r.base ≤ (r.bytes.length : Int) - n ∧ bits .and .i64 r.perm perm ≠ 0
  · simp [h]
  · simp [h]

set_option maxHeartbeats 1000000 in
set_option maxRecDepth 100000 in
theorem lay_any {w : World} {s : MS} (h : MemAt w s) (addr : Int) (k off n c : Nat) (bs : List Int) (ha0 : 0 ≤ addr) (ha1 : addr ≤ 18446744073709551615) (hn1 : 1 ≤ n) (hn2 : n ≤ 9223372036854775807) (hl : bs.length = n)
    (hb : BytesAt w k off bs) (hbb : ∀ x ∈ bs, 0 ≤ x ∧ x ≤ 255) :
    Calls Try.prog 38 #[.pointer (some ⟨s.m, 0, none⟩), .int .u64 addr, .slice (some ⟨k, off, none⟩) n c] w (LayPost w s addr bs) := by
  have hA := access_any h addr n 2 ha0 ha1 (by omega) (by omega)
  cases hf : findR s.rs addr with
  | none =>
    rw [hf] at hA
    have HF : ∀ k, Hid (LayPost w s addr bs (.returned (.int .i64 10)) (w.drewN k)) := fun k => by
      refine ⟨by simp only [layE, hf], (Touch.refl _ w).drewN k, ?_, ?_⟩
      · simp only [layRs, hf]
        exact h.touch ((Touch.refl [] w).drewN k) (by simp)
      · simp only [layRs, hf]
    have HA := toHid hA
    clear hA h hf hb
    go_enter Try.func38, Try.ntmps38
    go_wp2_with (go_at_call 49; refine HA.out.mono ?_; rintro e w' ⟨rfl, k2, rfl⟩; simp only [accessV])
    go_ret
    exact (HF _).out
  | some r =>
    rw [hf, accessV_mayB] at hA
    have hr := findR_mem hf
    cases hm : mayB r addr n 2 with
    | false =>
      rw [hm] at hA
      have HF : ∀ k, Hid (LayPost w s addr bs (.returned (.int .i64 10)) (w.drewN k)) := fun k => by
        refine ⟨by simp [layE, hf, hl, hm], (Touch.refl _ w).drewN k, ?_, ?_⟩
        · simp only [layRs, hf, hl, hm]
          exact h.touch ((Touch.refl [] w).drewN k) (by simp)
        · simp [layRs, hf, hl, hm]
      have HA := toHid hA
      clear hA h hf hb
      go_enter Try.func38, Try.ntmps38
      go_wp2_with (go_at_call 49; refine HA.out.mono ?_; rintro e w' ⟨rfl, k2, rfl⟩; simp only [Bool.false_eq_true, ↓reduceIte])
      go_ret
      exact (HF _).out
    | true =>
      rw [hm] at hA
      have hin := of_decide_eq_true hr.2
      have hreach := (of_decide_eq_true hm).1
      obtain ⟨a, ha⟩ : ∃ a : Nat, addr - r.base = a := ⟨(addr - r.base).toNat, by omega⟩
      rw [ha] at hA hreach
      have HF : ∀ w', RegAt w' (layR r a bs) → Touch (r.bb :: r.sb.toList) w w' → Hid (LayPost w s addr bs (.returned (.int .i64 0)) w') := fun w' h1 h2 => by
        have hu := h.upd hr.1 (a := a) (bs := bs) (by omega) hbb h1 h2
        refine ⟨by simp [layE, hf, hl, hm], h2.mono (fun x hx => Or.inl (s.mem_r hr.1 (by unfold Reg.blocks; exact List.mem_cons_of_mem _ hx))), ?_⟩
        have e : layRs s.rs addr bs = updR s.rs r.id (layR · a bs) := by
          have : a = (addr - r.base).toNat := by omega
          subst this
          simp [layRs, hf, hl, hm]
        rw [e]
        exact hu
      have HFH := toHid HF
      have HL : ∀ k2, Hid _ := fun k2 => toHid (rlay_any ((h.regs r hr.1).touch ((Touch.refl [] w).drewN k2) (by simp)) (h.ok r hr.1) a k off n c bs hn1 hl (by omega) (hb.touch ((Touch.refl [] w).drewN k2) (by simp)))
      have HA := toHid hA
      clear hA h hf hb HF hm
      go_enter Try.func38, Try.ntmps38
      go_wp2_with (go_at_call 49; refine HA.out.mono ?_; rintro e w' ⟨rfl, k2, rfl⟩; simp only [↓reduceIte])
      refine (HL _).out.mono ?_
      rintro e w' ⟨rfl, h1, h2⟩
      have H3 := HFH.out w' h1 ((((Touch.refl [] w).drewN k2).nil).trans h2 (fun x hx => Or.inl hx))
      clear h1 h2 HFH HL
      go_wp2
      go_ret
      exact H3.out
end Go.Proofs.Ytkfmhabplcikiaa.Mem
