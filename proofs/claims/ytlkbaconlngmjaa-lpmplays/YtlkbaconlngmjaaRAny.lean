/-
  The document's index of any kind: Find, Put, Del as one.
-/
import Derived.Test.YtlkbaconlngmjaaRDel3
import Derived.Test.YtlkbaconlngmjaaRNew
namespace Go.Proofs.Ytlkbaconlngmjaa
open Go.RowKit

/-- An index that stands. -/
structure PGood (q : PX) : Prop where
  k0 : 0 ≤ q.kind
  k3 : q.kind ≤ 3
  s1 : 1 ≤ q.size
  s2 : q.size ≤ 16
  s3 : q.kind = 3 → 5 ≤ q.size
  m1 : 1 ≤ q.slots.length
  m2 : q.slots.length ≤ 64
  whens : q.whens.length = q.slots.length
  clock : 0 ≤ q.clock
  lens : ∀ bs, some bs ∈ q.slots → (bs.length : Int) = q.size
theorem PGood.up {x : RX} (h : PGood x.p) (hc : x.clock ≤ 1000000000) : RUp x := by
  have h1 := h.whens
  have h2 := h.m2
  have h3 := h.clock
  simp only [RX.p, List.length_map] at h1 h2 h3
  exact ⟨h1, h2, h3, hc⟩
theorem PGood.keys {x : RX} (h : PGood x.p) : ∀ k, some k ∈ x.slots → (k.bs.length : Int) = x.size := fun k hk => h.lens k.bs (List.mem_map.2 ⟨_, hk, rfl⟩)
theorem PGood.many {x : RX} (h : PGood x.p) : 1 ≤ x.slots.length := by
  have := h.m1
  simpa [RX.p] using this
theorem PGood.touch {q : PX} (h : PGood q) (a : Option Nat) : PGood (q.touch a) := by
  refine ⟨h.k0, h.k3, h.s1, h.s2, h.s3, h.m1, h.m2, ?_, by have := h.clock; show 0 ≤ q.clock + 1; omega, h.lens⟩
  cases a with
  | none => exact h.whens
  | some i => show (q.whens.set i _).length = _; rw [List.length_set]; exact h.whens
theorem PGood.laid {q : PX} (h : PGood q) (i : Nat) {bs : List Int} (hb : (bs.length : Int) = q.size) : PGood (q.laid i bs) := by
  refine ⟨h.k0, h.k3, h.s1, h.s2, h.s3, ?_, ?_, ?_, by have := h.clock; show 0 ≤ q.clock + 1; omega, fun b hbm => ?_⟩
  · show 1 ≤ (q.slots.set i (some bs)).length
    rw [List.length_set]
    exact h.m1
  · show (q.slots.set i (some bs)).length ≤ 64
    rw [List.length_set]
    exact h.m2
  · show (q.whens.set i _).length = (q.slots.set i (some bs)).length
    rw [List.length_set, List.length_set]
    exact h.whens
  · rcases List.mem_or_eq_of_mem_set hbm with hx | hx
    · exact h.lens b hx
    · injection hx with hx
      rw [hx]
      exact hb
theorem PGood.drop {q : PX} (h : PGood q) (i : Nat) : PGood { q with slots := q.slots.set i none } := by
  refine ⟨h.k0, h.k3, h.s1, h.s2, h.s3, ?_, ?_, ?_, h.clock, fun b hbm => ?_⟩
  · show 1 ≤ (q.slots.set i none).length
    rw [List.length_set]
    exact h.m1
  · show (q.slots.set i none).length ≤ 64
    rw [List.length_set]
    exact h.m2
  · show q.whens.length = (q.slots.set i none).length
    rw [List.length_set]
    exact h.whens
  · rcases List.mem_or_eq_of_mem_set hbm with hx | hx
    · exact h.lens b hx
    · cases hx

/-- Find, Put, Del, of any kind. -/
def PX.findA (q : PX) (bs : List Int) : Option Nat × PX := if q.kind = 3 then q.find3 bs else q.find bs
def PX.putA (q : PX) (bs : List Int) (fl : Int) : (Int × Bool × Int) × PX := if q.kind = 3 then q.put3 bs fl else q.put bs fl
def PX.delA (q : PX) (bs : List Int) : (Int × Int) × PX := if q.kind = 3 then q.del3 bs else q.del bs
/-- What a call leaves, as far as it is no call's own. -/
structure PKept (q q' : PX) : Prop where
  kind : q'.kind = q.kind
  size : q'.size = q.size
  slots : q'.slots.length = q.slots.length
  clock0 : q.clock ≤ q'.clock
  clock1 : q'.clock ≤ q.clock + 1
theorem PKept.refl (q : PX) : PKept q q := ⟨rfl, rfl, rfl, Int.le_refl _, by omega⟩
theorem PKept.touch (q : PX) (a : Option Nat) : PKept q (q.touch a) := ⟨rfl, rfl, rfl, by show q.clock ≤ q.clock + 1; omega, by show q.clock + 1 ≤ q.clock + 1; omega⟩
theorem PKept.laid (q : PX) (i : Nat) (bs : List Int) : PKept q (q.laid i bs) := ⟨rfl, rfl, by show (q.slots.set i (some bs)).length = _; rw [List.length_set], by show q.clock ≤ q.clock + 1; omega, by show q.clock + 1 ≤ q.clock + 1; omega⟩
theorem PKept.drop (q : PX) (i : Nat) : PKept q { q with slots := q.slots.set i none } := ⟨rfl, rfl, by show (q.slots.set i none).length = _; rw [List.length_set], Int.le_refl _, by show q.clock ≤ q.clock + 1; omega⟩
theorem fits3_len {q : PX} {bs : List Int} (h : q.fits3 bs = true) : (bs.length : Int) = q.size := by
  unfold PX.fits3 at h
  simp at h
  exact h.1
theorem PGood.findA {q : PX} (h : PGood q) (bs : List Int) : PGood (q.findA bs).2 ∧ PKept q (q.findA bs).2 := by
  unfold PX.findA
  split
  · unfold PX.find3
    split
    · exact ⟨h.touch _, PKept.touch _ _⟩
    · exact ⟨h, PKept.refl _⟩
  · unfold PX.find
    split
    · exact ⟨h.touch _, PKept.touch _ _⟩
    · exact ⟨h, PKept.refl _⟩
theorem PGood.putA {q : PX} (h : PGood q) (bs : List Int) (fl : Int) : PGood (q.putA bs fl).2 ∧ PKept q (q.putA bs fl).2 := by
  have h0 : PGood q ∧ PKept q q := ⟨h, PKept.refl q⟩
  unfold PX.putA
  split
  · rename_i hk3
    unfold PX.put3
    split
    · rename_i hf
      have hb := fits3_len hf
      have hc : ((cutP bs).length : Int) = q.size := by
        have := h.s3 hk3
        rw [cutP_len (by omega)]
        exact hb
      split
      · exact h0
      · cases sameP q.slots (cutP bs) with
        | some i =>
          dsimp only
          split
          · exact h0
          · exact ⟨h.touch (some i), PKept.touch q (some i)⟩
        | none =>
          dsimp only
          split
          · exact h0
          · cases freeP q.slots with
            | some f => exact ⟨h.laid f hc, PKept.laid _ _ _⟩
            | none => exact h0
    · exact h0
  · unfold PX.put
    split
    · rename_i hb
      split
      · exact h0
      · cases sameP q.slots bs with
        | some i =>
          dsimp only
          split
          · exact h0
          · exact ⟨h.touch (some i), PKept.touch q (some i)⟩
        | none =>
          dsimp only
          split
          · exact h0
          · split
            · exact h0
            · cases q.room with
              | some f => exact ⟨h.laid f hb, PKept.laid _ _ _⟩
              | none => exact h0
    · exact h0
theorem PGood.delA {q : PX} (h : PGood q) (bs : List Int) : PGood (q.delA bs).2 ∧ PKept q (q.delA bs).2 := by
  have h0 : PGood q ∧ PKept q q := ⟨h, PKept.refl q⟩
  unfold PX.delA
  split
  · unfold PX.del3
    split
    · cases sameP q.slots (cutP bs) with
      | some i => exact ⟨h.drop i, PKept.drop _ _⟩
      | none => exact h0
    · exact h0
  · unfold PX.del
    split
    · exact h0
    · split
      · cases sameP q.slots bs with
        | some i => exact ⟨h.drop i, PKept.drop _ _⟩
        | none => exact h0
      · exact h0

theorem rfindA_any {w : World} {x : RX} (h : RAt w x) (g : PGood x.p) (hc : x.clock ≤ 1000000000) {sa : Option Addr} {sl : Nat} {bs : List Int} (hk : KeyAt w sa sl bs) (sc : Nat) (hsc : sl ≤ sc) :
    Calls Try.prog 21 #[.pointer (some ⟨x.r, 0, none⟩), .slice sa sl sc] w (FindPost w x (x.p.findA bs)) := by
  unfold PX.findA
  by_cases e : x.kind = 3
  · rw [if_pos (show x.p.kind = 3 from e)]
    exact rfind3_any h (g.up hc) e (g.s3 e) g.s2 g.keys hk sc hsc
  · rw [if_neg (show ¬ x.p.kind = 3 from e)]
    exact rfindP_any h (g.up hc) e hk sc
theorem rputA_any {w : World} {x : RX} (h : RAt w x) (g : PGood x.p) (hc : x.clock ≤ 1000000000) {sa : Option Addr} {sl : Nat} {bs : List Int} (hk : KeyAt w sa sl bs) (hout : ∀ b, b < w.heap.size → b ∈ x.blocks → ∀ off, sa ≠ some ⟨b, off, none⟩) (sc : Nat) (hsc : sl ≤ sc) (fl : Int) (f0 : 0 ≤ fl) :
    Calls Try.prog 22 #[.pointer (some ⟨x.r, 0, none⟩), .slice sa sl sc, .int .u64 fl] w (PutPost w x (x.p.putA bs fl)) := by
  unfold PX.putA
  by_cases e : x.kind = 3
  · rw [if_pos (show x.p.kind = 3 from e)]
    exact rput3_any h (g.up hc) e (g.s3 e) g.s2 g.many hk hout sc hsc fl f0
  · rw [if_neg (show ¬ x.p.kind = 3 from e)]
    exact rput_any h (g.up hc) e g.s1 g.s2 g.many hk sc fl f0
theorem rdelA_any {w : World} {x : RX} (h : RAt w x) (g : PGood x.p) (hc : x.clock ≤ 1000000000) {sa : Option Addr} {sl : Nat} {bs : List Int} (hk : KeyAt w sa sl bs) (sc : Nat) (hsc : sl ≤ sc) :
    Calls Try.prog 23 #[.pointer (some ⟨x.r, 0, none⟩), .slice sa sl sc] w (DelPost w x (x.p.delA bs)) := by
  unfold PX.delA
  by_cases e : x.kind = 3
  · rw [if_pos (show x.p.kind = 3 from e)]
    exact rdel3_any h (g.up hc) e (g.s3 e) g.s2 hk sc hsc
  · rw [if_neg (show ¬ x.p.kind = 3 from e)]
    exact rdel_any h (g.up hc) e hk sc

/-- Sizes that can be. -/
def newOk (kind size m : Int) : Prop := 1 ≤ m ∧ m ≤ 64 ∧ (if kind = 0 then 4 else if kind = 3 then 5 else 1) ≤ size ∧ size ≤ (if kind = 0 then 4 else 16)
/-- An index just made. -/
def PX.new (kind size : Int) (m : Nat) : PX := ⟨kind, size, m, 0, if kind = 0 then (allKeys m).map some else List.replicate m none, List.replicate m 0⟩
theorem allKeys_len (m : Nat) : (allKeys m).length = m := by simp [allKeys]
theorem PGood.new {kind size : Int} {m : Nat} (k0 : 0 ≤ kind) (k3 : kind ≤ 3) (h : newOk kind size m) : PGood (PX.new kind size m) := by
  unfold newOk at h
  obtain ⟨h1, h2, h3, h4⟩ := h
  have hl : (PX.new kind size m).slots.length = m := by
    unfold PX.new
    dsimp only
    split
    · rw [List.length_map, allKeys_len]
    · simp
  refine ⟨k0, k3, ?_, ?_, fun e => ?_, by omega, by omega, by rw [hl]; simp [PX.new], Int.le_refl _, fun bs hbs => ?_⟩
  · show 1 ≤ size
    split at h3
    · omega
    · split at h3 <;> omega
  · show size ≤ 16
    split at h4 <;> omega
  · show 5 ≤ size
    have e : kind = 3 := e
    rw [if_neg (by omega), if_pos e] at h3
    exact h3
  · show (bs.length : Int) = size
    unfold PX.new at hbs
    dsimp only at hbs
    split at hbs
    · rename_i e
      rw [if_pos e] at h3 h4
      obtain ⟨b, hb, he⟩ := List.mem_map.1 hbs
      injection he with he
      subst he
      obtain ⟨i, _, rfl⟩ := List.mem_map.1 hb
      rw [le4_len]
      omega
    · simp at hbs
def NewAPost (w : World) (kind size : Int) (m : Nat) (e : Ending) (w' : World) : Prop := ∃ x : RX, e = .returned (.tuple #[.pointer (some ⟨x.r, 0, none⟩), .bool true]) ∧ RAt w' x ∧ x.p = PX.new kind size m ∧ (∀ b ∈ x.blocks, w.heap.size ≤ b) ∧ Touch [] w w'
theorem rnewA_any (w : World) (kind size : Int) (m : Nat) (h : newOk kind size m) :
    Calls Try.prog 9 #[.int .i64 kind, .int .i64 size, .int .i64 (m : Int)] w (NewAPost w kind size m) := by
  unfold newOk at h
  obtain ⟨h1, h2, h3, h4⟩ := h
  by_cases e0 : kind = 0
  · subst e0
    rw [if_pos rfl] at h3 h4
    obtain rfl : size = 4 := by omega
    refine (rnew_any w m (by omega) (by omega)).mono ?_
    rintro e w' ⟨R, sb, wb, l, rfl, hN⟩
    refine ⟨_, rfl, hN.at_, ?_, hN.own, hN.touch⟩
    have he := hN.eq
    rw [Nat.sub_self]
    unfold RX.p RX.arr PX.new
    rw [if_pos rfl, ← he]
    simp
  · rw [if_neg e0] at h3 h4
    by_cases e3 : kind = 3
    · subst e3
      rw [if_pos rfl] at h3
      refine (rnew3_any w size m h3 h4 (by omega) (by omega)).mono ?_
      rintro e w' ⟨R, sb, wb, rfl, hN⟩
      refine ⟨_, rfl, hN.at_, ?_, hN.own, hN.touch⟩
      simp [RX.p, RX.fresh, PX.new]
    · rw [if_neg e3] at h3
      refine (rnewK_any w kind size m e0 e3 h3 h4 (by omega) (by omega)).mono ?_
      rintro e w' ⟨R, sb, wb, rfl, hN⟩
      refine ⟨_, rfl, hN.at_, ?_, hN.own, hN.touch⟩
      simp [RX.p, RX.fresh, PX.new, e0]
set_option maxHeartbeats 1000000 in
set_option maxRecDepth 100000 in
theorem rnew0_bad (w : World) (size m : Int) (h1 : ¬ (1 ≤ m ∧ m ≤ 64 ∧ size = 4)) : Calls Try.prog 9 #[.int .i64 0, .int .i64 size, .int .i64 m] w fun e w' => e = .returned (.tuple #[.pointer none, .bool false]) ∧ w' = w := by
  by_cases a1 : m < 1
  · clear h1
    go_enter Try.func9, Try.ntmps9
    go_wp2
    go_ret2
    exact ⟨rfl, rfl⟩
  · by_cases a2 : 64 < m
    · clear h1
      go_enter Try.func9, Try.ntmps9
      go_wp2
      go_ret2
      exact ⟨rfl, rfl⟩
    · by_cases a3 : size < 4
      · clear h1
        go_enter Try.func9, Try.ntmps9
        go_wp2
        go_ret2
        exact ⟨rfl, rfl⟩
      · have a4 : 4 < size := by omega
        clear h1
        go_enter Try.func9, Try.ntmps9
        go_wp2
        go_ret2
        exact ⟨rfl, rfl⟩
theorem rnewA_bad (w : World) (kind size m : Int) (h : ¬ newOk kind size m) : Calls Try.prog 9 #[.int .i64 kind, .int .i64 size, .int .i64 m] w fun e w' => e = .returned (.tuple #[.pointer none, .bool false]) ∧ w' = w := by
  unfold newOk at h
  by_cases e0 : kind = 0
  · subst e0
    rw [if_pos rfl, if_pos rfl] at h
    exact rnew0_bad w size m (by omega)
  · rw [if_neg e0, if_neg e0] at h
    by_cases e3 : kind = 3
    · subst e3
      rw [if_pos rfl] at h
      exact rnew3_bad w size m (by omega)
    · rw [if_neg e3] at h
      exact rnewK_bad w kind size m e0 e3 (by omega)
end Go.Proofs.Ytlkbaconlngmjaa
