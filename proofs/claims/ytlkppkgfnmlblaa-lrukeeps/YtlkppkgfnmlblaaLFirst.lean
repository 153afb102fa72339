/-
  first.
-/
import Derived.Test.YtlkppkgfnmlblaaLKeys
namespace Go.Proofs.Ytlkppkgfnmlblaa
open Go.RowKit Go.Maps

theorem OrdOk.find {x : LX} (h : OrdOk x.l x.ord) (bs : List Int) : OrdOk x.l (x.find bs).2 := by
  unfold LX.find
  split
  · cases hsm : sameP x.l bs with
    | none => exact h
    | some i => exact h.touched ⟨bs, same_get hsm⟩
  · exact h
theorem OrdOk.put {x : LX} (h : OrdOk x.l x.ord) (h1 : 1 ≤ x.l.length) (bs : List Int) (fl : Int) : OrdOk (x.put bs fl).2.1 (x.put bs fl).2.2 := by
  unfold LX.put
  split
  · split
    · exact h
    · cases hsm : sameP x.l bs with
      | none =>
        dsimp only
        split
        · exact h
        · exact h.laid (roomN_lt h h1) bs
      | some i =>
        dsimp only
        split
        · exact h
        · exact h.touched ⟨bs, same_get hsm⟩
  · exact h
theorem OrdOk.del {x : LX} (h : OrdOk x.l x.ord) (bs : List Int) : OrdOk (x.del bs).2.1 (x.del bs).2.2 := by
  unfold LX.del
  split
  · cases hsm : sameP x.l bs with
    | none => exact h
    | some i => exact h.dropped (sameP_lt hsm)
  · exact h
/-- One byte just laid, whatever becomes of the index. -/
theorem key_new1 {w : World} {S : List Nat} (hS : ∀ y ∈ S, y < w.heap.size) (a : Int) (h : 0 ≤ a ∧ a ≤ 255) : ∀ w', Touch S (w.alloc (.cells #[.int .u8 a] 5)) w' → KeyAt w' (some ⟨w.heap.size, 0, none⟩) 1 [a] := fun w' ht => by
  have hB := Blk.newA w #[.int .u8 a] _ 5 rfl
  have hB' := ht.blk hB (fun hx => by have := hS _ hx; omega)
  refine ⟨rfl, by simpa using h, by simp, fun _ => ⟨_, 0, rfl, fun j hj => ?_⟩⟩
  simp at hj
  subst hj
  exact hB'.cell rfl

/-- An index in blocks that came behind w0. -/
structure LOwn (w0 w : World) (x : LX) : Prop where
  idx : LAt w x
  ok : OrdOk x.l x.ord
  own : ∀ y ∈ x.own, w0.heap.size ≤ y
  touch : Touch [] w0 w
theorem LOwn.still {w0 w w' : World} {x : LX} (h : LOwn w0 w x) (ht : Touch [] w w') : LOwn w0 w' x := ⟨h.idx.still ht, h.ok, h.own, h.touch.trans ht (by simp)⟩
theorem LOwn.step {w0 w w' : World} {x : LX} {l : List (Option (List Int))} {ord : List Nat} (h : LOwn w0 w x) (hs : LStep w x l ord w') (ho : OrdOk l ord) : ∃ g cap, LOwn w0 w' { x with l := l, g := g, cap := cap, ord := ord } := by
  obtain ⟨g, cap, hA, ht, hg⟩ := hs
  refine ⟨g, cap, hA, ho, fun y hy => ?_, h.touch.trans ht (fun y hy => Or.inr (h.own y hy))⟩
  have hw0 := h.touch.size
  simp only [LX.own, List.mem_cons, Option.mem_toList] at hy
  rcases hy with rfl | rfl | hy
  · exact h.own _ x.mem_X
  · exact h.own _ x.mem_b
  · rcases hg y hy with h1 | h1
    · exact h.own y h1
    · omega
theorem LOwn.find {w0 w : World} {x : LX} (h : LOwn w0 w x) {sa : Option Addr} {sl : Nat} {bs : List Int} (hk : KeyAt w sa sl bs) (sc : Nat) :
    Calls Try.prog 14 #[.pointer (some ⟨x.X, 0, none⟩), .slice sa sl sc] w fun e w' => e = .returned (foundV (x.find bs).1) ∧ Touch x.own w w' ∧ ∃ g cap, LOwn w0 w' { x with g := g, cap := cap, ord := (x.find bs).2 } :=
  (lfind_any h.idx h.ok hk sc).mono fun _ _ ⟨he, hs⟩ => ⟨he, hs.choose_spec.choose_spec.2.1, h.step hs (h.ok.find bs)⟩
theorem LOwn.put {w0 w : World} {x : LX} (h : LOwn w0 w x) {sa : Option Addr} {sl : Nat} {bs : List Int} (hk : ∀ w', Touch x.own w w' → KeyAt w' sa sl bs) (sc : Nat) (fl : Int) (f0 : 0 ≤ fl) :
    Calls Try.prog 15 #[.pointer (some ⟨x.X, 0, none⟩), .slice sa sl sc, .int .u64 fl] w fun e w' => e = .returned (.tuple #[.int .i64 (x.put bs fl).1.1, .bool (x.put bs fl).1.2.1, .int .i64 (x.put bs fl).1.2.2]) ∧ Touch x.own w w' ∧ ∃ g cap, LOwn w0 w' { x with l := (x.put bs fl).2.1, g := g, cap := cap, ord := (x.put bs fl).2.2 } :=
  (lput_any h.idx h.ok hk sc fl f0).mono fun _ _ ⟨he, hs⟩ => ⟨he, hs.choose_spec.choose_spec.2.1, h.step hs (h.ok.put h.idx.m1 bs fl)⟩
theorem LOwn.del {w0 w : World} {x : LX} (h : LOwn w0 w x) {sa : Option Addr} {sl : Nat} {bs : List Int} (hk : KeyAt w sa sl bs) (sc : Nat) :
    Calls Try.prog 16 #[.pointer (some ⟨x.X, 0, none⟩), .slice sa sl sc] w fun e w' => e = .returned (.tuple #[.int .i64 (x.del bs).1.1, .int .i64 (x.del bs).1.2]) ∧ Touch x.own w w' ∧ ∃ g cap, LOwn w0 w' { x with l := (x.del bs).2.1, g := g, cap := cap, ord := (x.del bs).2.2 } :=
  (ldel_any h.idx hk sc).mono fun _ _ ⟨he, hs⟩ => ⟨he, hs.choose_spec.choose_spec.2.1, h.step hs (h.ok.del bs)⟩
theorem LOwn.new (w0 w : World) (h : Touch [] w0 w) (size m : Nat) (s1 : 1 ≤ size) (s2 : size ≤ 16) (h1 : 1 ≤ m) (h2 : m ≤ 64) :
    Calls Try.prog 8 #[.int .i64 (size : Int), .int .i64 (m : Int)] w fun e w' => ∃ X b, e = .returned (.tuple #[.pointer (some ⟨X, 0, none⟩), .int .i64 0]) ∧ LOwn w0 w' ⟨X, b, size, List.replicate m none, none, 0, []⟩ ∧ Touch [] w w' :=
  (lnew_any w size m s1 s2 h1 h2).mono fun _ _ ⟨X, b, he, hA, hX, hb, ht⟩ => ⟨X, b, he, ⟨hA, OrdOk.start m, fun y hy => by
    have := h.size
    simp [LX.own] at hy
    omega, h.trans ht (by simp)⟩, ht⟩

set_option maxHeartbeats 2000000 in
set_option maxRecDepth 100000 in
theorem first_any (w : World) : Calls Try.prog 7 #[] w fun e w' => e = .returned (.bool true) ∧ Touch [] w w' := by
  go_enter Try.func7, Try.ntmps7
  go_wp2_with fail
  refine Calls.mono (LOwn.new w w (Touch.refl _ _) 1 2 (by omega) (by omega) (by omega) (by omega)) ?_
  rintro e w2 ⟨X, b, rfl, hA, _⟩
  replace hA : LOwn w w2 ⟨X, b, 1, [none, none], none, 0, []⟩ := hA
  have H1 := toHid ((hA.still ((Touch.refl [] w2).alloc (.cells #[.int .u8 1] 5))).put (key_new1 hA.idx.lt 1 (by decide)) 1 0 (by omega))
  rw [show (⟨X, b, 1, [none, none], none, 0, []⟩ : LX).put [1] 0 = ((0, true, 0), [some [1], none], [0]) from rfl] at H1
  clear hA
  go_wp2_with fail
  refine Calls.mono H1.out ?_
  rintro e w3 ⟨rfl, _, g3, cap3, hA⟩
  have H1 := toHid ((hA.still ((Touch.refl [] w3).alloc (.cells #[.int .u8 2] 5))).put (key_new1 hA.idx.lt 2 (by decide)) 1 0 (by omega))
  simp only at H1
  rw [show (⟨X, b, 1, [some [1], none], g3, cap3, [0]⟩ : LX).put [2] 0 = ((1, true, 0), [some [1], some [2]], [0, 1]) from rfl] at H1
  clear hA
  go_wp2_with fail
  refine Calls.mono H1.out ?_
  rintro e w4 ⟨rfl, _, g4, cap4, hA⟩
  have H1 := toHid ((hA.still ((Touch.refl [] w4).alloc (.cells #[.int .u8 1] 5))).find (key_new1 hA.idx.lt 1 (by decide) _ (Touch.refl _ _)) 1)
  simp only at H1
  rw [show (⟨X, b, 1, [some [1], some [2]], g4, cap4, [0, 1]⟩ : LX).find [1] = (some 0, [1, 0]) from rfl] at H1
  unfold foundV idx0 Option.isSome at H1
  clear hA
  go_wp2_with fail
  refine Calls.mono H1.out ?_
  rintro e w5 ⟨rfl, _, g5, cap5, hA⟩
  have H1 := toHid ((hA.still ((Touch.refl [] w5).alloc (.cells #[.int .u8 3] 5))).put (key_new1 hA.idx.lt 3 (by decide)) 1 0 (by omega))
  simp only at H1
  rw [show (⟨X, b, 1, [some [1], some [2]], g5, cap5, [1, 0]⟩ : LX).put [3] 0 = ((1, true, 0), [some [1], some [3]], [0, 1]) from rfl] at H1
  clear hA
  go_wp2_with fail
  refine Calls.mono H1.out ?_
  rintro e w6 ⟨rfl, _, g6, cap6, hA⟩
  have H1 := toHid ((hA.still ((Touch.refl [] w6).alloc (.cells #[.int .u8 2] 5))).find (key_new1 hA.idx.lt 2 (by decide) _ (Touch.refl _ _)) 1)
  simp only at H1
  rw [show (⟨X, b, 1, [some [1], some [3]], g6, cap6, [0, 1]⟩ : LX).find [2] = (none, [0, 1]) from rfl] at H1
  unfold foundV idx0 Option.isSome at H1
  clear hA
  go_wp2_with fail
  refine Calls.mono H1.out ?_
  rintro e w7 ⟨rfl, _, g7, cap7, hA⟩
  have HF := toHid hA.touch
  clear hA H1
  go_wp2
  go_ret
  exact ⟨rfl, HF.out⟩
end Go.Proofs.Ytlkppkgfnmlblaa
