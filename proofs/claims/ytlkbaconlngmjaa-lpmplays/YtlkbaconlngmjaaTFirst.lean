/-
  first; an index of a call's own.
-/
import Derived.Test.YtlkbaconlngmjaaTOps2
import Derived.Test.YtlkbaconlngmjaaTKeys
namespace Go.Proofs.Ytlkbaconlngmjaa
open Go.RowKit Go.Deep

/-- What Put, Del and Find say, by the slots alone. -/
def putL (n : Nat) (l : List (Option (List Int))) (bs : List Int) (fl : Int) : (Int × Bool × Int) × List (Option (List Int)) :=
  if fitsK bs n = true then
    if 2 < fl then ((0, false, 72), l)
    else match sameP l (keyP (pathP bs) n) with
      | some i => if fl = 1 then ((0, false, 70), l) else (((i : Int), false, 0), l)
      | none => if fl = 2 then ((0, false, 14), l) else match freeP l with
        | some f => (((f : Int), true, 0), l.set f (some (keyP (pathP bs) n)))
        | none => ((0, false, 71), l)
  else ((0, false, 2), l)
def delL (n : Nat) (l : List (Option (List Int))) (bs : List Int) : (Int × Int) × List (Option (List Int)) :=
  if fitsK bs n = true then match sameP l (keyP (pathP bs) n) with
    | some i => (((i : Int), 0), l.set i none)
    | none => ((0, 14), l)
  else ((0, 2), l)
def findL (n : Nat) (l : List (Option (List Int))) (bs : List Int) : Option Nat := if fitsK bs n = true then longTo l bs l.length else none
theorem put_L (x : TX) (bs : List Int) (fl : Int) : x.put bs fl = putL x.n x.l bs fl := rfl
theorem del_L (x : TX) (bs : List Int) : x.del bs = delL x.n x.l bs := rfl
theorem find_L (x : TX) (bs : List Int) : x.find bs = findL x.n x.l bs := rfl

/-- An index in blocks that came behind w0, none of them among A. -/
structure TOwn (w0 w : World) (X n m : Nat) (l : List (Option (List Int))) (A : List Nat) : Prop where
  idx : ∃ T : Tr, IAt w ⟨X, n, m, T, l⟩ ∧ ∀ y ∈ (⟨X, n, m, T, l⟩ : TX).own, w0.heap.size ≤ y ∧ y ∉ A
  lt : ∀ y ∈ A, y < w.heap.size
  touch : Touch [] w0 w
theorem TOwn.still {w0 w w' : World} {X n m : Nat} {l : List (Option (List Int))} {A : List Nat} (h : TOwn w0 w X n m l A) (ht : Touch [] w w') : TOwn w0 w' X n m l A := by
  obtain ⟨⟨T, h1, h2⟩, h4, h3⟩ := h
  have := ht.size
  exact ⟨⟨T, h1.still ht, h2⟩, fun y hy => by have := h4 y hy; omega, h3.trans ht (by simp)⟩
/-- A block more that the index has not. -/
theorem TOwn.more {w0 w w' : World} {X n m : Nat} {l : List (Option (List Int))} {A : List Nat} (h : TOwn w0 w X n m l A) (ht : Touch [] w w') {b : Nat} (h1 : w.heap.size ≤ b) (h2 : b < w'.heap.size) : TOwn w0 w' X n m l (b :: A) := by
  have hs := h.still ht
  obtain ⟨⟨T, q1, q2⟩, _, _⟩ := h
  refine ⟨⟨T, q1.still ht, fun y hy => ⟨(q2 y hy).1, ?_⟩⟩, fun y hy => ?_, hs.touch⟩
  · have := q1.lt y hy
    have h9 := (q2 y hy).2
    simp only [List.mem_cons, not_or]
    exact ⟨by omega, h9⟩
  · simp only [List.mem_cons] at hy
    rcases hy with rfl | hy
    · exact h2
    · exact hs.lt y hy
theorem TOwn.step {w0 w w' : World} {X n m : Nat} {T : Tr} {l l' : List (Option (List Int))} {A : List Nat} (h2 : ∀ y ∈ (⟨X, n, m, T, l⟩ : TX).own, w0.heap.size ≤ y ∧ y ∉ A) (h4 : ∀ y ∈ A, y < w.heap.size) (h3 : Touch [] w0 w) (hs : IStep w ⟨X, n, m, T, l⟩ l' w') : TOwn w0 w' X n m l' A := by
  obtain ⟨T', hA, ht, hb⟩ := hs
  have := h3.size
  have := ht.size
  refine ⟨⟨T', hA, fun y hy => ?_⟩, fun y hy => by have := h4 y hy; omega, h3.trans ht (fun y hy => Or.inr (h2 y hy).1)⟩
  simp only [TX.own, List.mem_cons] at hy
  rcases hy with rfl | hy
  · exact h2 _ (by simp [TX.own])
  · rcases hb y hy with h | h
    · exact h2 y h
    · exact ⟨by omega, fun hx => by have := h4 y hx; omega⟩
theorem TOwn.find {w0 w : World} {X n m : Nat} {l : List (Option (List Int))} {A : List Nat} (h : TOwn w0 w X n m l A) {sa : Option Addr} {sl : Nat} {bs : List Int} (hk : KeyAt w sa sl bs) (sc : Nat) (hsc : sl ≤ sc) :
    Calls Try.prog 14 #[.pointer (some ⟨X, 0, none⟩), .slice sa sl sc] w fun e w' => e = .returned (fV (findL n l bs)) ∧ Touch [] w w' := by
  obtain ⟨⟨T, h1, h2⟩, h3⟩ := h
  exact ifind_any h1 hk sc hsc
theorem TOwn.put {w0 w : World} {X n m : Nat} {l : List (Option (List Int))} {A : List Nat} (h : TOwn w0 w X n m l A) {sa : Option Addr} {sl : Nat} {bs : List Int} (hk : KeyAt w sa sl bs) (sc : Nat) (hsc : sl ≤ sc) (fl : Int) (f0 : 0 ≤ fl) :
    Calls Try.prog 15 #[.pointer (some ⟨X, 0, none⟩), .slice sa sl sc, .int .u64 fl] w fun e w' => e = .returned (AddV (putL n l bs fl).1) ∧ TOwn w0 w' X n m (putL n l bs fl).2 A ∧ ∃ S : List Nat, Touch S w w' ∧ ∀ y ∈ S, y ∉ A := by
  obtain ⟨⟨T, h1, h2⟩, h4, h3⟩ := h
  exact (iput_any h1 hk sc hsc fl f0).mono fun e w' ⟨he, hs⟩ => ⟨he, TOwn.step h2 h4 h3 hs, _, hs.choose_spec.2.1, fun y hy => (h2 y hy).2⟩
theorem TOwn.del {w0 w : World} {X n m : Nat} {l : List (Option (List Int))} {A : List Nat} (h : TOwn w0 w X n m l A) {sa : Option Addr} {sl : Nat} {bs : List Int} (hk : KeyAt w sa sl bs) (sc : Nat) (hsc : sl ≤ sc) :
    Calls Try.prog 16 #[.pointer (some ⟨X, 0, none⟩), .slice sa sl sc] w fun e w' => e = .returned (DelV (delL n l bs).1) ∧ TOwn w0 w' X n m (delL n l bs).2 A ∧ ∃ S : List Nat, Touch S w w' ∧ ∀ y ∈ S, y ∉ A := by
  obtain ⟨⟨T, h1, h2⟩, h4, h3⟩ := h
  exact (idel_any h1 hk sc hsc).mono fun e w' ⟨he, hs⟩ => ⟨he, TOwn.step h2 h4 h3 hs, _, hs.choose_spec.2.1, fun y hy => (h2 y hy).2⟩
theorem TOwn.keys {w0 w : World} {X n m : Nat} {l : List (Option (List Int))} {A : List Nat} (h : TOwn w0 w X n m l A) : Calls Try.prog 12 #[.pointer (some ⟨X, 0, none⟩)] w fun e w' => (∃ v, e = .returned v ∧ KL w w' v (keysP l)) ∧ Touch [] w w' := by
  obtain ⟨⟨T, h1, h2⟩, h4, h3⟩ := h
  exact ikeys_any h1
theorem TOwn.new (w0 w : World) (h : Touch [] w0 w) (n m : Nat) (s1 : 1 ≤ n) (s2 : n ≤ 12) (h1 : 1 ≤ m) (h2 : m ≤ 64) :
    Calls Try.prog 8 #[.int .i64 ((n : Int) + 4), .int .i64 (m : Int)] w fun e w' => ∃ X, e = .returned (.tuple #[.pointer (some ⟨X, 0, none⟩), .int .i64 0]) ∧ TOwn w0 w' X n m (List.replicate m none) [] ∧ Touch [] w w' :=
  (inew_any w n m s1 s2 h1 h2).mono fun _ _ ⟨X, he, hA, hX, ht⟩ => ⟨X, he, ⟨⟨.nil, hA, fun y hy => ⟨by
    have := h.size
    simp [TX.own, bsT] at hy
    omega, by simp⟩⟩, by simp, h.trans ht (by simp)⟩, ht⟩
/-- Five bytes just laid. -/
theorem key_new5 (w : World) (a b c d e : Int) (h : ∀ x ∈ [a, b, c, d, e], 0 ≤ x ∧ x ≤ 255) : KeyAt (w.alloc (.cells #[.int .u8 a, .int .u8 b, .int .u8 c, .int .u8 d, .int .u8 e] 5)) (some ⟨w.heap.size, 0, none⟩) 5 [a, b, c, d, e] := by
  have hB := Blk.newA w #[.int .u8 a, .int .u8 b, .int .u8 c, .int .u8 d, .int .u8 e] _ 5 rfl
  refine ⟨rfl, h, by simp, fun _ => ⟨_, 0, rfl, fun j hj => ?_⟩⟩
  simp at hj
  have : j = 0 ∨ j = 1 ∨ j = 2 ∨ j = 3 ∨ j = 4 := by omega
  rcases this with rfl | rfl | rfl | rfl | rfl <;> exact hB.cell rfl

set_option maxHeartbeats 2000000 in
set_option maxRecDepth 100000 in
theorem first_any (w : World) : Calls Try.prog 7 #[] w fun e w' => e = .returned (.bool true) ∧ Touch [] w w' := by
  have HN := toHid (TOwn.new w w (Touch.refl _ _) 1 4 (by omega) (by omega) (by omega) (by omega))
  rw [show ((1 : Nat) : Int) + 4 = 5 from rfl, show ((4 : Nat) : Int) = 4 from rfl] at HN
  go_enter Try.func7, Try.ntmps7
  go_wp2_with fail
  refine Calls.mono HN.out ?_
  rintro e w2 ⟨X, rfl, hA, _⟩
  replace hA : TOwn w w2 X 1 4 [none, none, none, none] [] := hA
  have H1 := toHid ((hA.still ((Touch.refl [] w2).alloc (.cells #[.int .u8 4, .int .u8 0, .int .u8 0, .int .u8 0, .int .u8 175] 5))).put (key_new5 w2 4 0 0 0 175 (by decide)) 5 (by omega) 0 (by omega))
  rw [show putL 1 [none, none, none, none] [4, 0, 0, 0, 175] 0 = ((0, true, 0), [some [4, 0, 0, 0, 160], none, none, none]) from rfl] at H1
  clear hA HN
  go_wp2_with fail
  refine Calls.mono H1.out ?_
  rintro e w3 ⟨rfl, hA, _⟩
  have H1 := toHid ((hA.still ((Touch.refl [] w3).alloc (.cells #[.int .u8 0, .int .u8 0, .int .u8 0, .int .u8 0, .int .u8 7] 5))).put (key_new5 w3 0 0 0 0 7 (by decide)) 5 (by omega) 0 (by omega))
  rw [show putL 1 [some [4, 0, 0, 0, 160], none, none, none] [0, 0, 0, 0, 7] 0 = ((1, true, 0), [some [4, 0, 0, 0, 160], some [0, 0, 0, 0, 0], none, none]) from rfl] at H1
  clear hA
  go_wp2_with fail
  refine Calls.mono H1.out ?_
  rintro e w4 ⟨rfl, hA, _⟩
  have H1 := toHid ((hA.still ((Touch.refl [] w4).alloc (.cells #[.int .u8 8, .int .u8 0, .int .u8 0, .int .u8 0, .int .u8 161] 5))).find (key_new5 w4 8 0 0 0 161 (by decide)) 5 (by omega))
  rw [show findL 1 [some [4, 0, 0, 0, 160], some [0, 0, 0, 0, 0], none, none] [8, 0, 0, 0, 161] = some 0 from rfl] at H1
  unfold fV Option.getD Option.isSome at H1
  have HA := toHid hA
  clear hA
  go_wp2_with fail
  refine Calls.mono H1.out ?_
  rintro e w5 ⟨rfl, ht5⟩
  have hA := (HA.out.still ((Touch.refl [] w4).alloc (.cells #[.int .u8 8, .int .u8 0, .int .u8 0, .int .u8 0, .int .u8 161] 5))).still ht5
  have H1 := toHid ((hA.still ((Touch.refl [] w5).alloc (.cells #[.int .u8 3, .int .u8 0, .int .u8 0, .int .u8 0, .int .u8 161] 5))).find (key_new5 w5 3 0 0 0 161 (by decide)) 5 (by omega))
  rw [show findL 1 [some [4, 0, 0, 0, 160], some [0, 0, 0, 0, 0], none, none] [3, 0, 0, 0, 161] = some 1 from rfl] at H1
  unfold fV Option.getD Option.isSome at H1
  have HT := toHid hA.touch
  clear hA ht5 HA
  go_wp2_with fail
  refine Calls.mono H1.out ?_
  rintro e w6 ⟨rfl, ht6⟩
  have HF : Hid (Touch [] w w6) := (HT.out.alloc _).trans ht6 (by simp)
  clear ht6 H1 HT
  go_wp2
  go_ret
  exact ⟨rfl, HF.out⟩
end Go.Proofs.Ytlkbaconlngmjaa
