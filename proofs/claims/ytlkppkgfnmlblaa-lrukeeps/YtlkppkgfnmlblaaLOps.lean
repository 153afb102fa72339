/-
  Package lru: Find, Put, Del; of a nil index.
-/
import Derived.Test.YtlkppkgfnmlblaaLOrd
namespace Go.Proofs.Ytlkppkgfnmlblaa
open Go.RowKit Go.Maps

/-- What a call leaves: the keys that are held, the order. -/
def LStep (w : World) (x : LX) (l : List (Option (List Int))) (ord : List Nat) (w' : World) : Prop := ∃ g cap, LAt w' { x with l := l, g := g, cap := cap, ord := ord } ∧ Touch x.own w w' ∧ ∀ b, g = some b → b ∈ x.own ∨ w.heap.size ≤ b
theorem LStep.same {w w' : World} {x : LX} (h : LAt w' x) (ht : Touch [] w w') : LStep w x x.l x.ord w' := ⟨x.g, x.cap, h, ht.nil, fun _b hb => Or.inl (LX.mem_g hb)⟩
theorem own_sub {x : LX} {y : Nat} (hy : y ∈ x.X :: x.g.toList) : y ∈ x.own := by
  simp only [List.mem_cons, LX.own] at *
  rcases hy with hy | hy
  · exact Or.inl hy
  · exact Or.inr (Or.inr hy)
/-- A touch behind a turning of the map. -/
theorem LStep.of_touch {w w1 w' : World} {x : LX} {l : List (Option (List Int))} {ord : List Nat} {e : Ending} (h : LTouchPost w1 { x with l := l } ord e w') (ht : Touch x.own w w1) : LStep w x l ord w' := by
  obtain ⟨_, g, cap, hA, ht2, hg⟩ := h
  refine ⟨g, cap, hA, ht.trans (ht2.mono (S' := x.own) (fun y hy => Or.inl (own_sub hy))) (fun y hy => Or.inl hy), fun b hb => ?_⟩
  rcases hg b hb with h1 | h1
  · exact Or.inl (own_sub (List.mem_cons_of_mem _ h1))
  · exact Or.inr (Nat.le_trans ht.size h1)

/-- Find. -/
def LX.find (x : LX) (bs : List Int) : Option Nat × List Nat :=
  if bs.length = x.size then match sameP x.l bs with
    | some i => (some i, touchL x.ord i)
    | none => (none, x.ord)
  else (none, x.ord)
def LFindPost (w : World) (x : LX) (a : Option Nat × List Nat) (e : Ending) (w' : World) : Prop := e = .returned (foundV a.1) ∧ LStep w x x.l a.2 w'
set_option maxHeartbeats 2000000 in
set_option maxRecDepth 100000 in
theorem lfind_any {w : World} {x : LX} (h : LAt w x) (ho : OrdOk x.l x.ord) {sa : Option Addr} {sl : Nat} {bs : List Int} (hk : KeyAt w sa sl bs) (sc : Nat) :
    Calls Try.prog 14 #[.pointer (some ⟨x.X, 0, none⟩), .slice sa sl sc] w (LFindPost w x (x.find bs)) := by
  have hl := hk.1
  have hb := hk.2.2.1
  have c0 := h.c0
  unfold LX.find
  by_cases h4 : bs.length = x.size
  · have hd := (Touch.refl [] w).drew
    have hA := h.still hd
    have d2 := hA.c2
    have hcv := (hk.touch hd).conv sc
    have hlk := hA.map.look hk.2.1 h4
    rw [if_pos h4]
    obtain rfl : sl = x.size := by omega
    cases hsm : sameP x.l bs with
    | none =>
      have HF : Hid (LFindPost w x (none, x.ord) (.returned (.tuple #[.int .i64 0, .bool false])) w.drew) := ⟨rfl, LStep.same hA hd⟩
      rw [hsm] at hlk
      unfold foundV idx0 Option.isSome at hlk
      generalize strOfNums bs = A at *
      clear h hk hl hb h4 hsm hA hd ho
      go_enter Try.func14, Try.ntmps14
      go_wp2_with fail
      go_region
      go_wp2
      go_ret2
      exact HF.out
    | some i =>
      have hok := ho.touched (i := i) ⟨bs, same_get hsm⟩
      have H1 := toHid (ltouch_any hA i (Nat.le_trans hok.len h.map.many))
      have HT := toHid hd
      rw [hsm] at hlk
      unfold foundV idx0 Option.isSome at hlk
      generalize strOfNums bs = A at *
      clear h hk hl hb h4 hsm hA hd ho hok
      go_enter Try.func14, Try.ntmps14
      go_wp2_with fail
      go_region
      go_wp2_with fail
      refine Calls.mono H1.out ?_
      intro e w3 hp
      have HF : Hid (LFindPost w x (some i, touchL x.ord i) (.returned (.tuple #[.int .i64 i, .bool true])) w3) := ⟨rfl, LStep.of_touch (x := x) (l := x.l) hp HT.out.nil⟩
      have he := hp.1
      subst he
      clear hp H1
      go_wp2
      go_ret2
      exact HF.out
  · have hs : ((sl : Int) != x.size) = true := by simp; omega
    have HF : Hid (LFindPost w x (none, x.ord) (.returned (.tuple #[.int .i64 0, .bool false])) w) := ⟨rfl, LStep.same h (Touch.refl _ _)⟩
    rw [if_neg h4]
    clear h hk hl h4
    go_enter Try.func14, Try.ntmps14
    go_wp2
    go_ret2
    exact HF.out

/-- Put. -/
def LX.put (x : LX) (bs : List Int) (fl : Int) : (Int × Bool × Int) × List (Option (List Int)) × List Nat :=
  if bs.length = x.size then
    if 2 < fl then ((0, false, 72), x.l, x.ord)
    else match sameP x.l bs with
      | some i => if fl = 1 then ((0, false, 70), x.l, x.ord) else (((i : Int), false, 0), x.l, touchL x.ord i)
      | none => if fl = 2 then ((0, false, 14), x.l, x.ord) else (((roomN x.l x.ord : Int), true, 0), x.l.set (roomN x.l x.ord) (some bs), touchL x.ord (roomN x.l x.ord))
  else ((0, false, 2), x.l, x.ord)
def LPutPost (w : World) (x : LX) (a : (Int × Bool × Int) × List (Option (List Int)) × List Nat) (e : Ending) (w' : World) : Prop :=
  e = .returned (.tuple #[.int .i64 a.1.1, .bool a.1.2.1, .int .i64 a.1.2.2]) ∧ LStep w x a.2.1 a.2.2 w'
set_option maxHeartbeats 4000000 in
set_option maxRecDepth 100000 in
theorem lput_any {w : World} {x : LX} (h : LAt w x) (ho : OrdOk x.l x.ord) {sa : Option Addr} {sl : Nat} {bs : List Int} (hkk : ∀ w', Touch x.own w w' → KeyAt w' sa sl bs) (sc : Nat) (fl : Int) (_f0 : 0 ≤ fl) :
    Calls Try.prog 15 #[.pointer (some ⟨x.X, 0, none⟩), .slice sa sl sc, .int .u64 fl] w (LPutPost w x (x.put bs fl)) := by
  have HKK := toHid hkk
  have hk := hkk w (Touch.refl _ _)
  clear hkk
  have hl := hk.1
  have hb := hk.2.2.1
  have c0 := h.c0
  unfold LX.put
  by_cases h4 : bs.length = x.size
  · rw [if_pos h4]
    obtain rfl : sl = x.size := by omega
    by_cases hf : 2 < fl
    · rw [if_pos hf]
      have HF : Hid (LPutPost w x ((0, false, 72), x.l, x.ord) (.returned (.tuple #[.int .i64 0, .bool false, .int .i64 72])) w) := ⟨rfl, LStep.same h (Touch.refl _ _)⟩
      clear h hk hl hb h4 ho
      go_enter Try.func15, Try.ntmps15
      go_wp2
      go_ret3
      exact HF.out
    · rw [if_neg hf]
      have hd := (Touch.refl [] w).drew
      have hA := h.still hd
      have d2 := hA.c2
      have hcv := (hk.touch hd).conv sc
      have hlk := hA.map.look hk.2.1 h4
      cases hsm : sameP x.l bs with
      | none =>
        rw [hsm] at hlk
        unfold foundV idx0 Option.isSome at hlk
        by_cases h2 : fl = 2
        · subst h2
          rw [if_pos rfl]
          have HF : Hid (LPutPost w x ((0, false, 14), x.l, x.ord) (.returned (.tuple #[.int .i64 0, .bool false, .int .i64 14])) w.drew) := ⟨rfl, LStep.same hA hd⟩
          generalize strOfNums bs = A at *
          clear h hk hl hb h4 hsm hA hd ho
          go_enter Try.func15, Try.ntmps15
          go_wp2_with fail
          go_region
          go_wp2
          go_ret3
          exact HF.out
        · rw [if_neg h2]
          have h2' : (fl == 2) = false := by simpa using h2
          have H1 := toHid (room_any hA (fun hfr => ho.old h.m1 hfr))
          have hok := ho.laid (roomN_lt ho h.m1) bs
          have HH := toHid (And.intro h (And.intro ho (And.intro hk (And.intro hsm (And.intro h4 (And.intro hd hok))))))
          clear h hk hl hb h4 hsm hA ho hok
          generalize hSS : strOfNums bs = A at *
          have HSS := toHid hSS
          clear hSS hd
          go_enter Try.func15, Try.ntmps15
          go_wp2_with fail
          go_region
          go_wp2_with fail
          refine Calls.mono H1.out ?_
          rintro e w3 ⟨rfl, hA3, ht3⟩
          obtain ⟨h, ho, hk, hsm, h4, hd, hok⟩ := HH.out
          have htw : Touch x.own w w3 := hd.nil.trans ht3 (fun y hy => Or.inl hy)
          have hd3 := (Touch.refl [] w3).drew
          have hA4 := hA3.still hd3
          have e2 := hA4.c2
          have hcv3 := (HKK.out _ (htw.trans hd3 (by simp))).conv sc
          rw [HSS.out] at hcv3
          obtain ⟨w4, hst, hM4, ht4⟩ := hA4.map.store hk.2.1 h4 (roomL_get ho h.m1) (roomL_same hsm)
          rw [HSS.out] at hst
          have hA5 := hA4.mapped _ (by simp) hM4 ht4
          have hlw : ({ { x with l := roomL x.l x.ord } with l := (roomL x.l x.ord).set (roomN x.l x.ord) (some bs) } : LX) = { x with l := x.l.set (roomN x.l x.ord) (some bs) } := by rw [← roomL_set]
          have hA6 : LAt w4 { x with l := x.l.set (roomN x.l x.ord) (some bs) } := by
            rw [← hlw]
            exact hA5
          have htw4 : Touch x.own w w4 := (htw.trans hd3 (by simp)).trans (ht4.mono (S' := x.own) (fun y hy => Or.inl (by simp at hy; rw [hy]; exact x.mem_b))) (fun y hy => Or.inl hy)
          have H5 := toHid (ltouch_any hA6 (roomN x.l x.ord) (Nat.le_trans hok.len hA6.map.many))
          have HT4 := toHid htw4
          generalize hrn : roomN x.l x.ord = r at *
          have HRN := toHid hrn
          clear h ho hk hsm h4 hd hok htw hd3 hA4 hM4 ht4 hA5 hlw hA6 htw4 hA3 ht3 H1 hrn d2 hcv hlk
          simp only at e2
          go_wp2_with fail
          go_region
          go_wp2_with fail
          refine Calls.mono H5.out ?_
          intro e w5 hp
          have HF : Hid (LPutPost w x ((((r : Nat) : Int), true, 0), x.l.set r (some bs), touchL x.ord r) (.returned (.tuple #[.int .i64 r, .bool true, .int .i64 0])) w5) := ⟨rfl, LStep.of_touch (x := x) (l := x.l.set r (some bs)) hp HT4.out⟩
          have he := hp.1
          subst he
          clear hp H5
          go_wp2
          go_ret3
          exact HF.out
      | some i =>
        dsimp only
        rw [hsm] at hlk
        unfold foundV idx0 Option.isSome at hlk
        by_cases h1 : fl = 1
        · subst h1
          rw [if_pos rfl]
          have HF : Hid (LPutPost w x ((0, false, 70), x.l, x.ord) (.returned (.tuple #[.int .i64 0, .bool false, .int .i64 70])) w.drew) := ⟨rfl, LStep.same hA hd⟩
          generalize strOfNums bs = A at *
          clear h hk hl hb h4 hsm hA hd ho
          go_enter Try.func15, Try.ntmps15
          go_wp2_with fail
          go_region
          go_wp2
          go_ret3
          exact HF.out
        · rw [if_neg h1]
          have h1' : (fl == 1) = false := by simpa using h1
          have hok := ho.touched (i := i) ⟨bs, same_get hsm⟩
          have H1 := toHid (ltouch_any hA i (Nat.le_trans hok.len h.map.many))
          have HT := toHid hd
          generalize strOfNums bs = A at *
          clear h hk hl hb h4 hsm hA hd ho hok
          go_enter Try.func15, Try.ntmps15
          go_wp2_with fail
          go_region
          go_wp2_with fail
          refine Calls.mono H1.out ?_
          intro e w3 hp
          have HF : Hid (LPutPost w x (((i : Int), false, 0), x.l, touchL x.ord i) (.returned (.tuple #[.int .i64 i, .bool false, .int .i64 0])) w3) := ⟨rfl, LStep.of_touch (x := x) (l := x.l) hp HT.out.nil⟩
          have he := hp.1
          subst he
          clear hp H1
          go_wp2
          go_ret3
          exact HF.out
  · have hs : ((sl : Int) != x.size) = true := by simp; omega
    rw [if_neg h4]
    have HF : Hid (LPutPost w x ((0, false, 2), x.l, x.ord) (.returned (.tuple #[.int .i64 0, .bool false, .int .i64 2])) w) := ⟨rfl, LStep.same h (Touch.refl _ _)⟩
    clear h hk hl h4 ho
    go_enter Try.func15, Try.ntmps15
    go_wp2
    go_ret3
    exact HF.out
end Go.Proofs.Ytlkppkgfnmlblaa
