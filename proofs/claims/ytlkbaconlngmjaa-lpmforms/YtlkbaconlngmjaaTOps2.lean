/-
  Package lpm: Del, New, Copy; of a nil index.
-/
import Derived.Test.YtlkbaconlngmjaaTOps
import Derived.Deep.RegionWith
namespace Go.Proofs.Ytlkbaconlngmjaa
open Go.RowKit Go.Deep

/-- Del. -/
def TX.del (x : TX) (bs : List Int) : (Int × Int) × List (Option (List Int)) :=
  if fitsK bs x.n = true then match sameP x.l (keyP (pathP bs) x.n) with
    | some i => (((i : Int), 0), x.l.set i none)
    | none => ((0, 14), x.l)
  else ((0, 2), x.l)
def DelV (a : Int × Int) : Value := .tuple #[.int .i64 a.1, .int .i64 a.2]
def IDelPost (w : World) (x : TX) (a : (Int × Int) × List (Option (List Int))) (e : Ending) (w' : World) : Prop := e = .returned (DelV a.1) ∧ IStep w x a.2 w'
set_option maxHeartbeats 2000000 in
set_option maxRecDepth 100000 in
theorem idel_any {w : World} {x : TX} (h : IAt w x) {sa : Option Addr} {sl : Nat} {bs : List Int} (hk : KeyAt w sa sl bs) (sc : Nat) (hsc : sl ≤ sc) :
    Calls Try.prog 16 #[.pointer (some ⟨x.X, 0, none⟩), .slice sa sl sc] w (IDelPost w x (x.del bs)) := by
  have c0 := h.c0
  unfold TX.del
  cases hf : fitsK bs x.n with
  | false =>
    rw [if_neg (by decide)]
    have H1 := toHid (pathOf_no hk h.n12 sc hsc hf)
    have HF : Hid (IDelPost w x ((0, 2), x.l) (.returned (.tuple #[.int .i64 0, .int .i64 2])) w) := ⟨rfl, IStep.same h (Touch.refl _ _)⟩
    clear h hk hf
    go_enter Try.func16, Try.ntmps16
    go_wp2_with fail
    refine Calls.mono H1.out ?_
    rintro e w2 ⟨rfl, rfl⟩
    go_wp2
    go_ret2
    exact HF.out
  | true =>
    rw [if_pos rfl]
    have H1 := toHid (pathOf_yes hk h.n12 sc hsc hf)
    have hl := pathP_fits hf
    have HH := toHid (And.intro h hl)
    have hsm := h.tied.same (by have := h.n12; omega) hl
    rw [hsm]
    cases hat : atT x.T (pathP bs) with
    | none =>
      dsimp only
      have HAT := toHid hat
      clear h hk hf hl hsm hat
      go_enter Try.func16, Try.ntmps16
      go_wp2_with fail
      refine Calls.mono H1.out ?_
      rintro e w2 ⟨g, rfl, hB, hg, hpl, ht2⟩
      have hx2 := HH.out.1.still ht2
      have c2 := hx2.c2
      have H2 := toHid (at_any (pathP bs) x.T w2 (some ⟨g, 0, none⟩) hx2.tree hx2.ok (blk_path hB hpl))
      rw [ptr_ad, HAT.out] at H2
      unfold fV Option.getD Option.isSome at H2
      have HT2 := toHid ht2
      clear hB hg hpl ht2 hx2 H1
      go_wp2_with fail
      refine Calls.mono H2.out ?_
      rintro e w3 ⟨rfl, n, rfl⟩
      have HF : Hid (IDelPost w x ((0, 14), x.l) (.returned (.tuple #[.int .i64 0, .int .i64 14])) (w2.drewN n)) := ⟨rfl, IStep.same HH.out.1 (HT2.out.drewN n)⟩
      clear H2 c2
      go_wp2
      go_ret2
      exact HF.out
    | some s =>
      dsimp only
      have HAT := toHid hat
      clear h hk hf hl hsm hat
      go_enter Try.func16, Try.ntmps16
      go_wp2_with fail
      refine Calls.mono H1.out ?_
      rintro e w2 ⟨g, rfl, hB, hg, hpl, ht2⟩
      have hx2 := HH.out.1.still ht2
      have c2 := hx2.c2
      have H2 := toHid (at_any (pathP bs) x.T w2 (some ⟨g, 0, none⟩) hx2.tree hx2.ok (blk_path hB hpl))
      rw [ptr_ad, HAT.out] at H2
      unfold fV Option.getD Option.isSome at H2
      have HT2 := toHid (And.intro ht2 (And.intro hB (And.intro hg hpl)))
      clear hB hg hpl ht2 hx2 H1
      go_wp2_with fail
      refine Calls.mono H2.out ?_
      rintro e w3 ⟨rfl, n, rfl⟩
      have ht3 := HT2.out.1.drewN n
      have hB3 := HT2.out.2.1.drewN n
      generalize w2.drewN n = w4 at *
      have hx4 := HH.out.1.still ht3
      have d2 := hx4.c2
      have H3 := toHid (without_any (pathP bs) x.T w4 (some ⟨g, 0, none⟩) hx4.tree hx4.ok hx4.nd (blk_path hB3 HT2.out.2.2.2) (fun b off e => by injection e with e; injection e with e1; subst e1; exact fun hx => TX.own_new HH.out.1 HT2.out.2.2.1 HT2.out.1 (by simp [TX.own, hx])) ⟨s, HAT.out⟩)
      rw [ptr_ad] at H3
      have HX4 := toHid (And.intro hx4 ht3)
      clear hx4 ht3 hB3 H2 c2
      go_wp2_with fail
      refine Calls.mono H3.out ?_
      rintro e w5 ⟨T', rfl, hk⟩
      have hr := HX4.out.1.root (l' := x.l.set s none) hk.touch hk.at_ hk.ok hk.nd (fun b hb => Or.inl (hk.blocks b hb)) (by have := hk.dep; have := HX4.out.1.dep; omega) (by rw [List.length_set]; exact HX4.out.1.len) (HX4.out.1.tied.del (by have := HX4.out.1.n12; omega) HAT.out hk.get)
      obtain ⟨hr1, ⟨v, e1⟩, e2⟩ := hr
      have HF : Hid (IDelPost w x (((s : Int), 0), x.l.set s none) (.returned (.tuple #[.int .i64 (s : Int), .int .i64 0])) (w5.setCell ⟨x.X, 2, none⟩ T'.ptr)) := by
        obtain ⟨T2, q1, q2, q3⟩ := hr1
        exact ⟨rfl, T2, q1, (Touch.nil HX4.out.2).trans q2 (fun y hy => Or.inl hy), fun y hy => by
          rcases q3 y hy with h | h
          · exact Or.inl h
          · exact Or.inr (by have := HX4.out.2.size; omega)⟩
      rw [ptr_ad] at *
      clear hk hr1 H3 HX4 d2
      generalize adT T' = ta at *
      go_wp2
      go_ret2
      exact HF.out

/-- Of a nil index. -/
theorem inil_find (w : World) (sa : Option Addr) (sl sc : Nat) : Calls Try.prog 14 #[.pointer none, .slice sa sl sc] w fun e w' => e = .returned (.tuple #[.int .i64 0, .bool false]) ∧ w' = w := by
  go_enter Try.func14, Try.ntmps14
  go_wp2
  go_ret2
  exact ⟨rfl, rfl⟩
theorem inil_put (w : World) (sa : Option Addr) (sl sc : Nat) (fl : Int) : Calls Try.prog 15 #[.pointer none, .slice sa sl sc, .int .u64 fl] w fun e w' => e = .returned (.tuple #[.int .i64 0, .bool false, .int .i64 1]) ∧ w' = w := by
  go_enter Try.func15, Try.ntmps15
  go_wp2
  go_ret3
  exact ⟨rfl, rfl⟩
theorem inil_del (w : World) (sa : Option Addr) (sl sc : Nat) : Calls Try.prog 16 #[.pointer none, .slice sa sl sc] w fun e w' => e = .returned (.tuple #[.int .i64 0, .int .i64 1]) ∧ w' = w := by
  go_enter Try.func16, Try.ntmps16
  go_wp2
  go_ret2
  exact ⟨rfl, rfl⟩
theorem inil_copy (w : World) : Calls Try.prog 17 #[.pointer none] w fun e w' => e = .returned (.pointer none) ∧ w' = w := by
  go_enter Try.func17, Try.ntmps17
  go_wp2
  go_ret
  exact ⟨rfl, rfl⟩
theorem inil_keys (w : World) : Calls Try.prog 12 #[.pointer none] w fun e w' => e = .returned (.slice none 0 0) ∧ Touch [] w w' := by
  have HF : Hid (∀ o, Touch [] w (w.alloc o)) := fun o => (Touch.refl [] w).alloc o
  go_enter Try.func12, Try.ntmps12
  go_wp2
  go_ret
  exact ⟨rfl, HF.out _⟩

def INewPost (w : World) (n m : Nat) (e : Ending) (w' : World) : Prop := ∃ X, e = .returned (.tuple #[.pointer (some ⟨X, 0, none⟩), .int .i64 0]) ∧ IAt w' ⟨X, n, m, .nil, List.replicate m none⟩ ∧ w.heap.size ≤ X ∧ Touch [] w w'
set_option maxHeartbeats 1000000 in
set_option maxRecDepth 100000 in
theorem inew_any (w : World) (n m : Nat) (s1 : 1 ≤ n) (s2 : n ≤ 12) (h1 : 1 ≤ m) (h2 : m ≤ 64) : Calls Try.prog 8 #[.int .i64 ((n : Int) + 4), .int .i64 (m : Int)] w (INewPost w n m) := by
  have b2 := Blk.newA w #[.int .i64 (n : Int), .int .i64 (m : Int), .pointer none] _ 58 rfl
  have HF : Hid (INewPost w n m (.returned (.tuple #[.pointer (some ⟨w.heap.size, 0, none⟩), .int .i64 0])) (w.alloc (.cells #[.int .i64 (n : Int), .int .i64 (m : Int), .pointer none] 58))) :=
    ⟨_, rfl, ⟨b2, trivial, trivial, List.nodup_nil, by simp [bsT], by simp [depT], s1, s2, h1, h2, by simp, TiedT.start n m⟩, Nat.le_refl _, (Touch.refl [] w).alloc _⟩
  clear b2
  go_enter Try.func8, Try.ntmps8
  go_wp2
  go_ret2
  exact HF.out
theorem inew_bad (w : World) (size m : Int) (h1 : ¬ (1 ≤ m ∧ m ≤ 64 ∧ 5 ≤ size ∧ size ≤ 16)) : Calls Try.prog 8 #[.int .i64 size, .int .i64 m] w fun e w' => e = .returned (.tuple #[.pointer none, .int .i64 2]) ∧ w' = w := by
  by_cases a3 : size ≤ 4
  · clear h1
    go_enter Try.func8, Try.ntmps8
    go_wp2
    go_ret2
    exact ⟨rfl, rfl⟩
  · by_cases a4 : 16 < size
    · clear h1
      go_enter Try.func8, Try.ntmps8
      go_wp2
      go_ret2
      exact ⟨rfl, rfl⟩
    · by_cases a1 : m < 1
      · clear h1
        go_enter Try.func8, Try.ntmps8
        go_wp2
        go_ret2
        exact ⟨rfl, rfl⟩
      · have a2 : 64 < m := by omega
        clear h1
        go_enter Try.func8, Try.ntmps8
        go_wp2
        go_ret2
        exact ⟨rfl, rfl⟩
/-- Copy. -/
def ICopyPost (w : World) (x : TX) (e : Ending) (w' : World) : Prop := ∃ C : Nat, ∃ T' : Tr, e = .returned (.pointer (some ⟨C, 0, none⟩)) ∧ IAt w' ⟨C, x.n, x.m, T', x.l⟩ ∧ (∀ y ∈ (⟨C, x.n, x.m, T', x.l⟩ : TX).own, w.heap.size ≤ y) ∧ Touch [] w w'
theorem copy_left {w w1 w2 : World} {x : TX} {C : Tr} (h : IAt w x) (h1 : Touch [] w w1) (hk : Same w1.heap.size w2 x.T C) (ht2 : Touch [] w1 w2) :
    ICopyPost w x (.returned (.pointer (some ⟨w2.heap.size, 0, none⟩))) (w2.alloc (.cells #[.int .i64 (x.n : Int), .int .i64 (x.m : Int), C.ptr] 58)) := by
  have hta : Touch [] w2 (w2.alloc (.cells #[.int .i64 (x.n : Int), .int .i64 (x.m : Int), C.ptr] 58)) := (Touch.refl _ _).alloc _
  have hsz := h1.size
  have hsz2 := ht2.size
  refine ⟨w2.heap.size, C, rfl, ⟨Blk.newA w2 #[.int .i64 (x.n : Int), .int .i64 (x.m : Int), C.ptr] _ 58 rfl, hk.at_.touch hta (by simp), hk.ok, hk.nd, fun hx => ?_, Nat.le_trans hk.dep h.dep, h.n1, h.n12, h.m1, h.m64, h.len, ?_⟩, fun y hy => ?_, (h1.trans ht2 (by simp)).trans hta (by simp)⟩
  · have := hk.at_.lt _ hx
    simp at this
  · exact ⟨fun p s => by rw [hk.get p]; exact h.tied.at_ p s, h.tied.form⟩
  · simp only [TX.own, List.mem_cons] at hy
    rcases hy with rfl | hy
    · show w.heap.size ≤ w2.heap.size
      omega
    · have := hk.blocks y hy
      omega
set_option maxHeartbeats 2000000 in
set_option maxRecDepth 100000 in
theorem icopy_any {w : World} {x : TX} (h : IAt w x) : Calls Try.prog 17 #[.pointer (some ⟨x.X, 0, none⟩)] w (ICopyPost w x) := by
  have hd : Touch [] w w.drew := (Touch.refl [] w).drew
  have hx1 := h.still hd
  have c0 := hx1.c0
  have c1 := hx1.c1
  have c2 := hx1.c2
  have H1 := toHid (twin_any x.T w.drew hx1.tree hx1.ok)
  rw [ptr_ad] at H1
  have HH := toHid h
  have HX := toHid hx1
  clear h hd hx1
  go_enter Try.func17, Try.ntmps17
  go_wp2_with fail
  go_region_with (go_at_call 33; refine Calls.mono H1.out ?_; rintro e w2 ⟨C, rfl, hk, ht2⟩; have e0 := (HX.out.still ht2).c0; have e1 := (HX.out.still ht2).c1; have HF := toHid (copy_left HH.out ((Touch.refl [] w).drew) hk ht2); rw [ptr_ad C] at HF; clear hk ht2; generalize adT C = ca at *)
  all_goals go_wp2
  all_goals go_ret
  all_goals exact HF.out
end Go.Proofs.Ytlkbaconlngmjaa
