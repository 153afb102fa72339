/-
  Package lpm: New, Find, Put, Del; of a nil index.
-/
import Derived.Test.YtlkbaconlngmjaaTIdx
namespace Go.Proofs.Ytlkbaconlngmjaa
open Go.RowKit Go.Deep

/-- Find. -/
def TX.find (x : TX) (bs : List Int) : Option Nat := if fitsK bs x.n = true then longTo x.l bs x.l.length else none
theorem fitsK_len {bs : List Int} {n : Nat} (h : fitsK bs n = true) : bs.length = n + 4 ∧ keyNum bs ≤ 8 * (n : Int) := by
  unfold fitsK at h
  simpa using h
theorem pathP_fits {bs : List Int} {n : Nat} (h : fitsK bs n = true) : (pathP bs).length ≤ 8 * n := by
  have := (fitsK_len h).2
  rw [pathP_len]
  omega
theorem pathOf_no {w : World} {sa : Option Addr} {sl : Nat} {bs : List Int} (h : KeyAt w sa sl bs) {n : Nat} (hn : n ≤ 12) (sc : Nat) (hsc : sl ≤ sc) (hf : fitsK bs n = false) :
    Calls Try.prog 27 #[.slice sa sl sc, .int .i64 (n : Int)] w fun e w' => e = .returned (.tuple #[.slice none 0 0, .bool false]) ∧ w' = w :=
  (pathOf_any h n hn sc hsc).mono fun e w' hp => by
    unfold PathPost at hp
    rw [if_neg (by rw [hf]; decide)] at hp
    exact hp
theorem pathOf_yes {w : World} {sa : Option Addr} {sl : Nat} {bs : List Int} (h : KeyAt w sa sl bs) {n : Nat} (hn : n ≤ 12) (sc : Nat) (hsc : sl ≤ sc) (hf : fitsK bs n = true) :
    Calls Try.prog 27 #[.slice sa sl sc, .int .i64 (n : Int)] w fun e w' => ∃ g, e = .returned (.tuple #[.slice (some ⟨g, 0, none⟩) (pathP bs).length (pathP bs).length, .bool true]) ∧ Blk w' g ((pathP bs).map bitV) 3 ∧ w.heap.size ≤ g ∧ (pathP bs).length ≤ 1000 ∧ Touch [] w w' :=
  (pathOf_any h n hn sc hsc).mono fun e w' hp => by
    unfold PathPost at hp
    rw [if_pos hf] at hp
    exact hp
set_option maxHeartbeats 2000000 in
set_option maxRecDepth 100000 in
theorem ifind_any {w : World} {x : TX} (h : IAt w x) {sa : Option Addr} {sl : Nat} {bs : List Int} (hk : KeyAt w sa sl bs) (sc : Nat) (hsc : sl ≤ sc) :
    Calls Try.prog 14 #[.pointer (some ⟨x.X, 0, none⟩), .slice sa sl sc] w fun e w' => e = .returned (fV (x.find bs)) ∧ Touch [] w w' := by
  have c0 := h.c0
  unfold TX.find
  cases hf : fitsK bs x.n with
  | false =>
    rw [if_neg (by decide)]
    have H1 := toHid (pathOf_no hk h.n12 sc hsc hf)
    clear h hk hf
    go_enter Try.func14, Try.ntmps14
    go_wp2_with fail
    refine Calls.mono H1.out ?_
    rintro e w2 ⟨rfl, rfl⟩
    go_wp2
    go_ret2
    exact ⟨rfl, Touch.refl _ _⟩
  | true =>
    rw [if_pos rfl]
    have H1 := toHid (pathOf_yes hk h.n12 sc hsc hf)
    have hl := fitsK_len hf
    rw [long_eq h.tied (by have := h.n12; omega) hl.1 hk.2.1 hl.2]
    have HH := toHid h
    generalize hfo : longT x.T (pathP bs) = fo at *
    have HFO := toHid hfo
    unfold fV
    clear h hk hf hl hfo
    go_enter Try.func14, Try.ntmps14
    go_wp2_with fail
    refine Calls.mono H1.out ?_
    rintro e w2 ⟨g, rfl, hB, hg, hpl, ht2⟩
    have hx2 := HH.out.still ht2
    have c2 := hx2.c2
    have H2 := toHid (longest_any (pathP bs) x.T w2 (some ⟨g, 0, none⟩) hx2.tree hx2.ok (blk_path hB hpl))
    rw [ptr_ad, HFO.out] at H2
    have HT2 := toHid ht2
    clear hB hg hpl ht2 hx2 H1
    unfold fV at H2
    go_wp2_with fail
    refine Calls.mono H2.out ?_
    rintro e w3 ⟨rfl, n, rfl⟩
    go_wp2
    go_ret2
    exact ⟨rfl, HT2.out.drewN n⟩

/-- What a call leaves. -/
def IStep (w : World) (x : TX) (l : List (Option (List Int))) (w' : World) : Prop := ∃ T' : Tr, IAt w' { x with T := T', l := l } ∧ Touch x.own w w' ∧ ∀ y ∈ bsT T', y ∈ x.own ∨ w.heap.size ≤ y
theorem IStep.same {w w' : World} {x : TX} (h : IAt w x) (ht : Touch [] w w') : IStep w x x.l w' := ⟨x.T, h.still ht, Touch.nil ht, fun y hy => Or.inl (by simp [TX.own, hy])⟩
theorem again_no (w : World) (s : Nat) : Calls Try.prog 30 #[.int .i64 (s : Int), .int .u64 1] w fun e w' => e = .returned (.tuple #[.int .i64 0, .bool false, .int .i64 70]) ∧ w' = w := by
  go_enter Try.func30, Try.ntmps30
  go_wp2
  go_ret3
  exact ⟨rfl, rfl⟩
theorem again_yes (w : World) (s : Nat) {fl : Int} (h : ¬ fl = 1) : Calls Try.prog 30 #[.int .i64 (s : Int), .int .u64 fl] w fun e w' => e = .returned (.tuple #[.int .i64 (s : Int), .bool false, .int .i64 0]) ∧ w' = w := by
  have h1 : (fl == 1) = false := by simpa using h
  clear h
  go_enter Try.func30, Try.ntmps30
  go_wp2
  go_ret3
  exact ⟨rfl, rfl⟩
/-- A tree laid into its index. -/
theorem IAt.root {w w2 : World} {x : TX} {T' : Tr} {l' : List (Option (List Int))} (h : IAt w x) (ht : Touch (bsT x.T) w w2) (hA : TrAt w2 T') (ok : okT T') (nd : (bsT T').Nodup) (hb : ∀ b ∈ bsT T', b ∈ bsT x.T ∨ w.heap.size ≤ b)
    (dep : depT T' ≤ 8 * x.n + 1) (len : l'.length = x.m) (tied : TiedT x.n T' l') : IStep w x l' (w2.setCell ⟨x.X, 2, none⟩ T'.ptr) ∧ (∃ v, w2.cell? ⟨x.X, 2, none⟩ = some (.pointer v)) ∧ w2.frozen? ⟨x.X, 2, none⟩ = false := by
  have hB := ht.blk h.self h.out
  have hX : x.X ∉ bsT T' := fun hx => by
    rcases hb _ hx with hx | hx
    · exact h.out hx
    · have := h.self.lt
      omega
  have hts : Touch [x.X] w2 (w2.setCell ⟨x.X, 2, none⟩ T'.ptr) := (Touch.refl _ w2).setCell _ _ (Or.inl (by simp))
  refine ⟨⟨T', ⟨hB.setCell 2 T'.ptr, hA.touch hts (fun y hy hz => by simp at hz; subst hz; exact hX hy), ok, nd, hX, dep, h.n1, h.n12, h.m1, h.m64, len, tied⟩, (ht.mono (S' := x.own) (fun y hy => Or.inl (by simp [TX.own, hy]))).trans hts (fun y hy => Or.inl (by simp at hy; simp [TX.own, hy])), fun y hy => ?_⟩, ⟨adT x.T, by rw [← ptr_ad]; exact hB.cell rfl⟩, hB.frozen 2⟩
  rcases hb y hy with hy | hy
  · exact Or.inl (by simp [TX.own, hy])
  · exact Or.inr hy
def AddV (a : Int × Bool × Int) : Value := .tuple #[.int .i64 a.1, .bool a.2.1, .int .i64 a.2.2]
def TX.add (x : TX) (p : List Bool) (fl : Int) : (Int × Bool × Int) × List (Option (List Int)) :=
  if fl = 2 then ((0, false, 14), x.l) else match freeP x.l with
    | some f => (((f : Int), true, 0), x.l.set f (some (keyP p x.n)))
    | none => ((0, false, 71), x.l)
set_option maxHeartbeats 2000000 in
set_option maxRecDepth 100000 in
theorem add_any {w : World} {x : TX} (h : IAt w x) {g : Nat} {p : List Bool} (hB : Blk w g (p.map bitV) 3) (hp : p.length ≤ 8 * x.n) (hg : g ∉ x.own) (hno : atT x.T p = none) (fl : Int) :
    Calls Try.prog 31 #[.pointer (some ⟨x.X, 0, none⟩), .slice (some ⟨g, 0, none⟩) p.length p.length, .int .u64 fl] w fun e w' => e = .returned (AddV (x.add p fl).1) ∧ IStep w x (x.add p fl).2 w' := by
  have hn12 := h.n12
  unfold TX.add AddV
  by_cases h2 : fl = 2
  · rw [if_pos h2]
    subst h2
    have HF := toHid (IStep.same h (Touch.refl [] w))
    clear h hB hp hg hno
    go_enter Try.func31, Try.ntmps31
    go_wp2
    go_ret3
    exact ⟨rfl, HF.out⟩
  · rw [if_neg h2]
    have h21 : (fl == 2) = false := by simpa using h2
    have H1 := toHid (free_any h)
    have HH := toHid (And.intro h (And.intro hB (And.intro hp (And.intro hg hno))))
    have hpl : p.length ≤ 1000 := by omega
    cases hf : freeP x.l with
    | none =>
      rw [hf] at H1
      unfold fV Option.getD Option.isSome at H1
      clear h hB hp hg hno h2 hf hpl
      go_enter Try.func31, Try.ntmps31
      go_wp2_with fail
      refine Calls.mono H1.out ?_
      rintro e w2 ⟨rfl, ht2⟩
      have HF := toHid (IStep.same HH.out.1 ht2)
      clear ht2
      go_wp2
      go_ret3
      exact ⟨rfl, HF.out⟩
    | some f =>
      rw [hf] at H1
      unfold fV Option.getD Option.isSome at H1
      have hfl : x.l[f]? = some none := by
        have h9 := hf
        unfold freeP at h9
        rw [List.findIdx?_eq_some_iff_getElem] at h9
        obtain ⟨h9, h10, _⟩ := h9
        rw [List.getElem?_eq_getElem h9]
        cases hv : x.l[f] with
        | none => rfl
        | some y => rw [hv] at h10; cases h10
      have HFL := toHid hfl
      clear h hB hp hg hno h2 hf hfl
      go_enter Try.func31, Try.ntmps31
      go_wp2_with fail
      refine Calls.mono H1.out ?_
      rintro e w2 ⟨rfl, ht2⟩
      have hx2 := HH.out.1.still ht2
      have c2 := hx2.c2
      have hB2 := ht2.blk HH.out.2.1 (by simp)
      have H2 := toHid (with_any f p x.T w2 (some ⟨g, 0, none⟩) hx2.tree hx2.ok hx2.nd (blk_path hB2 hpl) (fun b off e => by injection e with e; injection e with e1; subst e1; exact fun hx => HH.out.2.2.2.1 (by simp [TX.own, hx])))
      rw [ptr_ad] at H2
      have HX2 := toHid (And.intro hx2 ht2)
      clear ht2 hx2 hB2 H1
      go_wp2_with fail
      refine Calls.mono H2.out ?_
      rintro e w3 ⟨T', rfl, hk⟩
      have hr := HX2.out.1.root (l' := x.l.set f (some (keyP p x.n))) hk.touch hk.at_ hk.ok hk.nd hk.blocks (by have := hk.dep; have := HX2.out.1.dep; have := HH.out.2.2.1; omega) (by rw [List.length_set]; exact HX2.out.1.len) (HX2.out.1.tied.put (by omega) HH.out.2.2.1 HH.out.2.2.2.2 HFL.out hk.get)
      obtain ⟨hr1, ⟨v, d1⟩, d2⟩ := hr
      have HF : Hid (IStep w x (x.l.set f (some (keyP p x.n))) (w3.setCell ⟨x.X, 2, none⟩ T'.ptr)) := by
        obtain ⟨T2, q1, q2, q3⟩ := hr1
        exact ⟨T2, q1, (Touch.nil HX2.out.2).trans q2 (fun y hy => Or.inl hy), fun y hy => by
          rcases q3 y hy with h | h
          · exact Or.inl h
          · exact Or.inr (by have := HX2.out.2.size; omega)⟩
      rw [ptr_ad] at *
      clear hk hr1 H2 HX2
      generalize adT T' = ta at *
      go_wp2
      go_ret3
      exact ⟨rfl, HF.out⟩

/-- Put. -/
def TX.put (x : TX) (bs : List Int) (fl : Int) : (Int × Bool × Int) × List (Option (List Int)) :=
  if fitsK bs x.n = true then
    if 2 < fl then ((0, false, 72), x.l)
    else match sameP x.l (keyP (pathP bs) x.n) with
      | some i => if fl = 1 then ((0, false, 70), x.l) else (((i : Int), false, 0), x.l)
      | none => x.add (pathP bs) fl
  else ((0, false, 2), x.l)
def IPutPost (w : World) (x : TX) (a : (Int × Bool × Int) × List (Option (List Int))) (e : Ending) (w' : World) : Prop := e = .returned (AddV a.1) ∧ IStep w x a.2 w'
theorem TX.own_new {w w2 : World} {x : TX} (h : IAt w x) {g : Nat} (hg : w.heap.size ≤ g) (_ : Touch [] w w2) : g ∉ x.own := fun hx => by
  have := h.lt g hx
  omega
set_option maxHeartbeats 2000000 in
set_option maxRecDepth 100000 in
theorem iput_any {w : World} {x : TX} (h : IAt w x) {sa : Option Addr} {sl : Nat} {bs : List Int} (hk : KeyAt w sa sl bs) (sc : Nat) (hsc : sl ≤ sc) (fl : Int) (f0 : 0 ≤ fl) :
    Calls Try.prog 15 #[.pointer (some ⟨x.X, 0, none⟩), .slice sa sl sc, .int .u64 fl] w (IPutPost w x (x.put bs fl)) := by
  have c0 := h.c0
  unfold TX.put
  cases hf : fitsK bs x.n with
  | false =>
    rw [if_neg (by decide)]
    have H1 := toHid (pathOf_no hk h.n12 sc hsc hf)
    have HF : Hid (IPutPost w x ((0, false, 2), x.l) (.returned (.tuple #[.int .i64 0, .bool false, .int .i64 2])) w) := ⟨rfl, IStep.same h (Touch.refl _ _)⟩
    clear h hk hf
    go_enter Try.func15, Try.ntmps15
    go_wp2_with fail
    refine Calls.mono H1.out ?_
    rintro e w2 ⟨rfl, rfl⟩
    go_wp2
    go_ret3
    exact HF.out
  | true =>
    rw [if_pos rfl]
    have H1 := toHid (pathOf_yes hk h.n12 sc hsc hf)
    have hl := pathP_fits hf
    have HH := toHid (And.intro h hl)
    by_cases h2 : 2 < fl
    · rw [if_pos h2]
      clear h hk hf hl
      go_enter Try.func15, Try.ntmps15
      go_wp2_with fail
      refine Calls.mono H1.out ?_
      rintro e w2 ⟨g, rfl, hB, hg, hpl, ht2⟩
      have HF : Hid (IPutPost w x ((0, false, 72), x.l) (.returned (.tuple #[.int .i64 0, .bool false, .int .i64 72])) w2) := ⟨rfl, IStep.same HH.out.1 ht2⟩
      clear hB hg hpl ht2 H1
      go_wp2
      go_ret3
      exact HF.out
    · rw [if_neg h2]
      have hsm := h.tied.same (by have := h.n12; omega) hl
      rw [hsm]
      cases hat : atT x.T (pathP bs) with
      | some s =>
        dsimp only
        by_cases h1 : fl = 1
        · rw [if_pos h1]
          subst h1
          have HA := toHid (fun w => again_no w s)
          have HAT := toHid hat
          clear hk hf hl hsm hat
          have HF : Hid (∀ w', Touch [] w w' → IPutPost w x ((0, false, 70), x.l) (.returned (AddV (0, false, 70))) w') := fun w' ht => ⟨rfl, IStep.same h ht⟩
          clear h
          go_enter Try.func15, Try.ntmps15
          go_wp2_with fail
          refine Calls.mono H1.out ?_
          rintro e w2 ⟨g, rfl, hB, hg, hpl, ht2⟩
          have hx2 := HH.out.1.still ht2
          have c2 := hx2.c2
          have H2 := toHid (at_any (pathP bs) x.T w2 (some ⟨g, 0, none⟩) hx2.tree hx2.ok (blk_path hB hpl))
          rw [ptr_ad, HAT.out] at H2
          unfold fV Option.getD Option.isSome at H2
          have HT2 := toHid ht2
          clear hB hg hpl ht2 hx2 H1
          go_wp2_with fail
          refine Calls.mono H2.out ?_
          rintro e w3 ⟨rfl, n, rfl⟩
          go_wp2_with fail
          refine Calls.mono (HA.out _) ?_
          rintro e w4 ⟨rfl, rfl⟩
          have HG := toHid (HF.out _ (HT2.out.drewN n))
          unfold AddV at HG
          clear H2 HA HF
          go_wp2
          go_ret3
          exact HG.out
        · rw [if_neg h1]
          have HA := toHid (fun w => again_yes w s h1)
          clear h1
          have HAT := toHid hat
          clear hk hf hl hsm hat
          have HF : Hid (∀ w', Touch [] w w' → IPutPost w x (((s : Int), false, 0), x.l) (.returned (AddV ((s : Int), false, 0))) w') := fun w' ht => ⟨rfl, IStep.same h ht⟩
          clear h
          go_enter Try.func15, Try.ntmps15
          go_wp2_with fail
          refine Calls.mono H1.out ?_
          rintro e w2 ⟨g, rfl, hB, hg, hpl, ht2⟩
          have hx2 := HH.out.1.still ht2
          have c2 := hx2.c2
          have H2 := toHid (at_any (pathP bs) x.T w2 (some ⟨g, 0, none⟩) hx2.tree hx2.ok (blk_path hB hpl))
          rw [ptr_ad, HAT.out] at H2
          unfold fV Option.getD Option.isSome at H2
          have HT2 := toHid ht2
          clear hB hg hpl ht2 hx2 H1
          go_wp2_with fail
          refine Calls.mono H2.out ?_
          rintro e w3 ⟨rfl, n, rfl⟩
          go_wp2_with fail
          refine Calls.mono (HA.out _) ?_
          rintro e w4 ⟨rfl, rfl⟩
          have HG := toHid (HF.out _ (HT2.out.drewN n))
          unfold AddV at HG
          clear H2 HA HF
          go_wp2
          go_ret3
          exact HG.out
      | none =>
        have HAT := toHid hat
        dsimp only
        have HAD : Hid (∃ ad, x.add (pathP bs) fl = ad) := ⟨_, rfl⟩
        generalize hadd : x.add (pathP bs) fl = ad at *
        have HADD := toHid hadd
        clear h hk hf hl hsm hat hadd HAD
        go_enter Try.func15, Try.ntmps15
        go_wp2_with fail
        refine Calls.mono H1.out ?_
        rintro e w2 ⟨g, rfl, hB, hg, hpl, ht2⟩
        have hx2 := HH.out.1.still ht2
        have c2 := hx2.c2
        have H2 := toHid (at_any (pathP bs) x.T w2 (some ⟨g, 0, none⟩) hx2.tree hx2.ok (blk_path hB hpl))
        rw [ptr_ad, HAT.out] at H2
        unfold fV Option.getD Option.isSome at H2
        have HT2 := toHid ht2
        have H3 : Hid (∀ n, Calls Try.prog 31 #[.pointer (some ⟨x.X, 0, none⟩), .slice (some ⟨g, 0, none⟩) (pathP bs).length (pathP bs).length, .int .u64 fl] (w2.drewN n) fun e w' => e = .returned (AddV (x.add (pathP bs) fl).1) ∧ IStep (w2.drewN n) x (x.add (pathP bs) fl).2 w') :=
          fun n => add_any (hx2.still ((Touch.refl [] w2).drewN n)) (hB.drewN n) HH.out.2 (TX.own_new HH.out.1 hg ht2) HAT.out fl
        rw [HADD.out] at H3
        clear hB hg hpl ht2 hx2 H1
        go_wp2_with fail
        refine Calls.mono H2.out ?_
        rintro e w3 ⟨rfl, n, rfl⟩
        go_wp2_with fail
        refine Calls.mono (H3.out n) ?_
        rintro e w4 ⟨rfl, hS⟩
        have HF : Hid (IPutPost w x ad (.returned (AddV ad.1)) w4) := by
          refine ⟨rfl, ?_⟩
          obtain ⟨T', q1, q2, q3⟩ := hS
          have ht := HT2.out.drewN n
          exact ⟨T', q1, (Touch.nil ht).trans q2 (fun y hy => Or.inl hy), fun y hy => by
            rcases q3 y hy with h | h
            · exact Or.inl h
            · exact Or.inr (by have := ht.size; omega)⟩
        unfold AddV at *
        clear hS H2 H3
        go_wp2
        go_ret3
        exact HF.out
end Go.Proofs.Ytlkbaconlngmjaa
