/-
  The tree of bits: each, whatever is told.
-/
import Derived.Test.YtlkbaconlngmjaaTTwin
import Derived.Test.YtlkbaconlngmjaaTKey2
import Derived.Laws.AppendOwn
namespace Go.Proofs.Ytlkbaconlngmjaa
open Go.RowKit Go.Deep

theorem RowAt.shorter {w : World} {e : TypeId} {g : Option Nat} {n cap : Nat} {cs : List Value} {v : Value} (h : RowAt w e 1 g (n + 1) cap (cs ++ [v])) : RowAt w e 1 g n cap cs := by
  obtain ⟨h1, h2, h3, h4⟩ := h
  refine ⟨by simp at h1; omega, by omega, h3, ?_⟩
  cases g with
  | none => exact h4
  | some b =>
    obtain ⟨rest, hB, hc⟩ := h4
    exact ⟨v :: rest, by simpa using hB, by simpa using hc⟩
/-- append(s, x...), and what the old slice says behind it. -/
theorem run_append_keep {P : Program} (w : World) (t ty e : TypeId) (i : TypeInfo) (z : Value) (ht : P.underlying t = some (.slice e)) (hi : P.info? e = some i) (hz : i.zero = some z)
    (hsz : i.size = 1) (hzs : z.cells.size = 1) (g : Option Nat) (n cap : Nat) (cs : List Value) (h : RowAt w e 1 g n cap cs)
    (a : Addr) (c : Nat) (v : Value) (hnews : w.cell? a = some v) (h1 : v.oneCell' = true)
    (hbig : (n + 1) * i.bytes ≤ 140737488355328) (hmax : n + 1 ≤ 140737488355328) :
    ∃ g' cap' w', (Builtin.append_ #[t, t] ty #[slV g n cap, .slice (some a) 1 c]).run P w = .ok (slV g' (n + 1) cap') w' ∧ RowAt w' e 1 g' (n + 1) cap' (cs ++ [v]) ∧ RowAt w' e 1 g n cap cs ∧ Touch g.toList w w' ∧
      ((g' = g ∧ cap' = cap) ∨ g' = some w.heap.size) := by
  have hrow := h
  obtain ⟨hcl, hnc, hcm, hg⟩ := h
  have hspot : a.spot = none := by
    obtain ⟨b, off, spot⟩ := a
    exact World.cell?_spot hnews
  have hnews' : ∀ j u, [v][j]? = some u → w.cell? (a.add j) = some u := fun j u hj => by
    have : j = 0 := by have := (List.getElem?_eq_some_iff.1 hj).1; simp at this; exact this
    subst this
    injection hj with hj
    subst hj
    obtain ⟨b, off, spot⟩ := a
    have : spot = none := hspot
    subst this
    rw [Addr.add_lit]
    exact hnews
  have hlen : (cs ++ [v]).length = (n + 1) * 1 := by rw [List.length_append, hcl]; simp
  have hgrow : ∀ old, old < n + 1 → RowAt (w.drew.alloc (.cells (cs.toArray ++ [v].toArray ++ Builtin.zeroCells z.cells (grownCap w (n + 1) old e - (n + 1))) e)) e 1 (some w.heap.size) (n + 1) (grownCap w (n + 1) old e) (cs ++ [v]) := by
    intro old ho
    have hge := grownCap_ge w (n + 1) old e
    have hle := grownCap_le_maxLen w (n + 1) old e (by unfold maxLen; omega)
    refine ⟨hlen, hge, hle, (Builtin.zeroCells z.cells (grownCap w (n + 1) old e - (n + 1))).toList, ?_, ?_⟩
    · exact Blk.newA w.drew _ _ e (by simp)
    · rw [List.length_append, hlen, Array.length_toList, size_zeroCells, hzs]
      omega
  cases g with
  | none =>
    have hg : cap = 0 := hg
    subst hg
    obtain rfl : n = 0 := by omega
    obtain rfl : cs = [] := List.eq_nil_of_length_eq_zero (by simpa using hcl)
    have hr := run_append_nil (P := P) w t ty e i z ht hi hz a 1 c [v] (by rw [hsz]; rfl) hnews' (by omega) (by omega) (by simp only [Nat.zero_add] at hbig; omega)
    have hgr := hgrow 0 (by omega)
    simp only [Nat.zero_add, List.nil_append, Array.empty_append] at hgr ⊢
    exact ⟨some w.heap.size, _, _, hr, hgr, ⟨rfl, Nat.le_refl _, hcm, rfl⟩, (Touch.refl _ w).drew.alloc _, Or.inr rfl⟩
  | some b =>
    obtain ⟨rest, hb, hcap⟩ := hg
    by_cases hroom : n + 1 ≤ cap
    · have hfit : n * i.size + [v].length ≤ (cs ++ rest).toArray.size := by
        rw [hsz]
        simp at hcap hcl ⊢
        omega
      have hr := run_append_room (P := P) w t ty e i ht hi b n cap _ hb a 1 c [v] (by rw [hsz]; rfl) hnews' (fun u hu => by simp at hu; rw [hu]; exact h1) hroom hfit
      refine ⟨some b, cap, _, hr, ?_, RowAt.shorter (v := v) ?_, (Touch.refl _ w).setRow _ _ (Or.inl (by simp)), Or.inl ⟨rfl, rfl⟩⟩
      all_goals
        refine ⟨hlen, hroom, hcm, rest.drop [v].length, ?_, ?_⟩
        · rw [splice_rest cs rest [v] (n * i.size) (by rw [hsz]; exact hcl)]
          exact hb.setRow _
        · simp only [List.length_append, List.length_drop] at hcap ⊢
          rw [hsz] at hfit
          simp at hfit hcap hcl ⊢
          omega
    · have hold : ∀ j u, cs[j]? = some u → w.cell? ((⟨b, 0, none⟩ : Addr).add j) = some u := fun j u hj => by
        have hadd : (⟨b, 0, none⟩ : Addr).add j = ⟨b, j, none⟩ := by unfold Addr.add; split <;> simp_all
        rw [hadd]
        exact hb.cell (by rw [List.getElem?_append_left (List.getElem?_eq_some_iff.1 hj).1]; exact hj)
      have hr := run_append_grow (P := P) w t ty e i z ht hi hz ⟨b, 0, none⟩ n cap cs (by rw [hsz]; exact hcl) hold a 1 c [v] (by rw [hsz]; rfl) hnews' (by omega) (by omega) (growslice_fits (by omega) hbig)
      have ht0 : Touch [] w (w.drew.alloc (.cells (cs.toArray ++ [v].toArray ++ Builtin.zeroCells z.cells (grownCap w (n + 1) cap e - (n + 1))) e)) := (Touch.refl _ w).drew.alloc _
      exact ⟨some w.heap.size, _, _, hr, hgrow cap (by omega), hrow.touch ht0 (by simp), Touch.nil ht0, Or.inr rfl⟩

/-- The keys of a tree, in the order of each. -/
def allT : Tr → List Bool → List (List Bool × Nat)
  | .nil, _ => []
  | .node _ _ a l r, pre => (if a.1 = true then [(pre, a.2)] else []) ++ (allT l (pre ++ [false]) ++ allT r (pre ++ [true]))
theorem mem_allT : ∀ (T : Tr) (pre : List Bool) (x : List Bool × Nat), x ∈ allT T pre ↔ ∃ q, x.1 = pre ++ q ∧ atT T q = some x.2
  | .nil, pre, x => by simp [allT, atT]
  | .node b o a l r, pre, x => by
    simp only [allT, List.mem_append, mem_allT l, mem_allT r]
    constructor
    · rintro (h | ⟨q, h1, h2⟩ | ⟨q, h1, h2⟩)
      · split at h
        · rename_i ha
          simp at h
          exact ⟨[], by rw [h]; simp, by rw [h]; simp [atT, heldT, ha]⟩
        · simp at h
      · exact ⟨false :: q, by rw [h1]; simp, h2⟩
      · exact ⟨true :: q, by rw [h1]; simp, h2⟩
    · rintro ⟨q, h1, h2⟩
      match q with
      | [] =>
        simp only [atT, heldT] at h2
        split at h2
        · rename_i ha
          injection h2 with h2
          refine Or.inl ?_
          rw [if_pos ha]
          simp only [List.mem_singleton, List.append_nil] at h1 ⊢
          rw [h2, ← h1]
        · cases h2
      | false :: q => exact Or.inr (Or.inl ⟨q, by rw [h1]; simp, h2⟩)
      | true :: q => exact Or.inr (Or.inr ⟨q, by rw [h1]; simp, h2⟩)

/-- A path while the tree is walked. -/
def PRow (w : World) (g : Option Nat) (cap : Nat) (p : List Bool) : Prop := RowAt w 3 1 g p.length cap (p.map bitV)
theorem PRow.path {w : World} {g : Option Nat} {cap : Nat} {p : List Bool} (h : PRow w g cap p) (hp : p.length ≤ 1000) : PathAt w (g.map fun b => ⟨b, 0, none⟩) p := by
  refine ⟨hp, fun h1 => ?_⟩
  obtain ⟨_, h2, _, h4⟩ := h
  cases g with
  | none =>
    have h4 : cap = 0 := h4
    omega
  | some b =>
    obtain ⟨rest, hB, _⟩ := h4
    refine ⟨b, 0, rfl, fun j hj => ?_⟩
    rw [Nat.zero_add]
    refine hB.cell ?_
    rw [List.getElem?_append_left (by simpa using hj), List.getElem?_map, List.getD_eq_getElem?_getD, List.getElem?_eq_getElem hj]
    rfl
theorem PRow.lt {w : World} {b cap : Nat} {p : List Bool} (h : PRow w (some b) cap p) : b < w.heap.size := by
  obtain ⟨_, _, _, rest, hB, _⟩ := h
  exact hB.lt
/-- Whoever is told: what his calls keep. -/
structure Teller (S : List Nat) (ok : List Bool → Nat → Prop) (I : List (List Bool × Nat) → List Nat → World → Prop) (C : Value → Value → World → (Ending → World → Prop) → Prop) : Prop where
  call : ∀ L K pre s sa cap w, I L K w → PathAt w sa pre → ok pre s → C (.slice sa pre.length cap) (.int .i64 (s : Int)) w (fun e w' => e = .returned (.tuple #[]) ∧ ∃ K', I (L ++ [(pre, s)]) K' w' ∧ (∀ x ∈ K', x ∈ K ∨ w.heap.size ≤ x) ∧ Touch S w w')
  still : ∀ L K w w' G, I L K w → Touch G w w' → (∀ x ∈ G, x ∉ K) → I L K w'
  lt : ∀ L K w, I L K w → ∀ x ∈ K, x < w.heap.size
def ETo (S : List Nat) (I : List (List Bool × Nat) → List Nat → World → Prop) (w : World) (g : Option Nat) (cap : Nat) (pre : List Bool) (L : List (List Bool × Nat)) (K : List Nat) (w' : World) : Prop :=
  ∃ K', I L K' w' ∧ (∀ x ∈ K', x ∈ K ∨ w.heap.size ≤ x) ∧ PRow w' g cap pre ∧ Touch (S ++ g.toList) w w'
/-- The path with one bit more. -/
theorem each_push {w : World} {g : Option Nat} {cap : Nat} {pre : List Bool} (h : PRow w g cap pre) (c : Bool) (hp : pre.length ≤ 1000) :
    ∃ g' cap' w', (Builtin.append_ #[59, 59] 59 #[slV g pre.length cap, .slice (some ⟨w.heap.size, 0, none⟩) 1 1]).run Try.prog (w.alloc (.cells #[bitV c] 3)) = .ok (slV g' (pre.length + 1) cap') w' ∧ PRow w' g' cap' (pre ++ [c]) ∧ PRow w' g cap pre ∧ Touch g.toList w w' ∧
      ((g' = g ∧ cap' = cap) ∨ ∃ b, g' = some b ∧ w.heap.size ≤ b) := by
  have hta : Touch [] w (w.alloc (.cells #[bitV c] 3)) := (Touch.refl _ w).alloc _
  have hN := Blk.newA w #[bitV c] _ 3 rfl
  obtain ⟨i, hi, hz, hs, hb⟩ := info_of info3
  obtain ⟨g', cap', w', hr, h2, h3, h4, h5⟩ := run_append_keep (P := Try.prog) (w.alloc (.cells #[bitV c] 3)) 59 59 3 i (.int .i64 0) Try.underlying59 hi hz hs rfl g pre.length cap _ (RowAt.touch h hta (by simp)) ⟨w.heap.size, 0, none⟩ 1 (bitV c) (hN.cell rfl) rfl (by rw [hb]; omega) (by omega)
  refine ⟨g', cap', w', hr, ?_, h3, (Touch.nil hta).trans h4 (fun y hy => Or.inl hy), ?_⟩
  · unfold PRow
    rw [List.length_append, List.map_append]
    exact h2
  · rcases h5 with h5 | h5
    · exact Or.inl h5
    · exact Or.inr ⟨_, h5, by rw [World.size_alloc]; omega⟩
theorem each_ready {S : List Nat} {ok : List Bool → Nat → Prop} {I : List (List Bool × Nat) → List Nat → World → Prop} {C : Value → Value → World → (Ending → World → Prop) → Prop} (hT : Teller S ok I C)
    {w wr w2 : World} {g g' : Option Nat} {cap cap' : Nat} {L : List (List Bool × Nat)} {K K' : List Nat} {T : Tr}
    (hK : I L K' wr) (hKK : ∀ x ∈ K', x ∈ K ∨ w.heap.size ≤ x) (ht : Touch (S ++ g.toList) w wr) (ht2 : Touch g.toList wr w2) (hg' : (g' = g ∧ cap' = cap) ∨ ∃ b, g' = some b ∧ wr.heap.size ≤ b)
    (hA : TrAt w T) (hgT : ∀ b, g = some b → b ∉ bsT T ∧ b ∉ K ∧ b ∉ S ∧ b < w.heap.size) (hST : ∀ x ∈ S, x ∉ bsT T) (hSw : ∀ x ∈ S, x < w.heap.size) :
    TrAt w2 T ∧ I L K' w2 ∧ (∀ b, g' = some b → b ∉ bsT T ∧ b ∉ K' ∧ b ∉ S) := by
  have hdis : ∀ x ∈ bsT T, x ∉ S ++ g.toList := fun x hx hy => by
    rcases List.mem_append.1 hy with hy | hy
    · exact hST x hy hx
    · cases g with
      | none => cases hy
      | some b => simp at hy; subst hy; exact (hgT _ rfl).1 hx
  have hgK : ∀ b, g = some b → b ∉ K' := fun b hb hx => by
    rcases hKK b hx with h | h
    · exact (hgT b hb).2.1 h
    · have := (hgT b hb).2.2.2
      omega
  have hsz := ht.size
  refine ⟨(hA.touch ht hdis).touch ht2 (fun x hx hy => hdis x hx (List.mem_append_right _ hy)), hT.still _ _ _ _ _ hK ht2 (fun x hx => ?_), fun b hb => ?_⟩
  · cases g with
    | none => cases hx
    | some b => simp at hx; subst hx; exact hgK _ rfl
  · rcases hg' with ⟨e, _⟩ | ⟨b', e, hb'⟩
    · rw [e] at hb
      exact ⟨(hgT b hb).1, hgK b hb, (hgT b hb).2.2.1⟩
    · rw [e] at hb
      injection hb with hb
      subst hb
      refine ⟨fun hx => ?_, fun hx => ?_, fun hx => ?_⟩
      · have := hA.lt _ hx
        omega
      · have := hT.lt _ _ _ hK _ hx
        omega
      · have := hSw _ hx
        omega
theorem each_next {S : List Nat} {I : List (List Bool × Nat) → List Nat → World → Prop}
    {w wr w2 w3 : World} {g g' : Option Nat} {cap cap' : Nat} {pre : List Bool} {c : Bool} {L : List (List Bool × Nat)} {K K' : List Nat}
    (hKK : ∀ x ∈ K', x ∈ K ∨ w.heap.size ≤ x) (ht : Touch (S ++ g.toList) w wr) (ht2 : Touch g.toList wr w2) (hg' : (g' = g ∧ cap' = cap) ∨ ∃ b, g' = some b ∧ wr.heap.size ≤ b) (hr2 : PRow w2 g cap pre) (hgS : ∀ b, g = some b → b ∉ S ∧ b < w.heap.size)
    (h : ETo S I w2 g' cap' (pre ++ [c]) L K' w3) : ETo S I w g cap pre L K w3 := by
  obtain ⟨K2, hI, hK2, hR, ht3⟩ := h
  have hsz := ht.size
  have hsz2 := ht2.size
  refine ⟨K2, hI, fun x hx => ?_, ?_, ?_⟩
  · rcases hK2 x hx with h | h
    · exact hKK x h
    · exact Or.inr (by omega)
  · rcases hg' with ⟨e1, e2⟩ | ⟨b, e1, e2⟩
    · rw [e1, e2] at hR
      unfold PRow at hR
      rw [List.length_append, List.map_append] at hR
      exact RowAt.shorter hR
    · refine RowAt.touch hr2 ht3 (fun x hx hy => ?_)
      rw [e1] at hy
      rcases List.mem_append.1 hy with hy | hy
      · exact (hgS x hx).1 hy
      · simp at hy
        have := (hgS x hx).2
        omega
  · refine ((ht.trans ht2 (fun y hy => Or.inl (List.mem_append_right _ hy)))).trans ht3 (fun y hy => ?_)
    rcases List.mem_append.1 hy with hy | hy
    · exact Or.inl (List.mem_append_left _ hy)
    · rcases hg' with ⟨e1, _⟩ | ⟨b, e1, e2⟩
      · rw [e1] at hy
        exact Or.inl (List.mem_append_right _ hy)
      · rw [e1] at hy
        simp at hy
        exact Or.inr (by omega)
def EPost (S : List Nat) (I : List (List Bool × Nat) → List Nat → World → Prop) (w : World) (g : Option Nat) (cap : Nat) (pre : List Bool) (L : List (List Bool × Nat)) (K : List Nat) (e : Ending) (w' : World) : Prop := e = .returned (.tuple #[]) ∧ ETo S I w g cap pre L K w'
/-- What is told behind k rounds. -/
def toldK (L : List (List Bool × Nat)) (a : Bool × Nat) (l r : Tr) (pre : List Bool) (k : Nat) : List (List Bool × Nat) := L ++ (if a.1 = true then [(pre, a.2)] else []) ++ (if 1 ≤ k then allT l (pre ++ [false]) else []) ++ (if 2 ≤ k then allT r (pre ++ [true]) else [])
theorem told0 (L : List (List Bool × Nat)) (a : Bool × Nat) (l r : Tr) (pre : List Bool) : toldK L a l r pre 0 = L ++ (if a.1 = true then [(pre, a.2)] else []) := by simp [toldK]
theorem told1 (L : List (List Bool × Nat)) (a : Bool × Nat) (l r : Tr) (pre : List Bool) : toldK L a l r pre 1 = toldK L a l r pre 0 ++ allT l (pre ++ [false]) := by simp [toldK]
theorem told2 (L : List (List Bool × Nat)) (a : Bool × Nat) (l r : Tr) (pre : List Bool) : toldK L a l r pre 2 = toldK L a l r pre 1 ++ allT r (pre ++ [true]) := by simp [toldK]
theorem toldE (L : List (List Bool × Nat)) (b o : Nat) (a : Bool × Nat) (l r : Tr) (pre : List Bool) : toldK L a l r pre 2 = L ++ allT (.node b o a l r) pre := by simp [toldK, allT]

set_option maxHeartbeats 8000000 in
set_option maxRecDepth 100000 in
theorem each_free (tb : Nat) {S : List Nat} {ok : List Bool → Nat → Prop} {I : List (List Bool × Nat) → List Nat → World → Prop}
    (hT : Teller S ok I (fun a b w Q => Calls Try.prog 44 #[a, b, .pointer (some ⟨tb, 0, none⟩)] w Q)) : ∀ (T : Tr) (w : World) (g : Option Nat) (cap : Nat) (pre : List Bool) (L : List (List Bool × Nat)) (K : List Nat), TrAt w T → (∀ x ∈ allT T pre, ok x.1 x.2) → I L K w → PRow w g cap pre →
      (∀ b, g = some b → b ∉ bsT T ∧ b ∉ K ∧ b ∉ S) → (∀ x ∈ S, x ∉ bsT T) → (∀ x ∈ S, x < w.heap.size) → pre.length + depT T ≤ 200 →
      Calls Try.prog 24 #[T.ptr, slV g pre.length cap, .func (.func 44) #[] #[.pointer (some ⟨tb, 0, none⟩)]] w (EPost S I w g cap pre (L ++ allT T pre) K) := by
  intro T
  induction T with
  | nil =>
    intro w g cap pre L K hA hok hI hP hg hS _ hd
    show Calls Try.prog 24 #[.pointer none, slV g pre.length cap, .func (.func 44) #[] #[.pointer (some ⟨tb, 0, none⟩)]] w _
    have HF : Hid (ETo S I w g cap pre (L ++ allT .nil pre) K w) := ⟨K, by simpa [allT] using hI, fun x hx => Or.inl hx, hP, Touch.refl _ _⟩
    clear hA hok hI hP hg hS hd hT
    unfold slV
    generalize (g.map fun b => (⟨b, 0, none⟩ : Addr)) = sg
    go_enter Try.func24, Try.ntmps24
    go_wp2
    exact bodyPost_ret (v := .tuple #[]) (by simp [results, Try.results24]) rfl ⟨rfl, HF.out⟩
  | node b o a l r ihl ihr =>
    intro w g cap pre L K hA hok hI hP hg hS hSw hd
    obtain ⟨rfl, hB, hAl, hAr⟩ := hA
    have hdl : depT (.node b 0 a l r) = 1 + max (depT l) (depT r) := rfl
    have c0 := hB.cell (i := 0) rfl
    have c1 := hB.cell (i := 1) rfl
    have c2 := hB.cell (i := 2) rfl
    have c3 := hB.cell (i := 3) rfl
    have hxa := idx82a
    have hxb := idx82b
    have HTT := toHid (And.intro hAl (And.intro hAr hB))
    have HG : Hid (∀ b, g = some b → b ∉ bsT l ∧ b ∉ bsT r ∧ b ∉ K ∧ b ∉ S ∧ b < w.heap.size) := fun b hb => by
      have h1 := hg b hb
      refine ⟨fun hx => h1.1 (by simp [bsT, hx]), fun hx => h1.1 (by simp [bsT, hx]), h1.2.1, h1.2.2, ?_⟩
      rw [hb] at hP
      exact hP.lt
    have HSS : Hid (∀ x ∈ S, x ∉ bsT l ∧ x ∉ bsT r ∧ x < w.heap.size) := fun x hx => ⟨fun hy => hS x hx (by simp [bsT, hy]), fun hy => hS x hx (by simp [bsT, hy]), hSw x hx⟩
    have HBS : Hid (b ∉ S) := fun hx => hS b hx (by simp [bsT])
    have HBG : Hid (∀ x, g = some x → b ≠ x) := fun x hx e => (hg x hx).1 (by simp [bsT, e])
    have HOK : Hid ((∀ x ∈ allT l (pre ++ [false]), ok x.1 x.2) ∧ (∀ x ∈ allT r (pre ++ [true]), ok x.1 x.2)) := ⟨fun x hx => hok x (by simp [allT, hx]), fun x hx => hok x (by simp [allT, hx])⟩
    have HIL := toHid ihl
    have HIR := toHid ihr
    rw [ptr_ad l] at c0
    rw [ptr_ad r] at c1
    have HPI := toHid (And.intro hI hP)
    show Calls Try.prog 24 #[.pointer (some ⟨b, 0, none⟩), slV g pre.length cap, .func (.func 44) #[] #[.pointer (some ⟨tb, 0, none⟩)]] w _
    unfold slV
    have HG0 : Hid (∃ sg, (g.map fun b => (⟨b, 0, none⟩ : Addr)) = sg) := ⟨_, rfl⟩
    generalize hsg0 : (g.map fun b => (⟨b, 0, none⟩ : Addr)) = sg at *
    clear HG0
    have HG0 := toHid hsg0
    obtain ⟨hb, s⟩ := a
    cases hb with
    | false =>
      have HI0 : Hid (ETo S I w g cap pre (toldK L (false, s) l r pre 0) K w) := by
        rw [told0]
        exact ⟨K, by simpa using HPI.out.1, fun x hx => Or.inl hx, HPI.out.2, Touch.refl _ _⟩
      clear hB hAl hAr hok hI hP hg hS hsg0 ihl ihr hSw
      go_enter Try.func24, Try.ntmps24
      go_wp2_with fail
      clear c0 c1 c2 c3
      go_loopw [25] (fun t wr => ∃ k : Nat, k ≤ 2 ∧ t = .int .i64 k ∧ Hid (ETo S I w g cap pre (toldK L (false, s) l r pre k) K wr)) (fun t _ => 2 - (intOf t).toNat)
      case atStart => exact ⟨0, by omega, rfl, HI0⟩
      case round =>
        clear HI0
        obtain ⟨k, hk, rfl, HI⟩ := hrel
        have : k = 0 ∨ k = 1 ∨ k = 2 := by omega
        rcases this with rfl | rfl | rfl
        · obtain ⟨K1, hI1, hK1, hR1, ht1⟩ := HI.out
          obtain ⟨g', cap', w2, hr, hP2, hPo, ht2, hg'⟩ := each_push hR1 false (by omega)
          have hrd := each_ready hT hI1 hK1 ht1 ht2 hg' HTT.out.1 (fun b hb => ⟨(HG.out b hb).1, (HG.out b hb).2.2⟩) (fun x hx => (HSS.out x hx).1) (fun x hx => (HSS.out x hx).2.2)
          have H1 := toHid ((HIL.out w2 g' cap' (pre ++ [false]) (toldK L (false, s) l r pre 0) K1 hrd.1 HOK.out.1 hrd.2.1 hP2 hrd.2.2 (fun x hx => (HSS.out x hx).1) (fun x hx => by have := (HSS.out x hx).2.2; have := ht1.size; have := ht2.size; omega) (by simp; omega)).mono (fun e w' h => (⟨h.1, by
            have h9 := each_next (w := w) hK1 ht1 ht2 hg' hPo (fun b hb => ⟨(HG.out b hb).2.2.2.1, (HG.out b hb).2.2.2.2⟩) h.2
            rw [← told1] at h9
            exact h9⟩ : e = .returned (.tuple #[]) ∧ ETo S I w g cap pre (toldK L (false, s) l r pre 1) K w')))
          have HRR := toHid hr
          rw [List.length_append] at H1
          unfold slV at HRR H1
          unfold bitV bI at HRR
          simp only [List.length_cons, List.length_nil, Nat.zero_add, ↓reduceIte, Bool.false_eq_true] at HRR H1
          clear hr hP2 hPo ht2 hg' hrd hI1 hK1 hR1 ht1
          rw [ptr_ad l] at H1
          generalize hsg : (g'.map fun b => (⟨b, 0, none⟩ : Addr)) = sg' at *
          rw [HG0.out] at HRR
          clear hsg
          go_wp2_with (at_builtin; refine Lib.wpList_append_run _ rfl _ _ _ _ rfl _ _ rfl rfl _ _ HRR.out ?_)
          refine Calls.mono H1.out ?_
          rintro e w3 ⟨rfl, hE⟩
          have HN := toHid hE
          clear hE H1 HRR
          go_wp2
          go_roundw
          case rel => exact ⟨1, by omega, rfl, HN⟩
          case measure => simp [intOf]
        · obtain ⟨K1, hI1, hK1, hR1, ht1⟩ := HI.out
          obtain ⟨g', cap', w2, hr, hP2, hPo, ht2, hg'⟩ := each_push hR1 true (by omega)
          have hrd := each_ready hT hI1 hK1 ht1 ht2 hg' HTT.out.2.1 (fun b hb => ⟨(HG.out b hb).2.1, (HG.out b hb).2.2⟩) (fun x hx => (HSS.out x hx).2.1) (fun x hx => (HSS.out x hx).2.2)
          have H1 := toHid ((HIR.out w2 g' cap' (pre ++ [true]) (toldK L (false, s) l r pre 1) K1 hrd.1 HOK.out.2 hrd.2.1 hP2 hrd.2.2 (fun x hx => (HSS.out x hx).2.1) (fun x hx => by have := (HSS.out x hx).2.2; have := ht1.size; have := ht2.size; omega) (by simp; omega)).mono (fun e w' h => (⟨h.1, by
            have h9 := each_next (w := w) hK1 ht1 ht2 hg' hPo (fun b hb => ⟨(HG.out b hb).2.2.2.1, (HG.out b hb).2.2.2.2⟩) h.2
            rw [← told2] at h9
            exact h9⟩ : e = .returned (.tuple #[]) ∧ ETo S I w g cap pre (toldK L (false, s) l r pre 2) K w')))
          have HRR := toHid hr
          rw [List.length_append] at H1
          unfold slV at HRR H1
          unfold bitV bI at HRR
          simp only [List.length_cons, List.length_nil, Nat.zero_add, ↓reduceIte] at HRR H1
          clear hr hP2 hPo ht2 hg' hrd hI1 hK1 hR1 ht1
          rw [ptr_ad r] at H1
          generalize hsg : (g'.map fun b => (⟨b, 0, none⟩ : Addr)) = sg' at *
          rw [HG0.out] at HRR
          clear hsg
          go_wp2_with (at_builtin; refine Lib.wpList_append_run _ rfl _ _ _ _ rfl _ _ rfl rfl _ _ HRR.out ?_)
          refine Calls.mono H1.out ?_
          rintro e w3 ⟨rfl, hE⟩
          have HN := toHid hE
          clear hE H1 HRR
          go_wp2
          go_roundw
          case rel => exact ⟨2, by omega, rfl, HN⟩
          case measure => simp [intOf]
        · have HF : Hid (ETo S I w g cap pre (L ++ allT (.node b 0 (false, s) l r) pre) K wr) := by
            have := HI.out
            rw [toldE L b 0] at this
            exact this
          go_wp2
          exact bodyPost_ret (v := .tuple #[]) (by simp [results, Try.results24]) rfl ⟨rfl, HF.out⟩

    | true =>
      have hcl := hT.call L K pre s sg cap w hI (by rw [← hsg0]; exact hP.path (by omega)) (hok (pre, s) (by simp [allT]))
      have H0 := toHid hcl
      clear hcl hB hAl hAr hok hI hP hg hS hsg0 ihl ihr hSw
      go_enter Try.func24, Try.ntmps24
      go_wp2_with fail
      refine Calls.mono H0.out ?_
      rintro e w1 ⟨rfl, K1, hI1, hK1, ht1⟩
      have hB1 := ht1.blk HTT.out.2.2 HBS.out
      have d0 := hB1.cell (i := 0) rfl
      have d1 := hB1.cell (i := 1) rfl
      rw [ptr_ad l] at d0
      rw [ptr_ad r] at d1
      have HI0 : Hid (ETo S I w g cap pre (toldK L (true, s) l r pre 0) K w1) := by
        rw [told0]
        exact ⟨K1, hI1, hK1, RowAt.touch HPI.out.2 ht1 (fun x hx => (HG.out x hx).2.2.2.1), ht1.mono (fun x hx => Or.inl (List.mem_append_left _ hx))⟩
      clear hI1 hK1 ht1 hB1 H0
      go_wp2_with fail
      clear c0 c1 c2 c3 d0 d1
      go_loopw [25] (fun t wr => ∃ k : Nat, k ≤ 2 ∧ t = .int .i64 k ∧ Hid (ETo S I w g cap pre (toldK L (true, s) l r pre k) K wr)) (fun t _ => 2 - (intOf t).toNat)
      case atStart => exact ⟨0, by omega, rfl, HI0⟩
      case round =>
        clear HI0
        obtain ⟨k, hk, rfl, HI⟩ := hrel
        have : k = 0 ∨ k = 1 ∨ k = 2 := by omega
        rcases this with rfl | rfl | rfl
        · obtain ⟨K1, hI1, hK1, hR1, ht1⟩ := HI.out
          obtain ⟨g', cap', w2, hr, hP2, hPo, ht2, hg'⟩ := each_push hR1 false (by omega)
          have hrd := each_ready hT hI1 hK1 ht1 ht2 hg' HTT.out.1 (fun b hb => ⟨(HG.out b hb).1, (HG.out b hb).2.2⟩) (fun x hx => (HSS.out x hx).1) (fun x hx => (HSS.out x hx).2.2)
          have H1 := toHid ((HIL.out w2 g' cap' (pre ++ [false]) (toldK L (true, s) l r pre 0) K1 hrd.1 HOK.out.1 hrd.2.1 hP2 hrd.2.2 (fun x hx => (HSS.out x hx).1) (fun x hx => by have := (HSS.out x hx).2.2; have := ht1.size; have := ht2.size; omega) (by simp; omega)).mono (fun e w' h => (⟨h.1, by
            have h9 := each_next (w := w) hK1 ht1 ht2 hg' hPo (fun b hb => ⟨(HG.out b hb).2.2.2.1, (HG.out b hb).2.2.2.2⟩) h.2
            rw [← told1] at h9
            exact h9⟩ : e = .returned (.tuple #[]) ∧ ETo S I w g cap pre (toldK L (true, s) l r pre 1) K w')))
          have HRR := toHid hr
          rw [List.length_append] at H1
          unfold slV at HRR H1
          unfold bitV bI at HRR
          simp only [List.length_cons, List.length_nil, Nat.zero_add, ↓reduceIte, Bool.false_eq_true] at HRR H1
          clear hr hP2 hPo ht2 hg' hrd hI1 hK1 hR1 ht1
          rw [ptr_ad l] at H1
          generalize hsg : (g'.map fun b => (⟨b, 0, none⟩ : Addr)) = sg' at *
          rw [HG0.out] at HRR
          clear hsg
          go_wp2_with (at_builtin; refine Lib.wpList_append_run _ rfl _ _ _ _ rfl _ _ rfl rfl _ _ HRR.out ?_)
          refine Calls.mono H1.out ?_
          rintro e w3 ⟨rfl, hE⟩
          have HN := toHid hE
          clear hE H1 HRR
          go_wp2
          go_roundw
          case rel => exact ⟨1, by omega, rfl, HN⟩
          case measure => simp [intOf]
        · obtain ⟨K1, hI1, hK1, hR1, ht1⟩ := HI.out
          obtain ⟨g', cap', w2, hr, hP2, hPo, ht2, hg'⟩ := each_push hR1 true (by omega)
          have hrd := each_ready hT hI1 hK1 ht1 ht2 hg' HTT.out.2.1 (fun b hb => ⟨(HG.out b hb).2.1, (HG.out b hb).2.2⟩) (fun x hx => (HSS.out x hx).2.1) (fun x hx => (HSS.out x hx).2.2)
          have H1 := toHid ((HIR.out w2 g' cap' (pre ++ [true]) (toldK L (true, s) l r pre 1) K1 hrd.1 HOK.out.2 hrd.2.1 hP2 hrd.2.2 (fun x hx => (HSS.out x hx).2.1) (fun x hx => by have := (HSS.out x hx).2.2; have := ht1.size; have := ht2.size; omega) (by simp; omega)).mono (fun e w' h => (⟨h.1, by
            have h9 := each_next (w := w) hK1 ht1 ht2 hg' hPo (fun b hb => ⟨(HG.out b hb).2.2.2.1, (HG.out b hb).2.2.2.2⟩) h.2
            rw [← told2] at h9
            exact h9⟩ : e = .returned (.tuple #[]) ∧ ETo S I w g cap pre (toldK L (true, s) l r pre 2) K w')))
          have HRR := toHid hr
          rw [List.length_append] at H1
          unfold slV at HRR H1
          unfold bitV bI at HRR
          simp only [List.length_cons, List.length_nil, Nat.zero_add, ↓reduceIte] at HRR H1
          clear hr hP2 hPo ht2 hg' hrd hI1 hK1 hR1 ht1
          rw [ptr_ad r] at H1
          generalize hsg : (g'.map fun b => (⟨b, 0, none⟩ : Addr)) = sg' at *
          rw [HG0.out] at HRR
          clear hsg
          go_wp2_with (at_builtin; refine Lib.wpList_append_run _ rfl _ _ _ _ rfl _ _ rfl rfl _ _ HRR.out ?_)
          refine Calls.mono H1.out ?_
          rintro e w3 ⟨rfl, hE⟩
          have HN := toHid hE
          clear hE H1 HRR
          go_wp2
          go_roundw
          case rel => exact ⟨2, by omega, rfl, HN⟩
          case measure => simp [intOf]
        · have HF : Hid (ETo S I w g cap pre (L ++ allT (.node b 0 (true, s) l r) pre) K wr) := by
            have := HI.out
            rw [toldE L b 0] at this
            exact this
          go_wp2
          exact bodyPost_ret (v := .tuple #[]) (by simp [results, Try.results24]) rfl ⟨rfl, HF.out⟩


set_option maxHeartbeats 8000000 in
set_option maxRecDepth 100000 in
theorem each_keys (xb tb : Nat) {S : List Nat} {ok : List Bool → Nat → Prop} {I : List (List Bool × Nat) → List Nat → World → Prop}
    (hT : Teller S ok I (fun a b w Q => Calls Try.prog 25 #[a, b, .pointer (some ⟨xb, 0, none⟩), .pointer (some ⟨tb, 0, none⟩)] w Q)) : ∀ (T : Tr) (w : World) (g : Option Nat) (cap : Nat) (pre : List Bool) (L : List (List Bool × Nat)) (K : List Nat), TrAt w T → (∀ x ∈ allT T pre, ok x.1 x.2) → I L K w → PRow w g cap pre →
      (∀ b, g = some b → b ∉ bsT T ∧ b ∉ K ∧ b ∉ S) → (∀ x ∈ S, x ∉ bsT T) → (∀ x ∈ S, x < w.heap.size) → pre.length + depT T ≤ 200 →
      Calls Try.prog 24 #[T.ptr, slV g pre.length cap, .func (.func 25) #[] #[.pointer (some ⟨xb, 0, none⟩), .pointer (some ⟨tb, 0, none⟩)]] w (EPost S I w g cap pre (L ++ allT T pre) K) := by
  intro T
  induction T with
  | nil =>
    intro w g cap pre L K hA hok hI hP hg hS _ hd
    show Calls Try.prog 24 #[.pointer none, slV g pre.length cap, .func (.func 25) #[] #[.pointer (some ⟨xb, 0, none⟩), .pointer (some ⟨tb, 0, none⟩)]] w _
    have HF : Hid (ETo S I w g cap pre (L ++ allT .nil pre) K w) := ⟨K, by simpa [allT] using hI, fun x hx => Or.inl hx, hP, Touch.refl _ _⟩
    clear hA hok hI hP hg hS hd hT
    unfold slV
    generalize (g.map fun b => (⟨b, 0, none⟩ : Addr)) = sg
    go_enter Try.func24, Try.ntmps24
    go_wp2
    exact bodyPost_ret (v := .tuple #[]) (by simp [results, Try.results24]) rfl ⟨rfl, HF.out⟩
  | node b o a l r ihl ihr =>
    intro w g cap pre L K hA hok hI hP hg hS hSw hd
    obtain ⟨rfl, hB, hAl, hAr⟩ := hA
    have hdl : depT (.node b 0 a l r) = 1 + max (depT l) (depT r) := rfl
    have c0 := hB.cell (i := 0) rfl
    have c1 := hB.cell (i := 1) rfl
    have c2 := hB.cell (i := 2) rfl
    have c3 := hB.cell (i := 3) rfl
    have hxa := idx82a
    have hxb := idx82b
    have HTT := toHid (And.intro hAl (And.intro hAr hB))
    have HG : Hid (∀ b, g = some b → b ∉ bsT l ∧ b ∉ bsT r ∧ b ∉ K ∧ b ∉ S ∧ b < w.heap.size) := fun b hb => by
      have h1 := hg b hb
      refine ⟨fun hx => h1.1 (by simp [bsT, hx]), fun hx => h1.1 (by simp [bsT, hx]), h1.2.1, h1.2.2, ?_⟩
      rw [hb] at hP
      exact hP.lt
    have HSS : Hid (∀ x ∈ S, x ∉ bsT l ∧ x ∉ bsT r ∧ x < w.heap.size) := fun x hx => ⟨fun hy => hS x hx (by simp [bsT, hy]), fun hy => hS x hx (by simp [bsT, hy]), hSw x hx⟩
    have HBS : Hid (b ∉ S) := fun hx => hS b hx (by simp [bsT])
    have HBG : Hid (∀ x, g = some x → b ≠ x) := fun x hx e => (hg x hx).1 (by simp [bsT, e])
    have HOK : Hid ((∀ x ∈ allT l (pre ++ [false]), ok x.1 x.2) ∧ (∀ x ∈ allT r (pre ++ [true]), ok x.1 x.2)) := ⟨fun x hx => hok x (by simp [allT, hx]), fun x hx => hok x (by simp [allT, hx])⟩
    have HIL := toHid ihl
    have HIR := toHid ihr
    rw [ptr_ad l] at c0
    rw [ptr_ad r] at c1
    have HPI := toHid (And.intro hI hP)
    show Calls Try.prog 24 #[.pointer (some ⟨b, 0, none⟩), slV g pre.length cap, .func (.func 25) #[] #[.pointer (some ⟨xb, 0, none⟩), .pointer (some ⟨tb, 0, none⟩)]] w _
    unfold slV
    have HG0 : Hid (∃ sg, (g.map fun b => (⟨b, 0, none⟩ : Addr)) = sg) := ⟨_, rfl⟩
    generalize hsg0 : (g.map fun b => (⟨b, 0, none⟩ : Addr)) = sg at *
    clear HG0
    have HG0 := toHid hsg0
    obtain ⟨hb, s⟩ := a
    cases hb with
    | false =>
      have HI0 : Hid (ETo S I w g cap pre (toldK L (false, s) l r pre 0) K w) := by
        rw [told0]
        exact ⟨K, by simpa using HPI.out.1, fun x hx => Or.inl hx, HPI.out.2, Touch.refl _ _⟩
      clear hB hAl hAr hok hI hP hg hS hsg0 ihl ihr hSw
      go_enter Try.func24, Try.ntmps24
      go_wp2_with fail
      clear c0 c1 c2 c3
      go_loopw [25] (fun t wr => ∃ k : Nat, k ≤ 2 ∧ t = .int .i64 k ∧ Hid (ETo S I w g cap pre (toldK L (false, s) l r pre k) K wr)) (fun t _ => 2 - (intOf t).toNat)
      case atStart => exact ⟨0, by omega, rfl, HI0⟩
      case round =>
        clear HI0
        obtain ⟨k, hk, rfl, HI⟩ := hrel
        have : k = 0 ∨ k = 1 ∨ k = 2 := by omega
        rcases this with rfl | rfl | rfl
        · obtain ⟨K1, hI1, hK1, hR1, ht1⟩ := HI.out
          obtain ⟨g', cap', w2, hr, hP2, hPo, ht2, hg'⟩ := each_push hR1 false (by omega)
          have hrd := each_ready hT hI1 hK1 ht1 ht2 hg' HTT.out.1 (fun b hb => ⟨(HG.out b hb).1, (HG.out b hb).2.2⟩) (fun x hx => (HSS.out x hx).1) (fun x hx => (HSS.out x hx).2.2)
          have H1 := toHid ((HIL.out w2 g' cap' (pre ++ [false]) (toldK L (false, s) l r pre 0) K1 hrd.1 HOK.out.1 hrd.2.1 hP2 hrd.2.2 (fun x hx => (HSS.out x hx).1) (fun x hx => by have := (HSS.out x hx).2.2; have := ht1.size; have := ht2.size; omega) (by simp; omega)).mono (fun e w' h => (⟨h.1, by
            have h9 := each_next (w := w) hK1 ht1 ht2 hg' hPo (fun b hb => ⟨(HG.out b hb).2.2.2.1, (HG.out b hb).2.2.2.2⟩) h.2
            rw [← told1] at h9
            exact h9⟩ : e = .returned (.tuple #[]) ∧ ETo S I w g cap pre (toldK L (false, s) l r pre 1) K w')))
          have HRR := toHid hr
          rw [List.length_append] at H1
          unfold slV at HRR H1
          unfold bitV bI at HRR
          simp only [List.length_cons, List.length_nil, Nat.zero_add, ↓reduceIte, Bool.false_eq_true] at HRR H1
          clear hr hP2 hPo ht2 hg' hrd hI1 hK1 hR1 ht1
          rw [ptr_ad l] at H1
          generalize hsg : (g'.map fun b => (⟨b, 0, none⟩ : Addr)) = sg' at *
          rw [HG0.out] at HRR
          clear hsg
          go_wp2_with (at_builtin; refine Lib.wpList_append_run _ rfl _ _ _ _ rfl _ _ rfl rfl _ _ HRR.out ?_)
          refine Calls.mono H1.out ?_
          rintro e w3 ⟨rfl, hE⟩
          have HN := toHid hE
          clear hE H1 HRR
          go_wp2
          go_roundw
          case rel => exact ⟨1, by omega, rfl, HN⟩
          case measure => simp [intOf]
        · obtain ⟨K1, hI1, hK1, hR1, ht1⟩ := HI.out
          obtain ⟨g', cap', w2, hr, hP2, hPo, ht2, hg'⟩ := each_push hR1 true (by omega)
          have hrd := each_ready hT hI1 hK1 ht1 ht2 hg' HTT.out.2.1 (fun b hb => ⟨(HG.out b hb).2.1, (HG.out b hb).2.2⟩) (fun x hx => (HSS.out x hx).2.1) (fun x hx => (HSS.out x hx).2.2)
          have H1 := toHid ((HIR.out w2 g' cap' (pre ++ [true]) (toldK L (false, s) l r pre 1) K1 hrd.1 HOK.out.2 hrd.2.1 hP2 hrd.2.2 (fun x hx => (HSS.out x hx).2.1) (fun x hx => by have := (HSS.out x hx).2.2; have := ht1.size; have := ht2.size; omega) (by simp; omega)).mono (fun e w' h => (⟨h.1, by
            have h9 := each_next (w := w) hK1 ht1 ht2 hg' hPo (fun b hb => ⟨(HG.out b hb).2.2.2.1, (HG.out b hb).2.2.2.2⟩) h.2
            rw [← told2] at h9
            exact h9⟩ : e = .returned (.tuple #[]) ∧ ETo S I w g cap pre (toldK L (false, s) l r pre 2) K w')))
          have HRR := toHid hr
          rw [List.length_append] at H1
          unfold slV at HRR H1
          unfold bitV bI at HRR
          simp only [List.length_cons, List.length_nil, Nat.zero_add, ↓reduceIte] at HRR H1
          clear hr hP2 hPo ht2 hg' hrd hI1 hK1 hR1 ht1
          rw [ptr_ad r] at H1
          generalize hsg : (g'.map fun b => (⟨b, 0, none⟩ : Addr)) = sg' at *
          rw [HG0.out] at HRR
          clear hsg
          go_wp2_with (at_builtin; refine Lib.wpList_append_run _ rfl _ _ _ _ rfl _ _ rfl rfl _ _ HRR.out ?_)
          refine Calls.mono H1.out ?_
          rintro e w3 ⟨rfl, hE⟩
          have HN := toHid hE
          clear hE H1 HRR
          go_wp2
          go_roundw
          case rel => exact ⟨2, by omega, rfl, HN⟩
          case measure => simp [intOf]
        · have HF : Hid (ETo S I w g cap pre (L ++ allT (.node b 0 (false, s) l r) pre) K wr) := by
            have := HI.out
            rw [toldE L b 0] at this
            exact this
          go_wp2
          exact bodyPost_ret (v := .tuple #[]) (by simp [results, Try.results24]) rfl ⟨rfl, HF.out⟩

    | true =>
      have hcl := hT.call L K pre s sg cap w hI (by rw [← hsg0]; exact hP.path (by omega)) (hok (pre, s) (by simp [allT]))
      have H0 := toHid hcl
      clear hcl hB hAl hAr hok hI hP hg hS hsg0 ihl ihr hSw
      go_enter Try.func24, Try.ntmps24
      go_wp2_with fail
      refine Calls.mono H0.out ?_
      rintro e w1 ⟨rfl, K1, hI1, hK1, ht1⟩
      have hB1 := ht1.blk HTT.out.2.2 HBS.out
      have d0 := hB1.cell (i := 0) rfl
      have d1 := hB1.cell (i := 1) rfl
      rw [ptr_ad l] at d0
      rw [ptr_ad r] at d1
      have HI0 : Hid (ETo S I w g cap pre (toldK L (true, s) l r pre 0) K w1) := by
        rw [told0]
        exact ⟨K1, hI1, hK1, RowAt.touch HPI.out.2 ht1 (fun x hx => (HG.out x hx).2.2.2.1), ht1.mono (fun x hx => Or.inl (List.mem_append_left _ hx))⟩
      clear hI1 hK1 ht1 hB1 H0
      go_wp2_with fail
      clear c0 c1 c2 c3 d0 d1
      go_loopw [25] (fun t wr => ∃ k : Nat, k ≤ 2 ∧ t = .int .i64 k ∧ Hid (ETo S I w g cap pre (toldK L (true, s) l r pre k) K wr)) (fun t _ => 2 - (intOf t).toNat)
      case atStart => exact ⟨0, by omega, rfl, HI0⟩
      case round =>
        clear HI0
        obtain ⟨k, hk, rfl, HI⟩ := hrel
        have : k = 0 ∨ k = 1 ∨ k = 2 := by omega
        rcases this with rfl | rfl | rfl
        · obtain ⟨K1, hI1, hK1, hR1, ht1⟩ := HI.out
          obtain ⟨g', cap', w2, hr, hP2, hPo, ht2, hg'⟩ := each_push hR1 false (by omega)
          have hrd := each_ready hT hI1 hK1 ht1 ht2 hg' HTT.out.1 (fun b hb => ⟨(HG.out b hb).1, (HG.out b hb).2.2⟩) (fun x hx => (HSS.out x hx).1) (fun x hx => (HSS.out x hx).2.2)
          have H1 := toHid ((HIL.out w2 g' cap' (pre ++ [false]) (toldK L (true, s) l r pre 0) K1 hrd.1 HOK.out.1 hrd.2.1 hP2 hrd.2.2 (fun x hx => (HSS.out x hx).1) (fun x hx => by have := (HSS.out x hx).2.2; have := ht1.size; have := ht2.size; omega) (by simp; omega)).mono (fun e w' h => (⟨h.1, by
            have h9 := each_next (w := w) hK1 ht1 ht2 hg' hPo (fun b hb => ⟨(HG.out b hb).2.2.2.1, (HG.out b hb).2.2.2.2⟩) h.2
            rw [← told1] at h9
            exact h9⟩ : e = .returned (.tuple #[]) ∧ ETo S I w g cap pre (toldK L (true, s) l r pre 1) K w')))
          have HRR := toHid hr
          rw [List.length_append] at H1
          unfold slV at HRR H1
          unfold bitV bI at HRR
          simp only [List.length_cons, List.length_nil, Nat.zero_add, ↓reduceIte, Bool.false_eq_true] at HRR H1
          clear hr hP2 hPo ht2 hg' hrd hI1 hK1 hR1 ht1
          rw [ptr_ad l] at H1
          generalize hsg : (g'.map fun b => (⟨b, 0, none⟩ : Addr)) = sg' at *
          rw [HG0.out] at HRR
          clear hsg
          go_wp2_with (at_builtin; refine Lib.wpList_append_run _ rfl _ _ _ _ rfl _ _ rfl rfl _ _ HRR.out ?_)
          refine Calls.mono H1.out ?_
          rintro e w3 ⟨rfl, hE⟩
          have HN := toHid hE
          clear hE H1 HRR
          go_wp2
          go_roundw
          case rel => exact ⟨1, by omega, rfl, HN⟩
          case measure => simp [intOf]
        · obtain ⟨K1, hI1, hK1, hR1, ht1⟩ := HI.out
          obtain ⟨g', cap', w2, hr, hP2, hPo, ht2, hg'⟩ := each_push hR1 true (by omega)
          have hrd := each_ready hT hI1 hK1 ht1 ht2 hg' HTT.out.2.1 (fun b hb => ⟨(HG.out b hb).2.1, (HG.out b hb).2.2⟩) (fun x hx => (HSS.out x hx).2.1) (fun x hx => (HSS.out x hx).2.2)
          have H1 := toHid ((HIR.out w2 g' cap' (pre ++ [true]) (toldK L (true, s) l r pre 1) K1 hrd.1 HOK.out.2 hrd.2.1 hP2 hrd.2.2 (fun x hx => (HSS.out x hx).2.1) (fun x hx => by have := (HSS.out x hx).2.2; have := ht1.size; have := ht2.size; omega) (by simp; omega)).mono (fun e w' h => (⟨h.1, by
            have h9 := each_next (w := w) hK1 ht1 ht2 hg' hPo (fun b hb => ⟨(HG.out b hb).2.2.2.1, (HG.out b hb).2.2.2.2⟩) h.2
            rw [← told2] at h9
            exact h9⟩ : e = .returned (.tuple #[]) ∧ ETo S I w g cap pre (toldK L (true, s) l r pre 2) K w')))
          have HRR := toHid hr
          rw [List.length_append] at H1
          unfold slV at HRR H1
          unfold bitV bI at HRR
          simp only [List.length_cons, List.length_nil, Nat.zero_add, ↓reduceIte] at HRR H1
          clear hr hP2 hPo ht2 hg' hrd hI1 hK1 hR1 ht1
          rw [ptr_ad r] at H1
          generalize hsg : (g'.map fun b => (⟨b, 0, none⟩ : Addr)) = sg' at *
          rw [HG0.out] at HRR
          clear hsg
          go_wp2_with (at_builtin; refine Lib.wpList_append_run _ rfl _ _ _ _ rfl _ _ rfl rfl _ _ HRR.out ?_)
          refine Calls.mono H1.out ?_
          rintro e w3 ⟨rfl, hE⟩
          have HN := toHid hE
          clear hE H1 HRR
          go_wp2
          go_roundw
          case rel => exact ⟨2, by omega, rfl, HN⟩
          case measure => simp [intOf]
        · have HF : Hid (ETo S I w g cap pre (L ++ allT (.node b 0 (true, s) l r) pre) K wr) := by
            have := HI.out
            rw [toldE L b 0] at this
            exact this
          go_wp2
          exact bodyPost_ret (v := .tuple #[]) (by simp [results, Try.results24]) rfl ⟨rfl, HF.out⟩

end Go.Proofs.Ytlkbaconlngmjaa
