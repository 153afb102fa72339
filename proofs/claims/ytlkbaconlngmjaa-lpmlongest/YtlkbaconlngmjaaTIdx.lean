/-
  Package lpm: the index in memory; the least slot that is free.
-/
import Derived.Test.YtlkbaconlngmjaaTEach
import Derived.Test.YtlkbaconlngmjaaTTied
namespace Go.Proofs.Ytlkbaconlngmjaa
open Go.RowKit Go.Deep

/-- An index: where it lies, how wide its keys, how many, its tree, what the document's slots are. -/
structure TX where
  X : Nat
  n : Nat
  m : Nat
  T : Tr
  l : List (Option (List Int))
structure IAt (w : World) (x : TX) : Prop where
  self : Blk w x.X [.int .i64 (x.n : Int), .int .i64 (x.m : Int), x.T.ptr] 58
  tree : TrAt w x.T
  ok : okT x.T
  nd : (bsT x.T).Nodup
  out : x.X ∉ bsT x.T
  dep : depT x.T ≤ 8 * x.n + 1
  n1 : 1 ≤ x.n
  n12 : x.n ≤ 12
  m1 : 1 ≤ x.m
  m64 : x.m ≤ 64
  len : x.l.length = x.m
  tied : TiedT x.n x.T x.l
def TX.own (x : TX) : List Nat := x.X :: bsT x.T
theorem IAt.touch {S : List Nat} {w w' : World} {x : TX} (h : IAt w x) (ht : Touch S w w') (hn : ∀ y ∈ x.own, y ∉ S) : IAt w' x :=
  ⟨ht.blk h.self (hn _ (by simp [TX.own])), h.tree.touch ht (fun y hy => hn y (by simp [TX.own, hy])), h.ok, h.nd, h.out, h.dep, h.n1, h.n12, h.m1, h.m64, h.len, h.tied⟩
theorem IAt.still {w w' : World} {x : TX} (h : IAt w x) (ht : Touch [] w w') : IAt w' x := h.touch ht (by simp)
theorem IAt.lt {w : World} {x : TX} (h : IAt w x) : ∀ y ∈ x.own, y < w.heap.size := fun y hy => by
  simp only [TX.own, List.mem_cons] at hy
  rcases hy with rfl | hy
  · exact h.self.lt
  · exact h.tree.lt y hy
theorem IAt.c0 {w : World} {x : TX} (h : IAt w x) : w.cell? ⟨x.X, 0, none⟩ = some (.int .i64 (x.n : Int)) := h.self.cell rfl
theorem IAt.c1 {w : World} {x : TX} (h : IAt w x) : w.cell? ⟨x.X, 1, none⟩ = some (.int .i64 (x.m : Int)) := h.self.cell rfl
theorem IAt.c2 {w : World} {x : TX} (h : IAt w x) : w.cell? ⟨x.X, 2, none⟩ = some (.pointer (adT x.T)) := by rw [← ptr_ad]; exact h.self.cell rfl
theorem IAt.slot {w : World} {x : TX} (h : IAt w x) {p : List Bool} {s : Nat} (hs : atT x.T p = some s) : s < 64 ∧ p.length ≤ 8 * x.n := by
  have h1 := h.tied.lt hs
  have h2 := h.len
  have h3 := h.m64
  exact ⟨by omega, h.tied.len hs⟩

/-- Which slots are taken. -/
def takenL (L : List (List Bool × Nat)) (i : Nat) : Bool := L.any fun x => x.2 == i
def takenRow (L : List (List Bool × Nat)) : List Value := (List.range 64).map fun i => .bool (takenL L i)
def FreeI (tb : Nat) (L : List (List Bool × Nat)) (K : List Nat) (w : World) : Prop := K = [tb] ∧ Blk w tb (takenRow L) 89
theorem taken_set (L : List (List Bool × Nat)) (pre : List Bool) {s : Nat} (hs : s < 64) : takenRow (L ++ [(pre, s)]) = (takenRow L).set s (.bool true) := by
  refine List.ext_getElem? fun i => ?_
  rw [List.getElem?_set]
  unfold takenRow
  rw [List.length_map, List.length_range, List.getElem?_map, List.getElem?_map]
  by_cases hi : s = i
  · rw [if_pos hi, if_pos hs, ← hi, List.getElem?_range hs]
    simp [takenL]
  · rw [if_neg hi]
    by_cases h64 : i < 64
    · rw [List.getElem?_range h64]
      have : (s == i) = false := by simpa using hi
      simp [takenL, this]
    · rw [List.getElem?_eq_none (by simpa using h64)]
      rfl
theorem taken_cell {w : World} {tb : Nat} {L : List (List Bool × Nat)} {t : TypeId} (h : Blk w tb (takenRow L) t) {s : Nat} (hs : s < 64) : w.cell? ⟨tb, s, none⟩ = some (.bool (takenL L s)) := by
  refine h.cell ?_
  unfold takenRow
  rw [List.getElem?_map, List.getElem?_range hs]
  rfl
set_option maxHeartbeats 1000000 in
set_option maxRecDepth 100000 in
theorem free_teller (tb : Nat) : Teller [tb] (fun _ s => s < 64) (FreeI tb) (fun a b w Q => Calls Try.prog 44 #[a, b, .pointer (some ⟨tb, 0, none⟩)] w Q) where
  call := by
    intro L K pre s sa cap w hI hP hs
    obtain ⟨rfl, hB⟩ := hI
    have hs : s < 64 := hs
    have c0 := taken_cell hB hs
    have f0 := hB.frozen s
    have hs2 : (s : Int) < 64 := by omega
    have HF : Hid (∃ K', FreeI tb (L ++ [(pre, s)]) K' (w.setCell ⟨tb, s, none⟩ (.bool true)) ∧ (∀ x ∈ K', x ∈ [tb] ∨ w.heap.size ≤ x) ∧ Touch [tb] w (w.setCell ⟨tb, s, none⟩ (.bool true))) :=
      ⟨[tb], ⟨rfl, by rw [taken_set L pre hs]; exact hB.setCell s (.bool true)⟩, fun x hx => Or.inl hx, (Touch.refl _ w).setCell _ _ (Or.inl (by simp))⟩
    generalize takenL L s = ts at *
    clear hB hP
    show Calls Try.prog 44 #[.slice sa pre.length cap, .int .i64 (s : Int), .pointer (some ⟨tb, 0, none⟩)] w _
    go_enter Try.func44, Try.ntmps44
    go_wp2
    go_end0
    exact ⟨rfl, HF.out⟩
  still := by
    intro L K w w' G hI ht hG
    obtain ⟨rfl, hB⟩ := hI
    exact ⟨rfl, ht.blk hB (fun hx => hG tb hx (by simp))⟩
  lt := by
    intro L K w hI x hx
    obtain ⟨rfl, hB⟩ := hI
    simp at hx
    subst hx
    exact hB.lt
theorem free_from {l : List (Option (List Int))} {k : Nat} (h1 : ∀ j, j < k → l.getD j none ≠ none) (hk : k < l.length) (h2 : l.getD k none = none) : freeP l = some k := by
  unfold freeP
  rw [List.findIdx?_eq_some_iff_getElem]
  refine ⟨hk, ?_, fun j hj => ?_⟩
  · rw [List.getD_eq_getElem?_getD, List.getElem?_eq_getElem hk] at h2
    simpa using h2
  · have := h1 j hj
    rw [List.getD_eq_getElem?_getD, List.getElem?_eq_getElem (by omega)] at this
    simpa using this
theorem free_none {l : List (Option (List Int))} (h1 : ∀ j, j < l.length → l.getD j none ≠ none) : freeP l = none := by
  unfold freeP
  rw [List.findIdx?_eq_none_iff]
  intro x hx
  obtain ⟨j, hj, rfl⟩ := List.getElem_of_mem hx
  have := h1 j hj
  rw [List.getD_eq_getElem?_getD, List.getElem?_eq_getElem hj] at this
  cases hv : l[j] with
  | none => rw [hv] at this; exact absurd rfl this
  | some y => rfl
/-- What each tells of is just what the slots hold. -/
theorem IAt.taken {w : World} {x : TX} (h : IAt w x) {j : Nat} (hj : j < x.m) : takenL (allT x.T []) j = true ↔ x.l.getD j none ≠ none := by
  have hjl : j < x.l.length := by rw [h.len]; exact hj
  rw [List.getD_eq_getElem?_getD, List.getElem?_eq_getElem hjl]
  unfold takenL
  rw [List.any_eq_true]
  constructor
  · rintro ⟨y, hy, he⟩ hn
    obtain ⟨q, _, h2⟩ := (mem_allT x.T [] y).1 hy
    have he : y.2 = j := by simpa using he
    rw [he] at h2
    have h3 := ((h.tied.at_ q j).1 h2).2
    rw [List.getElem?_eq_getElem hjl] at h3
    simp only [Option.getD_some] at hn
    rw [hn] at h3
    cases h3
  · intro hn
    cases hv : x.l[j] with
    | none => rw [hv] at hn; exact absurd rfl hn
    | some bs =>
      obtain ⟨p, hp, rfl⟩ := h.tied.form bs (by rw [← hv]; exact List.getElem_mem hjl)
      have h2 := (h.tied.at_ p j).2 ⟨hp, by rw [List.getElem?_eq_getElem hjl, hv]⟩
      exact ⟨(p, j), (mem_allT x.T [] (p, j)).2 ⟨p, rfl, h2⟩, by simp⟩
set_option maxHeartbeats 2000000 in
set_option maxRecDepth 100000 in
theorem free_any {w : World} {x : TX} (h : IAt w x) : Calls Try.prog 40 #[.pointer (some ⟨x.X, 0, none⟩)] w fun e w' => e = .returned (fV (freeP x.l)) ∧ Touch [] w w' := by
  have HTA : Hid (∀ o, Touch [] w (w.alloc o)) := fun o => (Touch.refl [] w).alloc o
  have HH := toHid h
  have c2 : ∀ o, (w.alloc o).cell? ⟨x.X, 2, none⟩ = some (.pointer (adT x.T)) := fun o => (h.still ((Touch.refl [] w).alloc o)).c2
  clear h
  go_enter Try.func40, Try.ntmps40
  go_wp2_with fail
  generalize hw1 : w.alloc _ = w1
  have hB : Blk w1 w.heap.size (takenRow []) 89 := by rw [← hw1]; exact Blk.newA w _ _ 89 (by rfl)
  have ht1 : Touch [] w w1 := by rw [← hw1]; exact HTA.out _
  have hx1 := HH.out.still ht1
  have hXN : w.heap.size ∉ bsT x.T := fun hx => by have := HH.out.tree.lt _ hx; omega
  have H1 := each_free w.heap.size (free_teller w.heap.size) x.T w1 none 0 [] [] [w.heap.size] hx1.tree (fun y hy => by
      obtain ⟨q, _, h2⟩ := (mem_allT x.T [] y).1 hy
      exact (hx1.slot h2).1) ⟨rfl, hB⟩ ⟨rfl, Nat.le_refl _, by unfold maxLen; omega, rfl⟩ (fun b hb => by cases hb) (fun y hy => by simp at hy; subst hy; exact hXN) (fun y hy => by simp at hy; subst hy; exact hB.lt) (by have := hx1.dep; have := hx1.n12; simp; omega)
  rw [ptr_ad x.T, List.nil_append] at H1
  have H2 := toHid H1
  have HX := toHid hx1
  clear hw1 c2 HTA hB H1 hx1
  refine Calls.mono H2.out ?_
  rintro e w2 ⟨rfl, K', hI, _, _, ht2⟩
  have hx2 := HX.out.touch ht2 (fun y hy hx => by
    simp at hx
    subst hx
    simp only [TX.own, List.mem_cons] at hy
    rcases hy with hy | hy
    · have := HH.out.self.lt; omega
    · exact hXN hy)
  have c1 := hx2.c1
  have HB := toHid hI.2
  have HT2 : Hid (Touch [] w w2) := ht1.trans ht2 (fun y hy => Or.inr (by simp at hy; omega))
  have hmx := HH.out.m64
  have hml := HH.out.len
  generalize hM : x.m = M at *
  have HX2 := toHid hx2
  clear hx2 hI ht2 ht1 HX H2
  go_wp2_with fail
  clear c1
  go_loop [16] (fun t => ∃ k : Nat, k ≤ M ∧ t = .int .i64 k ∧ Hid (∀ j, j < k → x.l.getD j none ≠ none)) (fun t => M - (intOf t).toNat)
  case atStart => exact ⟨0, by omega, rfl, fun j hj => absurd hj (by omega)⟩
  case round =>
    obtain ⟨k, hk, rfl, HI⟩ := hrel
    by_cases hlt : k < M
    · have hk64 : k < 64 := by omega
      have hki : (k : Int) < 64 := by omega
      have c0 := taken_cell HB.out hk64
      have htk := HX2.out.taken (j := k) (by rw [hM]; exact hlt)
      cases htv : takenL (allT x.T []) k with
      | false =>
        have hnone : x.l.getD k none = none := by
          cases hv : x.l.getD k none with
          | none => rfl
          | some y =>
            have := htk.2 (by rw [hv]; simp)
            rw [htv] at this
            cases this
        have HR := toHid (free_from HI.out (by rw [hml]; exact hlt) hnone)
        rw [htv] at c0
        clear htk htv hnone
        go_wp2
        go_ret2
        refine ⟨?_, HT2.out⟩
        rw [HR.out]
        rfl
      | true =>
        have HN : Hid (∀ j, j < k + 1 → x.l.getD j none ≠ none) := fun j hj => by
          by_cases hjk : j < k
          · exact HI.out j hjk
          · obtain rfl : j = k := by omega
            exact htk.1 htv
        rw [htv] at c0
        clear htk htv
        go_wp2
        exact ⟨⟨k + 1, by omega, by go_num, HN⟩, by simp [intOf]; omega⟩
    · obtain rfl : k = M := by omega
      have HR := toHid (free_none (fun j hj => HI.out j (by rw [← hml]; exact hj)))
      go_wp2
      go_ret2
      refine ⟨?_, HT2.out⟩
      rw [HR.out]
      rfl
end Go.Proofs.Ytlkbaconlngmjaa
