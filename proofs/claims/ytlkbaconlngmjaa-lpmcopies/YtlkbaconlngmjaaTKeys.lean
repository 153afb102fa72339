/-
  Package lpm: Keys.
-/
import Derived.Test.YtlkbaconlngmjaaTIdx
import Derived.Deep.WholeRow
namespace Go.Proofs.Ytlkbaconlngmjaa
open Go.RowKit Go.Deep

/-- What Keys has been told of so far: a row of keys by their slots. -/
structure KeysI (w0 : World) (xb tb X n : Nat) (L : List (List Bool × Nat)) (K : List Nat) (w : World) : Prop where
  row : ∃ ks : List (Option KS), ks.length = 64 ∧ Blk w tb (ks.map slotV) 67 ∧ (∀ k, some k ∈ ks → k.At w ∧ k.b ∈ K ∧ w0.heap.size ≤ k.b ∧ k.b ≠ tb) ∧
    ∀ i, i < 64 → match ks.getD i none with
      | none => takenL L i = false
      | some k => ∃ p, (p, i) ∈ L ∧ k.bs = keyP p n
  self : w.cell? ⟨xb, 0, none⟩ = some (.pointer (some ⟨X, 0, none⟩)) ∧ w.cell? ⟨X, 0, none⟩ = some (.int .i64 (n : Int))
  mem : tb ∈ K ∧ xb ∈ K ∧ X ∈ K
  lt : ∀ y ∈ K, y < w.heap.size
  up : w0.heap.size ≤ w.heap.size
  ne : xb ≠ tb ∧ X ≠ tb
theorem KeysI.still {w0 w w' : World} {xb tb X n : Nat} {L : List (List Bool × Nat)} {K G : List Nat} (h : KeysI w0 xb tb X n L K w) (ht : Touch G w w') (hG : ∀ y ∈ G, y ∉ K) : KeysI w0 xb tb X n L K w' := by
  obtain ⟨⟨ks, h1, h2, h3, h4⟩, h5, h6, h7, h8, h9⟩ := h
  have hsz := ht.size
  refine ⟨⟨ks, h1, ht.blk h2 (fun hx => hG _ hx h6.1), fun k hk => ?_, h4⟩, ⟨ht.cell h5.1 (fun hx => hG _ hx h6.2.1), ht.cell h5.2 (fun hx => hG _ hx h6.2.2)⟩, h6, fun y hy => by have := h7 y hy; omega, by omega, h9⟩
  obtain ⟨a1, a2, a3, a4⟩ := h3 k hk
  exact ⟨a1.touch ht (fun hx => hG _ hx a2), a2, a3, a4⟩
theorem KeysI.step {w0 w w2 : World} {xb tb X n : Nat} {L : List (List Bool × Nat)} {K : List Nat} (h : KeysI w0 xb tb X n L K w) {pre : List Bool} {s : Nat} (hs : s < 64) (_hp : pre.length ≤ 8 * n) (hn : n ≤ 12) (hB : Blk w2 w.heap.size ((keyP pre n).map (Value.int .u8)) 5) (ht : Touch [] w w2) :
    KeysI w0 xb tb X n (L ++ [(pre, s)]) (w.heap.size :: K) (w2.setCell ⟨tb, s, none⟩ (.slice (some ⟨w.heap.size, 0, none⟩) (n + 4) (n + 4))) := by
  have h2 := h.still ht (by simp)
  have htb := h.lt tb h.mem.1
  obtain ⟨⟨ks, b1, b2, b3, b4⟩, b5, b6, b7, b8, b9⟩ := h2
  have hsz := ht.size
  have hN := hB.lt
  have hts : Touch [tb] w2 (w2.setCell ⟨tb, s, none⟩ (.slice (some ⟨w.heap.size, 0, none⟩) (n + 4) (n + 4))) := (Touch.refl _ w2).setCell _ _ (Or.inl (by simp))
  have hkA : (⟨w.heap.size, n + 4, keyP pre n⟩ : KS).At w2 := ⟨⟨[], by simpa using hB.toF⟩, keyP_bd pre n, by rw [keyP_len]; omega, by rw [keyP_len]; omega, by show (keyP pre n).length ≤ n + 4; rw [keyP_len]; exact Nat.le_refl _⟩
  have hkv : (⟨w.heap.size, n + 4, keyP pre n⟩ : KS).v = .slice (some ⟨w.heap.size, 0, none⟩) (n + 4) (n + 4) := by
    unfold KS.v
    rw [keyP_len]
  refine ⟨⟨ks.set s (some ⟨w.heap.size, n + 4, keyP pre n⟩), by rw [List.length_set]; exact b1, ?_, fun k hk => ?_, fun i hi => ?_⟩, ⟨hts.cell b5.1 (by simpa using b9.1), hts.cell b5.2 (by simpa using b9.2)⟩, ⟨by simp [b6.1], by simp [b6.2.1], by simp [b6.2.2]⟩, fun y hy => ?_, ?_, b9⟩
  · have := b2.setCell s (.slice (some ⟨w.heap.size, 0, none⟩) (n + 4) (n + 4))
    rw [List.map_set]
    show Blk _ tb ((ks.map slotV).set s (⟨w.heap.size, n + 4, keyP pre n⟩ : KS).v) 67
    rw [hkv]
    exact this
  · rcases List.mem_or_eq_of_mem_set hk with hk | hk
    · obtain ⟨a1, a2, a3, a4⟩ := b3 k hk
      exact ⟨a1.touch hts (by simpa using a4), by simp [a2], a3, a4⟩
    · injection hk with hk
      subst hk
      refine ⟨hkA.touch hts (fun hx => ?_), by simp, h.up, ?_⟩
      · simp at hx
        omega
      · show w.heap.size ≠ tb
        omega
  · by_cases his : s = i
    · subst his
      rw [List.getD_eq_getElem?_getD, List.getElem?_set_self (by omega)]
      exact ⟨pre, by simp, rfl⟩
    · rw [List.getD_eq_getElem?_getD, List.getElem?_set_ne his, ← List.getD_eq_getElem?_getD]
      have := b4 i hi
      cases hv : ks.getD i none with
      | none =>
        rw [hv] at this
        have hne : (s == i) = false := by simpa using his
        have h9 : takenL L i = false := this
        show takenL (L ++ [(pre, s)]) i = false
        unfold takenL at h9 ⊢
        rw [List.any_append, h9]
        simp [hne]
      | some k =>
        rw [hv] at this
        obtain ⟨p, q1, q2⟩ := this
        exact ⟨p, by simp [q1], q2⟩
  · have hsz3 := hts.size
    simp only [List.mem_cons] at hy
    rcases hy with rfl | hy
    · omega
    · have := b7 y hy
      omega
  · have := hts.size
    omega
set_option maxHeartbeats 1000000 in
set_option maxRecDepth 100000 in
theorem keys_teller (w0 : World) (xb tb X n : Nat) (hn : n ≤ 12) : Teller [tb] (fun p s => s < 64 ∧ p.length ≤ 8 * n) (KeysI w0 xb tb X n) (fun a b w Q => Calls Try.prog 25 #[a, b, .pointer (some ⟨xb, 0, none⟩), .pointer (some ⟨tb, 0, none⟩)] w Q) where
  call := by
    intro L K pre s sa cap w hI hP hs
    obtain ⟨hs, hp⟩ := hs
    have c0 := hI.self.1
    have c1 := hI.self.2
    have hs2 : (s : Int) < 64 := by omega
    have H1 := toHid (keyOf_any hP n hn hp cap)
    have HI := toHid (And.intro hI (And.intro hs hp))
    clear hP hp hI
    show Calls Try.prog 25 #[.slice sa pre.length cap, .int .i64 (s : Int), .pointer (some ⟨xb, 0, none⟩), .pointer (some ⟨tb, 0, none⟩)] w _
    go_enter Try.func25, Try.ntmps25
    go_wp2_with fail
    refine Calls.mono H1.out ?_
    rintro e w2 ⟨rfl, hB, ht2⟩
    have hst := HI.out.1.step HI.out.2.1 HI.out.2.2 hn hB ht2
    have HF : Hid (∃ K', KeysI w0 xb tb X n (L ++ [(pre, s)]) K' (w2.setCell ⟨tb, s, none⟩ (.slice (some ⟨w.heap.size, 0, none⟩) (n + 4) (n + 4))) ∧ (∀ x ∈ K', x ∈ K ∨ w.heap.size ≤ x) ∧ Touch [tb] w (w2.setCell ⟨tb, s, none⟩ (.slice (some ⟨w.heap.size, 0, none⟩) (n + 4) (n + 4)))) :=
      ⟨_, hst, fun x hx => by
        simp only [List.mem_cons] at hx
        rcases hx with rfl | hx
        · exact Or.inr (Nat.le_refl _)
        · exact Or.inl hx, (Touch.nil ht2).setCell _ _ (Or.inl (by simp))⟩
    obtain ⟨⟨ks, k1, k2, _, _⟩, _⟩ := HI.out.1.still ht2 (by simp)
    have d0 := k2.cellN (i := s) (by rw [List.length_map, k1]; exact HI.out.2.1)
    have d1 := k2.frozen s
    generalize (ks.map slotV)[s]'(by rw [List.length_map, k1]; exact HI.out.2.1) = old at d0
    clear hB ht2 hst k2 H1
    go_wp2
    go_end0
    exact ⟨rfl, HF.out⟩
  still := by
    intro L K w w' G hI ht hG
    exact hI.still ht hG
  lt := fun L K w hI x hx => hI.lt x hx

theorem zero67 : (Try.prog.info? 67).map (fun i => (i.zero, i.size)) = some (some (.agg (Array.replicate 64 (.slice none 0 0))), 64) := by kernel_rfl
set_option maxRecDepth 100000 in
theorem index_row67 (w : World) {ks : List (Option KS)} (hl : ks.length = 64) {k : Nat} (hk : k < 64) : (Instr.index 67 (.agg (ks.map slotV).toArray) (.int .i64 k)).run Try.prog w = .ok (slotV (ks.getD k none)) w := by
  have h1 : (0 : Int) ≤ k ∧ (k : Int) < 64 := by omega
  obtain ⟨i, hi, _, hs, _⟩ := info_of info32
  have hc : (ks.map slotV).toArray[k]? = some (slotV (ks.getD k none)) := by
    rw [List.getElem?_toArray, List.getElem?_map, List.getD_eq_getElem?_getD, List.getElem?_eq_getElem (by omega)]
    rfl
  generalize (ks.map slotV).toArray = rs at *
  generalize slotV (ks.getD k none) = v at *
  simp [Instr.index, run_underlying Try.underlying67, part, h1, hc, go_sem]
  intro h2
  omega
/-- A key appended: only the list's own block is turned. -/
theorem KLs.push2 {w0 w : World} {g : Option Nat} {cap : Nat} {l : List KS} (h : KLs w0 w g cap l) (ht : Touch [] w0 w) (k : KS) (hk : k.At w) (hk0 : w0.heap.size ≤ k.b) (hg : g ≠ some k.b) (hl : l.length ≤ 1000) :
    ∃ g' cap' w', (Builtin.append_ #[38, 38] 38 #[slV g l.length cap, .slice (some ⟨w.heap.size, 0, none⟩) 1 1]).run Try.prog (w.alloc (.cells #[k.v] 32)) = .ok (slV g' (l.length + 1) cap') w' ∧ KLs w0 w' g' cap' (l ++ [k]) ∧ Touch [] w0 w' ∧ Touch g.toList w w' := by
  obtain ⟨i, hi0, hz, hs, hb⟩ := info_of info32
  have hN := Blk.newA w #[k.v] _ 32 rfl
  have hta : Touch [] w (w.alloc (.cells #[k.v] 32)) := (Touch.refl _ w).alloc _
  have hL := h.touch hta (by simp)
  obtain ⟨g', cap', w', hr, h2, h3, h4, h5⟩ := run_append_row (P := Try.prog) (w.alloc (.cells #[k.v] 32)) 38 38 32 i (.slice none 0 0) 1 Try.underlying38 hi0 hz hs rfl (by omega) g l.length cap _ hL.row ⟨w.heap.size, 0, none⟩ 1 1 [k.v] rfl
    (fun j u hj => by
      rw [Addr.add_lit]
      have : j = 0 := by have := (List.getElem?_eq_some_iff.1 hj).1; simp at this; exact this
      subst this
      exact hN.cell hj) (fun u hu => by
      simp only [List.mem_singleton] at hu
      subst hu
      rfl) (by rw [hb]; omega) (by omega)
  have ht2 := ht.trans hta (by simp)
  have hsz := ht2.size
  have hkeys : ∀ x ∈ l ++ [k], x.At w ∧ w0.heap.size ≤ x.b ∧ g ≠ some x.b := by
    intro x hx
    rcases List.mem_append.1 hx with hx | hx
    · exact h.keys x hx
    · simp only [List.mem_singleton] at hx
      subst hx
      exact ⟨hk, hk0, hg⟩
  refine ⟨g', cap', w', hr, ⟨by simpa using h2, fun b hb => ?_, fun x hx => ?_⟩, ht2.trans h3 (fun y hy => Or.inr (h.own y (by simpa using hy))), (Touch.nil hta).trans h3 (fun y hy => Or.inl hy)⟩
  · rcases h4 with rfl | rfl
    · exact h.own b hb
    · injection hb with hb
      omega
  · obtain ⟨a1, a2, a3⟩ := hkeys x hx
    refine ⟨(a1.touch hta (by simp)).touch h3 (fun hy => a3 (by simpa using hy)), a2, ?_⟩
    rcases h4 with rfl | rfl
    · exact a3
    · intro e
      injection e with e
      have := a1.lt
      rw [World.size_alloc] at e
      omega

def keysP (l : List (Option (List Int))) : List (List Int) := l.filterMap id
theorem keys_rows {w0 w w2 : World} {x : TX} (h : IAt w x) {xb tb : Nat} {K : List Nat} (hI : KeysI w0 xb tb x.X x.n (allT x.T []) K w2) :
    ∃ ks : List (Option KS), ks.length = 64 ∧ Blk w2 tb (ks.map slotV) 67 ∧ (∀ k, some k ∈ ks → k.At w2 ∧ w0.heap.size ≤ k.b ∧ k.b < w2.heap.size) ∧ keysOf ks = keysP x.l := by
  obtain ⟨⟨ks, h1, h2, h3, h4⟩, _, _, h7, _, _⟩ := hI
  refine ⟨ks, h1, h2, fun k hk => ⟨(h3 k hk).1, (h3 k hk).2.2.1, h7 _ (h3 k hk).2.1⟩, ?_⟩
  have hmap : ks.map (Option.map KS.bs) = x.l ++ List.replicate (64 - x.m) none := by
    have hlen := h.len
    have hm := h.m64
    refine List.ext_getElem? fun i => ?_
    by_cases hi : i < 64
    · have hki : ks[i]? = some (ks.getD i none) := by rw [List.getD_eq_getElem?_getD, List.getElem?_eq_getElem (by omega)]; rfl
      have h5 := h4 i hi
      rw [List.getElem?_map, hki]
      simp only [Option.map_some]
      by_cases him : i < x.m
      · rw [List.getElem?_append_left (by omega)]
        have hli : x.l[i]? = some (x.l.getD i none) := by rw [List.getD_eq_getElem?_getD, List.getElem?_eq_getElem (by omega)]; rfl
        rw [hli]
        congr 1
        cases hv : ks.getD i none with
        | none =>
          rw [hv] at h5
          have h6 := h.taken him
          rw [h5] at h6
          cases hw : x.l.getD i none with
          | none => rfl
          | some y => exact absurd (h6.2 (by rw [hw]; simp)) (by decide)
        | some k =>
          rw [hv] at h5
          obtain ⟨p, hp, he⟩ := h5
          obtain ⟨q, e1, e2⟩ := (mem_allT x.T [] (p, i)).1 hp
          have h8 := ((h.tied.at_ q i).1 e2).2
          rw [hli] at h8
          injection h8 with h8
          rw [h8]
          simp only [Option.map_some, he]
          have : p = q := by simpa using e1
          rw [this]
      · rw [List.getElem?_append_right (by omega), List.getElem?_replicate, if_pos (by omega)]
        congr 1
        cases hv : ks.getD i none with
        | none => rfl
        | some k =>
          rw [hv] at h5
          obtain ⟨p, hp, he⟩ := h5
          obtain ⟨q, e1, e2⟩ := (mem_allT x.T [] (p, i)).1 hp
          have := h.tied.lt e2
          omega
    · rw [List.getElem?_eq_none (by rw [List.length_map]; omega), List.getElem?_eq_none (by simp; omega)]
  have e : keysOf ks = (ks.map (Option.map KS.bs)).filterMap id := by
    unfold keysOf
    rw [List.filterMap_map]
    rfl
  rw [e, hmap, List.filterMap_append]
  have : (List.replicate (64 - x.m) (none : Option (List Int))).filterMap id = [] := by
    rw [List.filterMap_eq_nil_iff]
    intro a ha
    rw [List.mem_replicate] at ha
    rw [ha.2]
    rfl
  rw [this, List.append_nil]
  rfl
set_option maxHeartbeats 4000000 in
set_option maxRecDepth 100000 in
theorem ikeys_any {w : World} {x : TX} (h : IAt w x) :
    Calls Try.prog 12 #[.pointer (some ⟨x.X, 0, none⟩)] w fun e w' => (∃ v, e = .returned v ∧ KL w w' v (keysP x.l)) ∧ Touch [] w w' := by
  have hz := (zero_of_info (P := Try.prog) zero67).1
  have hsz := (zero_of_info (P := Try.prog) zero67).2
  have ht1 := ((Touch.refl [] w).alloc (.cells #[.pointer (some ⟨x.X, 0, none⟩)] 25)).alloc (.cells (Array.replicate 64 (.slice none 0 0)) 67)
  have hx1 := h.still ht1
  have c2 := hx1.c2
  have hB0 := (Blk.newA w #[.pointer (some ⟨x.X, 0, none⟩)] _ 25 rfl).alloc (.cells (Array.replicate 64 (.slice none 0 0)) 67)
  have hB1 := Blk.newA (w.alloc (.cells #[.pointer (some ⟨x.X, 0, none⟩)] 25)) (Array.replicate 64 (.slice none 0 0)) (List.replicate 64 (.slice none 0 0)) 67 (by simp)
  rw [World.size_alloc] at hB1
  have e0 := hB0.cell (i := 0) rfl
  have hlt := h.lt
  have hXw : x.X < w.heap.size := h.self.lt
  have hI0 : KeysI w w.heap.size (w.heap.size + 1) x.X x.n [] [w.heap.size, w.heap.size + 1, x.X] ((w.alloc (.cells #[.pointer (some ⟨x.X, 0, none⟩)] 25)).alloc (.cells (Array.replicate 64 (.slice none 0 0)) 67)) := by
    refine ⟨⟨List.replicate 64 none, by simp, by rw [List.map_replicate]; exact hB1, (fun k hk => by rw [List.mem_replicate] at hk; cases hk.2), fun i hi => ?_⟩, ⟨e0, hx1.c0⟩, ⟨by simp, by simp, by simp⟩, fun y hy => ?_, by simp; omega, ⟨by omega, by omega⟩⟩
    · rw [List.getD_eq_getElem?_getD, List.getElem?_replicate, if_pos hi]
      rfl
    · simp at hy ⊢
      omega
  have H1 := each_keys w.heap.size (w.heap.size + 1) (keys_teller w w.heap.size (w.heap.size + 1) x.X x.n h.n12) x.T _ none 0 [] [] _ hx1.tree (fun y hy => by
      obtain ⟨q, e1, h2⟩ := (mem_allT x.T [] y).1 hy
      have := hx1.slot h2
      rw [e1]
      exact this) hI0 ⟨rfl, Nat.le_refl _, by unfold maxLen; omega, rfl⟩ (fun b hb => by cases hb) (fun y hy hx => by
      simp at hy
      subst hy
      have := h.tree.lt _ hx
      omega) (fun y hy => by simp at hy; subst hy; simp) (by have := hx1.dep; have := hx1.n12; simp; omega)
  rw [ptr_ad x.T, List.nil_append] at H1
  have H2 := toHid H1
  have HH := toHid (And.intro h ht1)
  clear H1 hI0 hB0 hB1 hx1 ht1 h hlt
  go_enter Try.func12, Try.ntmps12
  go_wp2_with fail
  refine Calls.mono H2.out ?_
  rintro e w2 ⟨rfl, K', hI, _, _, ht2⟩
  have HT2 : Hid (Touch [] w w2) := HH.out.2.trans ht2 (fun y hy => Or.inr (by simp at hy; omega))
  obtain ⟨ks, k1, k2, k3, k4⟩ := keys_rows HH.out.1 hI
  have HK := toHid (And.intro k1 (And.intro k3 k4))
  have HB := toHid k2
  clear ht2 hI k3 k4 H2 c2 e0 k2
  go_wp2_with (refine wpList_load_row rfl 67 _ rfl (w.heap.size + 1) rfl 67 _ (0, 0) _ HB.out Try.underlying67 rfl (by rw [hsz]; simp [k1]) ?_)
  clear hz hsz
  generalize hRS : (ks.map slotV).toArray = rs at *
  have HRS := toHid hRS
  clear hRS
  go_loopw [4, 16] (fun o t w' => ∃ k : Nat, k ≤ 64 ∧ t = .int .i64 k ∧ Hid (∃ g cap l, o = slV g l.length cap ∧ KLs w w' g cap l ∧ l.map KS.bs = keysOf (ks.take k) ∧ l.length ≤ k ∧ Touch [] w w' ∧ ∀ y, some y ∈ ks → y.At w')) (fun _ t _ => 64 - (intOf t).toNat)
  case atStart => exact ⟨0, by omega, rfl, none, 0, [], rfl, ⟨⟨rfl, Nat.le_refl _, by unfold maxLen; omega, rfl⟩, fun b hb => (by cases hb), fun k hk => absurd hk (by simp)⟩, rfl, by simp, HT2.out, fun y hy => (HK.out.2.1 y hy).1⟩
  case round =>
    obtain ⟨k, hk, rfl, HI⟩ := hrel
    obtain ⟨g, cap, l, rfl, hKL, hbs, hll, ht, hyy⟩ := HI.out
    by_cases hlt : k < 64
    · have hkl : k < ks.length := by omega
      have hget : ks[k]? = some (ks.getD k none) := by rw [List.getD_eq_getElem?_getD, List.getElem?_eq_getElem hkl]; rfl
      have hks := keysOf_snoc hkl
      have hix := index_row67 wr HK.out.1 hlt
      rw [HRS.out] at hix
      cases hs : ks.getD k none with
      | none =>
        rw [hs] at hix hks
        unfold slotV at hix
        have HN : Hid (∃ g' cap' l', slV g l.length cap = slV g' l'.length cap' ∧ KLs w wr g' cap' l' ∧ l'.map KS.bs = keysOf (ks.take (k + 1)) ∧ l'.length ≤ k + 1 ∧ Touch [] w wr ∧ ∀ y, some y ∈ ks → y.At wr) := ⟨g, cap, l, rfl, hKL, by rw [hks, hbs, List.append_nil], by omega, ht, hyy⟩
        unfold slV
        clear hget hs hkl hks hKL hbs ht HI k1 hyy
        go_wp2
        go_roundw
        case rel => exact ⟨k + 1, by omega, by go_num, HN⟩
        case measure => simp [intOf]; omega
      | some y =>
        rw [hs] at hix hks
        unfold slotV at hix
        obtain ⟨hyA, hyw, hyl⟩ := HK.out.2.1 y (by rw [hs] at hget; exact List.mem_of_getElem? hget)
        have hyA2 := hyy y (by rw [hs] at hget; exact List.mem_of_getElem? hget)
        have hgk : ∀ z : KS, z.At wr → g ≠ some z.b := fun z hz e => by
          have hr := hKL.row
          rw [e] at hr
          obtain ⟨_, _, _, rest, hB1, _⟩ := hr
          obtain ⟨⟨r2, fz, hB2, _⟩, _⟩ := hz
          unfold Blk at hB1
          rw [hB1] at hB2
          injection hB2 with hB2
          injection hB2 with _ hB2
          cases hB2
        obtain ⟨g2, cap2, w3, hr2, hK2, ht3, ht4⟩ := hKL.push2 ht y hyA2 hyw (hgk y hyA2) (by omega)
        have HN : Hid (∃ g' cap' l', slV g2 (l.length + 1) cap2 = slV g' l'.length cap' ∧ KLs w w3 g' cap' l' ∧ l'.map KS.bs = keysOf (ks.take (k + 1)) ∧ l'.length ≤ k + 1 ∧ Touch [] w w3 ∧ ∀ y, some y ∈ ks → y.At w3) :=
          ⟨g2, cap2, l ++ [y], by simp, hK2, by rw [hks, List.map_append, hbs]; rfl, by simp; omega, ht3, fun z hz => (hyy z hz).touch ht4 (fun hx => hgk z (hyy z hz) (by simpa using hx))⟩
        have HR2 := toHid hr2
        unfold KS.v at HR2 hix
        clear hget hs hkl hks hKL hbs ht HI hr2 hyA hyA2 hK2 ht3 ht4 hgk k1 hyw hyl hyy
        generalize hv2 : slV g2 (l.length + 1) cap2 = v2 at *
        clear hv2
        unfold slV at HR2 ⊢
        go_wp2_with (first | (at_builtin; refine Lib.wpList_append_run _ rfl _ _ _ _ rfl _ _ rfl rfl _ _ HR2.out ?_))
        go_roundw
        case rel => exact ⟨k + 1, by omega, by go_num, HN⟩
        case measure => simp [intOf]; omega
    · obtain rfl : k = 64 := by omega
      have HII : Hid ((∃ v, slV g l.length cap = v ∧ KL w wr v (keysP x.l)) ∧ Touch [] w wr) := ⟨⟨_, rfl, g, cap, l, rfl, hKL, by rw [hbs, List.take_of_length_le (by have := HK.out.1; omega), HK.out.2.2]⟩, ht⟩
      generalize slV g l.length cap = v2 at *
      clear hKL hbs ht HI hyy
      go_wp2
      go_ret
      obtain ⟨⟨v, rfl, h1⟩, h2⟩ := HII.out
      exact ⟨⟨_, rfl, h1⟩, h2⟩
end Go.Proofs.Ytlkbaconlngmjaa
