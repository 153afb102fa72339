/-
  LruKeeps: what is held behind j calls; the bytes that were seen.
-/
import Derived.Test.YtlkppkgfnmlblaaTwin
namespace Go.Proofs.Ytlkppkgfnmlblaa
open Go.RowKit Go.Maps

theorem len_sub : ∀ {α : Type} [BEq α] [LawfulBEq α] (a b : List α), a.Nodup → (∀ x ∈ a, x ∈ b) → a.length ≤ b.length
  | _, _, _, [], _, _, _ => by simp
  | _, _, _, x :: a, b, hn, h => by
    rw [List.nodup_cons] at hn
    have h1 := len_sub a (b.erase x) hn.2 (fun y hy => (List.mem_erase_of_ne (fun e => hn.1 (by rw [← e]; exact hy))).2 (h y (by simp [hy])))
    have h2 := h x (by simp)
    rw [List.length_erase_of_mem h2] at h1
    have h3 : 0 < b.length := List.length_pos_of_mem h2
    simp only [List.length_cons]
    omega

/-- The keys that are held behind the first j bytes: all of them, or as many as there is room for; the last one too. -/
structure Keep (ks : List Int) (M j : Nat) (x : LX) : Prop where
  size : x.size = 1
  len : x.l.length = M
  from_ : ∀ bs, some bs ∈ x.l → ∃ q, q < j ∧ q % 3 ≠ 2 ∧ bs = [ks.getD q 0]
  all : (∀ q, q < j → q % 3 ≠ 2 → some [ks.getD q 0] ∈ x.l) ∨ freeP x.l = none
  last : ∀ q, q + 1 = j → q % 3 ≠ 2 → some [ks.getD q 0] ∈ x.l
theorem keep_set {l : List (Option (List Int))} {f : Nat} {bs : List Int} (hf : freeP l = some f) {b : List Int} (hb : some b ∈ l) : some b ∈ l.set f (some bs) := by
  obtain ⟨i, hi, he⟩ := List.getElem_of_mem hb
  have hfr := free_get hf
  have hne : f ≠ i := fun e => by
    subst e
    rw [List.getElem?_eq_getElem hi, he] at hfr
    cases hfr
  refine List.mem_of_getElem? (i := i) ?_
  rw [List.getElem?_set_ne hne, List.getElem?_eq_getElem hi, he]
theorem set_mem {l : List (Option (List Int))} {f : Nat} (bs : List Int) (hf : f < l.length) : some bs ∈ l.set f (some bs) := List.mem_of_getElem? (i := f) (List.getElem?_set_self hf)
theorem full_set {l : List (Option (List Int))} (h : freeP l = none) (f : Nat) (bs : List Int) : freeP (l.set f (some bs)) = none := by
  unfold freeP at *
  rw [List.findIdx?_eq_none_iff] at *
  intro s hs
  rcases List.mem_or_eq_of_mem_set hs with hx | hx
  · exact h s hx
  · subst hx
    rfl
theorem same_mem {l : List (Option (List Int))} {bs : List Int} {i : Nat} (h : sameP l bs = some i) : some bs ∈ l := List.mem_of_getElem? (same_get h)
theorem Keep.find {ks : List Int} {M j : Nat} {x : LX} (h : Keep ks M j x) (h3 : j % 3 = 2) (bs : List Int) (g : Option Nat) (cap : Nat) : Keep ks M (j + 1) { x with g := g, cap := cap, ord := (x.find bs).2 } where
  size := h.size
  len := h.len
  from_ := fun b hb => by
    obtain ⟨q, h1, h2⟩ := h.from_ b hb
    exact ⟨q, by omega, h2⟩
  all := by
    rcases h.all with h1 | h1
    · refine Or.inl fun q hq hq3 => h1 q ?_ hq3
      have : q ≠ j := fun e => hq3 (by rw [e]; exact h3)
      omega
    · exact Or.inr h1
  last := fun q hq hq3 => by
    obtain rfl : q = j := by omega
    exact absurd h3 hq3
theorem Keep.put {ks : List Int} {M j : Nat} {x : LX} (h : Keep ks M j x) (ho : OrdOk x.l x.ord) (h1 : 1 ≤ x.l.length) (h3 : j % 3 ≠ 2) (g : Option Nat) (cap : Nat) : Keep ks M (j + 1) { x with l := (x.put [ks.getD j 0] 0).2.1, g := g, cap := cap, ord := (x.put [ks.getD j 0] 0).2.2 } ∧ (x.put [ks.getD j 0] 0).1.2.2 = 0 := by
  unfold LX.put
  rw [h.size, if_pos (show [ks.getD j 0].length = 1 from rfl), if_neg (by omega)]
  cases hsm : sameP x.l [ks.getD j 0] with
  | some i =>
    dsimp only
    rw [if_neg (by omega)]
    refine ⟨⟨rfl, h.len, fun b hb => ?_, ?_, fun q hq hq3 => ?_⟩, rfl⟩
    · obtain ⟨q, h1, h2⟩ := h.from_ b hb
      exact ⟨q, by omega, h2⟩
    · rcases h.all with h4 | h4
      · refine Or.inl fun q hq hq3 => ?_
        by_cases e : q = j
        · subst e
          exact same_mem hsm
        · exact h4 q (by omega) hq3
      · exact Or.inr h4
    · obtain rfl : q = j := by omega
      exact same_mem hsm
  | none =>
    dsimp only
    rw [if_neg (by omega)]
    have hlt := roomN_lt ho h1
    refine ⟨⟨rfl, by simpa using h.len, fun b hb => ?_, ?_, fun q hq hq3 => ?_⟩, rfl⟩
    · rcases List.mem_or_eq_of_mem_set hb with hx | hx
      · obtain ⟨q, h1, h2⟩ := h.from_ b hx
        exact ⟨q, by omega, h2⟩
      · injection hx with hx
        exact ⟨j, by omega, h3, hx⟩
    · cases hf : freeP x.l with
      | none => exact Or.inr (full_set hf _ _)
      | some f =>
        have hr : roomN x.l x.ord = f := by unfold roomN; rw [hf]
        rcases h.all with h4 | h4
        · refine Or.inl fun q hq hq3 => ?_
          by_cases e : q = j
          · subst e
            exact set_mem _ hlt
          · show some [ks.getD q 0] ∈ x.l.set (roomN x.l x.ord) _
            rw [hr]
            exact keep_set hf (h4 q (by omega) hq3)
        · rw [hf] at h4
          cases h4
    · obtain rfl : q = j := by omega
      exact set_mem _ hlt

def KeepAt (w0 w : World) (X M : Nat) (ks : List Int) (j : Nat) : Prop := ∃ x, LOwn w0 w x ∧ x.X = X ∧ Keep ks M j x
theorem KeepAt.still {w0 w w' : World} {X M : Nat} {ks : List Int} {j : Nat} (h : KeepAt w0 w X M ks j) (ht : Touch [] w w') : KeepAt w0 w' X M ks j := by
  obtain ⟨x, h1, h2⟩ := h
  exact ⟨x, h1.still ht, h2⟩
theorem KeepAt.touch {w0 w : World} {X M : Nat} {ks : List Int} {j : Nat} (h : KeepAt w0 w X M ks j) : Touch [] w0 w := by
  obtain ⟨x, h1, h2⟩ := h
  exact h1.touch
/-- A Find, a Put of the next byte, just laid. -/
theorem keep_find {w0 w : World} {X M : Nat} {ks : List Int} {j : Nat} (h : KeepAt w0 w X M ks j) (h3 : j % 3 = 2) {z : Int} (hz : 0 ≤ z ∧ z ≤ 255) :
    Calls Try.prog 14 #[.pointer (some ⟨X, 0, none⟩), .slice (some ⟨w.heap.size, 0, none⟩) 1 1] (w.alloc (.cells #[.int .u8 z] 5)) fun e w' => ∃ (fi : Int) (fp : Bool), e = .returned (.tuple #[.int .i64 fi, .bool fp]) ∧ KeepAt w0 w' X M ks (j + 1) := by
  obtain ⟨x, h1, rfl, h2⟩ := h
  refine (((h1.still ((Touch.refl [] w).alloc _)).find (key_new1 h1.idx.lt z hz _ (Touch.refl _ _)) 1)).mono ?_
  rintro e w' ⟨rfl, _, g, cap, hL⟩
  exact ⟨_, _, rfl, _, hL, rfl, h2.find h3 _ g cap⟩
theorem keep_put {w0 w : World} {X M : Nat} {ks : List Int} {j : Nat} (h : KeepAt w0 w X M ks j) (h3 : j % 3 ≠ 2) (hz : 0 ≤ ks.getD j 0 ∧ ks.getD j 0 ≤ 255) :
    Calls Try.prog 15 #[.pointer (some ⟨X, 0, none⟩), .slice (some ⟨w.heap.size, 0, none⟩) 1 1, .int .u64 0] (w.alloc (.cells #[.int .u8 (ks.getD j 0)] 5)) fun e w' => ∃ (fi : Int) (fp : Bool), e = .returned (.tuple #[.int .i64 fi, .bool fp, .int .i64 0]) ∧ KeepAt w0 w' X M ks (j + 1) := by
  obtain ⟨x, h1, rfl, h2⟩ := h
  refine (((h1.still ((Touch.refl [] w).alloc _)).put (key_new1 h1.idx.lt _ hz) 1 0 (by omega))).mono ?_
  rintro e w' ⟨rfl, _, g, cap, hL⟩
  obtain ⟨k1, k2⟩ := h2.put h1.ok h1.idx.m1 h3 g cap
  exact ⟨_, _, by rw [k2], _, hL, rfl, k1⟩

/-- The keys at the end. -/
structure Fin (ks : List Int) (M n : Nat) (kp : List (List Int)) : Prop where
  nodup : kp.Nodup
  from_ : ∀ bs ∈ kp, ∃ q, q < n ∧ q % 3 ≠ 2 ∧ bs = [ks.getD q 0]
  all : (∀ q, q < n → q % 3 ≠ 2 → [ks.getD q 0] ∈ kp) ∨ kp.length = M
  last : ∀ q, q + 1 = n → q % 3 ≠ 2 → [ks.getD q 0] ∈ kp
  few : kp.length ≤ M
theorem Keep.fin {w : World} {ks : List Int} {M n : Nat} {x : LX} (h : Keep ks M n x) (hA : LAt w x) : Fin ks M n (keysP x.l) where
  nodup := keysP_nodup hA.map
  from_ := fun bs hbs => h.from_ bs (keysP_mem.1 hbs)
  all := by
    rcases h.all with h1 | h1
    · exact Or.inl fun q hq hq3 => keysP_mem.2 (h1 q hq hq3)
    · exact Or.inr (by rw [keysP_full h1, h.len])
  last := fun q hq hq3 => keysP_mem.2 (h.last q hq hq3)
  few := by
    have := held_le x.l
    unfold keysP
    rw [← h.len]
    exact this
/-- The bytes seen from slot i0 on, each once. -/
structure Seen (ks : List Int) (n i0 : Nat) (acc : List Int) : Prop where
  nodup : acc.Nodup
  from_ : ∀ z ∈ acc, ∃ q, i0 ≤ q ∧ q < n ∧ q % 3 ≠ 2 ∧ z = ks.getD q 0
  all : ∀ q, i0 ≤ q → q < n → q % 3 ≠ 2 → ks.getD q 0 ∈ acc
  few : acc.length + i0 ≤ n
theorem Seen.start (ks : List Int) (n : Nat) : Seen ks n n [] := ⟨List.nodup_nil, fun z hz => (by cases hz), fun q h1 h2 _ => absurd h2 (by omega), by simp⟩
theorem Seen.skip {ks : List Int} {n p : Nat} {acc : List Int} (h : Seen ks n (p + 1) acc) (hs : p % 3 = 2 ∨ ks.getD p 0 ∈ acc) : Seen ks n p acc :=
  ⟨h.nodup, fun z hz => by
    obtain ⟨q, h1, h2⟩ := h.from_ z hz
    exact ⟨q, by omega, h2⟩, fun q h1 h2 h3 => by
    by_cases e : q = p
    · subst e
      rcases hs with hs | hs
      · exact absurd hs h3
      · exact hs
    · exact h.all q (by omega) h2 h3, by have := h.few; omega⟩
theorem Seen.push {ks : List Int} {n p : Nat} {acc : List Int} (h : Seen ks n (p + 1) acc) (h3 : p % 3 ≠ 2) (hn : ks.getD p 0 ∉ acc) : Seen ks n p (acc ++ [ks.getD p 0]) :=
  ⟨by
    rw [List.nodup_append]
    exact ⟨h.nodup, by simp, fun a ha b hb e => by simp at hb; subst hb; subst e; exact hn ha⟩, fun z hz => by
    rcases List.mem_append.1 hz with hz | hz
    · obtain ⟨q, h1, h2⟩ := h.from_ z hz
      exact ⟨q, by omega, h2⟩
    · simp at hz
      have := h.few
      exact ⟨p, Nat.le_refl _, by omega, h3, by simpa using hz⟩, fun q h1 h2 h4 => by
    by_cases e : q = p
    · subst e
      simp
    · exact List.mem_append_left _ (h.all q (by omega) h2 h4), by have := h.few; simp; omega⟩
/-- All bytes seen, fewer than there is room for: as many are held. -/
theorem Fin.count {ks : List Int} {M n : Nat} {kp : List (List Int)} (h : Fin ks M n kp) {acc : List Int} (s : Seen ks n 0 acc) (hl : acc.length < M) : kp.length = acc.length := by
  have h1 := len_sub kp (acc.map fun z => [z]) h.nodup (fun bs hbs => by
    obtain ⟨q, h1, h2, rfl⟩ := h.from_ bs hbs
    exact List.mem_map.2 ⟨_, s.all q (Nat.zero_le _) h1 h2, rfl⟩)
  rw [List.length_map] at h1
  have hall : ∀ q, q < n → q % 3 ≠ 2 → [ks.getD q 0] ∈ kp := by
    rcases h.all with h2 | h2
    · exact h2
    · omega
  have h3 := len_sub (acc.map fun z => [z]) kp (by
    unfold List.Nodup
    rw [List.pairwise_map]
    exact s.nodup.imp fun hab e => hab (by simpa using e)) (fun bs hbs => by
    obtain ⟨z, hz, rfl⟩ := List.mem_map.1 hbs
    obtain ⟨q, _, h1, h2, rfl⟩ := s.from_ z hz
    exact hall q h1 h2)
  rw [List.length_map] at h3
  omega

/-- A row of bytes of the call's own. -/
def BytesAt (w : World) (g : Option Nat) (cap : Nat) (l : List Int) : Prop := RowAt w 5 1 g l.length cap (l.map (Value.int .u8))
theorem BytesAt.touch {S : List Nat} {w w' : World} {g : Option Nat} {cap : Nat} {l : List Int} (h : BytesAt w g cap l) (ht : Touch S w w') (hg : ∀ b, g = some b → b ∉ S) : BytesAt w' g cap l := RowAt.touch h ht hg
theorem BytesAt.at_ {w : World} {g : Option Nat} {cap : Nat} {l : List Int} (h : BytesAt w g cap l) {j : Nat} (hj : j < l.length) : ∃ b, g = some b ∧ w.cell? ⟨b, j, none⟩ = some (.int .u8 (l.getD j 0)) := by
  obtain ⟨_, h2, _, h4⟩ := h
  cases g with
  | none =>
    have h4 : cap = 0 := h4
    omega
  | some b =>
    obtain ⟨rest, hB, _⟩ := h4
    refine ⟨b, rfl, hB.cell ?_⟩
    rw [List.getElem?_append_left (by simpa using hj), List.getElem?_map, List.getD_eq_getElem?_getD, List.getElem?_eq_getElem hj]
    rfl
theorem bytes_push {w : World} {g : Option Nat} {cap : Nat} {l : List Int} (h : BytesAt w g cap l) (hl : l.length ≤ 1000) (s : Int) :
    ∃ g' cap' w', (Builtin.append_ #[32, 32] 32 #[slV g l.length cap, .slice (some ⟨w.heap.size, 0, none⟩) 1 1]).run Try.prog (w.alloc (.cells #[.int .u8 s] 5)) = .ok (slV g' (l.length + 1) cap') w' ∧ BytesAt w' g' cap' (l ++ [s]) ∧ Touch g.toList w w' ∧ ∀ b, g' = some b → b ∈ g.toList ∨ w.heap.size ≤ b := by
  obtain ⟨i, hi0, hz, hs, hb⟩ := info_of info5
  have hta := (Touch.refl [] w).alloc (.cells #[.int .u8 s] 5)
  have hB := Blk.newA w #[.int .u8 s] _ 5 rfl
  obtain ⟨g', cap', w', hr, h2, h3, h4, _⟩ := run_append_row (P := Try.prog) (w.alloc (.cells #[.int .u8 s] 5)) 32 32 5 i (.int .u8 0) 1 Try.underlying32 hi0 hz hs rfl (by omega) g l.length cap (l.map (Value.int .u8)) (h.touch hta (by simp)) ⟨w.heap.size, 0, none⟩ 1 1 [.int .u8 s] (by simp)
    (fun j v hj => by
      rw [Addr.add_lit]
      have hjl := (List.getElem?_eq_some_iff.1 hj).1
      simp at hjl
      subst hjl
      simp only [List.getElem?_cons_zero, Option.some.injEq] at hj
      subst hj
      exact hB.cell rfl)
    (fun u hu => by
      simp at hu
      subst hu
      rfl) (by rw [hb]; omega) (by omega)
  refine ⟨g', cap', w', hr, ?_, hta.nil.trans h3 (fun y hy => Or.inl hy), fun b hb2 => ?_⟩
  · have e : (l ++ [s]).map (Value.int .u8) = l.map (Value.int .u8) ++ [.int .u8 s] := by rw [List.map_append]; rfl
    show RowAt w' 5 1 g' (l ++ [s]).length cap' ((l ++ [s]).map (Value.int .u8))
    rw [e, List.length_append]
    exact h2
  · rcases h4 with h4 | h4
    · left
      rw [← h4, hb2]
      simp
    · right
      rw [h4] at hb2
      injection hb2 with hb2
      rw [← hb2, World.size_alloc]
      omega

def HasPost (w : World) (l : List Int) (s : Int) (e : Ending) (w' : World) : Prop := (∃ hb : Bool, e = .returned (.bool hb) ∧ (hb = true ↔ s ∈ l)) ∧ w' = w
set_option maxHeartbeats 1000000 in
set_option maxRecDepth 100000 in
theorem has_any {w : World} {g : Option Nat} {cap : Nat} {l : List Int} (h : BytesAt w g cap l) (hn : l.length ≤ 1000) (s : Int) :
    Calls Try.prog 19 #[slV g l.length cap, .int .u8 s] w (HasPost w l s) := by
  have HH := toHid h
  unfold slV
  generalize hsg : (g.map fun b => (⟨b, 0, none⟩ : Addr)) = sg at *
  generalize hln : l.length = n at *
  have HL := toHid (And.intro hln hsg)
  clear h hsg hln
  go_enter Try.func19, Try.ntmps19
  go_wp2_with fail
  go_loop [9] (fun t => ∃ k : Nat, k ≤ n ∧ t = .int .i64 k ∧ Hid (∀ j, j < k → l.getD j 0 ≠ s)) (fun t => n - (intOf t).toNat)
  case atStart => exact ⟨0, by omega, rfl, fun j hj => absurd hj (by omega)⟩
  case round =>
    obtain ⟨k, hk, rfl, HI⟩ := hrel
    by_cases hlt : k < n
    · have hkl : k < l.length := by rw [HL.out.1]; exact hlt
      obtain ⟨b, rfl, hcell⟩ := HH.out.at_ hkl
      have hsg : some ⟨b, 0, none⟩ = sg := HL.out.2
      subst hsg
      by_cases hq : l.getD k 0 = s
      · have hqb : (l.getD k 0 == s) = true := by simpa using hq
        have HR : Hid (s ∈ l) := by
          show s ∈ l
          rw [← hq, List.getD_eq_getElem?_getD, List.getElem?_eq_getElem hkl]
          exact List.getElem_mem hkl
        generalize l.getD k 0 = z at *
        clear hq hkl
        go_wp2
        go_ret
        exact ⟨⟨true, rfl, fun _ => HR.out, fun _ => rfl⟩, rfl⟩
      · have hqb : (l.getD k 0 == s) = false := by simpa using hq
        have HN : Hid (∀ j, j < k + 1 → l.getD j 0 ≠ s) := fun j hj => by
          by_cases hjk : j < k
          · exact HI.out j hjk
          · obtain rfl : j = k := by omega
            exact hq
        generalize l.getD k 0 = z at *
        clear hq hkl
        go_wp2
        exact ⟨⟨k + 1, by omega, by go_num, HN⟩, by simp [intOf]; omega⟩
    · obtain rfl : k = n := by omega
      have HR : Hid (s ∉ l) := by
        show s ∉ l
        intro hm
        obtain ⟨j, hj, e⟩ := List.getElem_of_mem hm
        exact HI.out j (by rw [← HL.out.1]; exact hj) (by rw [List.getD_eq_getElem?_getD, List.getElem?_eq_getElem hj]; exact e)
      go_wp2
      go_ret
      exact ⟨⟨false, rfl, fun e => (by cases e), fun e => absurd e HR.out⟩, rfl⟩
end Go.Proofs.Ytlkppkgfnmlblaa
