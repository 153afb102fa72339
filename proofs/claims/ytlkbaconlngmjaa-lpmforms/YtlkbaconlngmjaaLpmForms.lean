/-
  For every input LpmForms returns true. (The walk.)
-/
import Derived.Test.YtlkbaconlngmjaaFormsP
import Derived.Deep.RegionHeld3
namespace Go.Proofs.Ytlkbaconlngmjaa
open Go.RowKit Go.Deep

/-- Six bytes just laid. -/
theorem key2_new (w : World) (k : Nat) (x : Int) (hk : k ≤ 16) (h0 : 0 ≤ x) (h1 : x ≤ 65535) : KeyAt (w.alloc (.cells #[.int .u8 (k : Int), .int .u8 0, .int .u8 0, .int .u8 0, .int .u8 (x / 256), .int .u8 (x % 256)] 5)) (some ⟨w.heap.size, 0, none⟩) 6 (key2 k x) := by
  have hB := Blk.newA w #[.int .u8 (k : Int), .int .u8 0, .int .u8 0, .int .u8 0, .int .u8 (x / 256), .int .u8 (x % 256)] _ 5 rfl
  refine ⟨rfl, key2_bd k hk h0 h1, by simp [key2], fun _ => ⟨_, 0, rfl, fun j hj => ?_⟩⟩
  simp [key2] at hj
  have : j = 0 ∨ j = 1 ∨ j = 2 ∨ j = 3 ∨ j = 4 ∨ j = 5 := by omega
  rcases this with rfl | rfl | rfl | rfl | rfl | rfl <;> exact hB.cell rfl
theorem KeyAt.kept {w w' : World} {b off sl : Nat} {bs : List Int} {S : List Nat} (h : KeyAt w (some ⟨b, off, none⟩) sl bs) (ht : Touch S w w') (hb : b ∉ S) : KeyAt w' (some ⟨b, off, none⟩) sl bs := by
  obtain ⟨h1, h2, h3, h4⟩ := h
  refine ⟨h1, h2, h3, fun hp => ?_⟩
  obtain ⟨b', off', e, hc⟩ := h4 hp
  injection e with e
  injection e with e1 e2
  subst e1 e2
  exact ⟨b, off, rfl, fun j hj => ht.cell (hc j hj) (by simpa using hb)⟩
/-- Blocks more that the index has not. -/
theorem TOwn.moreL {w0 w w' : World} {X n m : Nat} {l : List (Option (List Int))} {A : List Nat} (h : TOwn w0 w X n m l A) (ht : Touch [] w w') (B : List Nat) (hB : ∀ b ∈ B, w.heap.size ≤ b ∧ b < w'.heap.size) : TOwn w0 w' X n m l (B ++ A) := by
  have hs := h.still ht
  obtain ⟨⟨T, q1, q2⟩, _, _⟩ := h
  refine ⟨⟨T, q1.still ht, fun y hy => ⟨(q2 y hy).1, fun hx => ?_⟩⟩, fun y hy => ?_, hs.touch⟩
  · have := q1.lt y hy
    rcases List.mem_append.1 hx with hx | hx
    · have := hB y hx
      omega
    · exact (q2 y hy).2 hx
  · rcases List.mem_append.1 hy with hy | hy
    · exact (hB y hy).2
    · exact hs.lt y hy
theorem put_one (k : Nat) (hk : k ≤ 16) {x : Int} (h0 : 0 ≤ x) (h1 : x ≤ 65535) : putL 2 [none, none, none, none] (key2 k x) 1 = ((0, true, 0), [some (key2 k (formI k x)), none, none, none]) := by
  unfold putL
  rw [fits_key2 k hk, form_key k hk h0 h1]
  rfl
theorem put_two (k : Nat) (hk : k ≤ 16) {x : Int} (h0 : 0 ≤ x) (h1 : x ≤ 65535) : putL 2 [some (key2 k (formI k x)), none, none, none] (key2 k x) 2 = ((0, false, 0), [some (key2 k (formI k x)), none, none, none]) := by
  unfold putL
  rw [fits_key2 k hk, form_key k hk h0 h1]
  have hs : sameP [some (key2 k (formI k x)), none, none, none] (key2 k (formI k x)) = some 0 := by
    unfold sameP
    rw [List.findIdx?_cons]
    simp
  rw [hs]
  rfl
theorem put_three (k : Nat) (hk : k ≤ 16) {x : Int} (h0 : 0 ≤ x) (h1 : x ≤ 65535) : putL 2 [some (key2 k (formI k x)), none, none, none] (key2 k x) 1 = ((0, false, 70), [some (key2 k (formI k x)), none, none, none]) := by
  unfold putL
  rw [fits_key2 k hk, form_key k hk h0 h1]
  have hs : sameP [some (key2 k (formI k x)), none, none, none] (key2 k (formI k x)) = some 0 := by
    unfold sameP
    rw [List.findIdx?_cons]
    simp
  rw [hs]
  rfl
theorem del_one (k : Nat) (hk : k ≤ 16) {x : Int} (h0 : 0 ≤ x) (h1 : x ≤ 65535) : delL 2 [some (key2 k (formI k x)), none, none, none] (key2 k x) = ((0, 0), [none, none, none, none]) := by
  unfold delL
  rw [fits_key2 k hk, form_key k hk h0 h1]
  have hs : sameP [some (key2 k (formI k x)), none, none, none] (key2 k (formI k x)) = some 0 := by
    unfold sameP
    rw [List.findIdx?_cons]
    simp
  rw [hs]
  rfl
set_option maxHeartbeats 4000000 in
set_option maxRecDepth 100000 in
theorem lpmForms_walk (n a b : Int) (w : World) (n0 : 0 ≤ n) (n1 : n ≤ 255) (a0 : 0 ≤ a) (a1 : a ≤ 65535) (b0 : 0 ≤ b) (b1 : b ≤ 65535) :
    Calls Try.prog 6 #[.int .u8 n, .int .u16 a, .int .u16 b] w fun e w' => e = .returned (.bool true) ∧ Touch [] w w' := by
  have HN := toHid (TOwn.new w · · 2 4 (by omega) (by omega) (by omega) (by omega))
  rw [show ((2 : Nat) : Int) + 4 = 6 from rfl, show ((4 : Nat) : Int) = 4 from rfl] at HN
  obtain ⟨k, hk⟩ : ∃ k : Nat, n % 17 = k := ⟨(n % 17).toNat, by omega⟩
  have hk16 : k ≤ 16 := by omega
  obtain ⟨hF, C, hC, c0, c1, hCF⟩ := forms_pure k hk16 a b a0 a1 b0 b1
  have hFb := formI_bd k a0 a1
  have HP1 := toHid (put_one k hk16 a0 a1)
  have HP2 := toHid (put_two k hk16 c0 c1)
  have HP3 := toHid (put_three k hk16 c0 c1)
  have HP4 := toHid (del_one k hk16 c0 c1)
  rw [hCF] at HP2 HP3 HP4
  generalize formI k a = F at *
  generalize hM : IntKind.u16.wrap (4294901760 / 2 ^ k) = M at *
  go_enter Try.func6, Try.ntmps6
  go_wp2_with fail
  refine (first_any _).mono ?_
  rintro e w2 ⟨rfl, ht2⟩
  have H1 := toHid (HN.out w2 ht2)
  have HT2 := toHid ht2
  clear ht2 HN
  go_wp2_with fail
  refine Calls.mono H1.out ?_
  rintro e w3 ⟨X, rfl, hA, _⟩
  go_wp2_with fail
  generalize hw5 : (w3.alloc _).alloc _ = w5
  have hT4 : Touch [] w3 (w3.alloc (.cells #[.int .u8 (k : Int), .int .u8 0, .int .u8 0, .int .u8 0, .int .u8 (a / 256), .int .u8 (a % 256)] 5)) := (Touch.refl [] w3).alloc _
  have hkp : KeyAt w5 (some ⟨w3.heap.size, 0, none⟩) 6 (key2 k a) := by
    rw [← hw5]
    exact (key2_new w3 k a hk16 a0 a1).touch ((Touch.refl [] _).alloc _)
  have hkq : KeyAt w5 (some ⟨w3.heap.size + 1, 0, none⟩) 6 (key2 k C) := by
    rw [← hw5]
    have := key2_new (w3.alloc (.cells #[.int .u8 (k : Int), .int .u8 0, .int .u8 0, .int .u8 0, .int .u8 (a / 256), .int .u8 (a % 256)] 5)) k C hk16 c0 c1
    rw [World.size_alloc] at this
    exact this
  have hA5 : TOwn w w5 X 2 4 [none, none, none, none] [w3.heap.size + 1] := by
    have h1 : TOwn w w3 X 2 4 [none, none, none, none] [] := hA
    rw [← hw5]
    exact (h1.still hT4).more ((Touch.refl [] _).alloc _) (by rw [World.size_alloc]; omega) (by rw [World.size_alloc, World.size_alloc]; omega)
  have H2 := toHid (hA5.put hkp 6 (by omega) 1 (by omega))
  rw [HP1.out] at H2
  have HQ := toHid hkq
  generalize w3.heap.size + 1 = N at *
  clear hA5 hkp hkq hT4 hw5 hA H1
  refine Calls.mono H2.out ?_
  rintro e w6 ⟨rfl, hA6, S6, ht6, hS6⟩
  have hkq6 := HQ.out.kept ht6 (fun hx => hS6 _ hx (by simp))
  have H3 := toHid (hA6.put hkq6 6 (by omega) 2 (by omega))
  rw [HP2.out] at H3
  have HQ6 := toHid hkq6
  clear hA6 ht6 hS6 hkq6 H2 HQ
  unfold AddV
  go_wp2_with fail
  refine Calls.mono H3.out ?_
  rintro e w7 ⟨rfl, hA7, S7, ht7, hS7⟩
  have hkq7 := HQ6.out.kept ht7 (fun hx => hS7 _ hx (by simp))
  have H4 := toHid (hA7.put hkq7 6 (by omega) 1 (by omega))
  rw [HP3.out] at H4
  have HQ7 := toHid hkq7
  clear hA7 ht7 hS7 hkq7 H3 HQ6
  unfold AddV
  go_wp2_with fail
  refine Calls.mono H4.out ?_
  rintro e w8 ⟨rfl, hA8, S8, ht8, hS8⟩
  have hkq8 := HQ7.out.kept ht8 (fun hx => hS8 _ hx (by simp))
  have H5 := toHid hA8.keys
  have HA8 := toHid hA8
  have HQ8 := toHid hkq8
  clear hA8 ht8 hS8 hkq8 H4 HQ7
  unfold AddV
  go_wp2_with fail
  refine Calls.mono H5.out ?_
  rintro e w9 ⟨⟨v, rfl, g, cap, kl, rfl, hKL, hkl⟩, ht9⟩
  have hkl2 : kl.map KS.bs = [key2 k F] := hkl
  obtain ⟨ky, rfl⟩ : ∃ ky, kl = [ky] := by
    have hl1 : kl.length = 1 := by have := congrArg List.length hkl2; simpa using this
    obtain ⟨ky, h9⟩ := List.length_eq_one_iff.1 hl1
    exact ⟨ky, h9⟩
  have hky : ky.bs = key2 k F := by simpa using hkl2
  have hky6 : ky.bs.length = 6 := by rw [hky]; rfl
  obtain ⟨gb, rfl⟩ : ∃ gb, g = some gb := by
    cases g with
    | none =>
      have q1 := hKL.row.2.1
      have q2 : cap = 0 := hKL.row.2.2.2
      simp at q1
      omega
    | some gb => exact ⟨gb, rfl⟩
  have hgl : gb < w9.heap.size := by
    obtain ⟨_, _, _, rest, hB9, _⟩ := hKL.row
    exact hB9.lt
  have hA9 := HA8.out.moreL ht9 [gb, ky.b] (fun b hb => by
    simp only [List.mem_cons, List.not_mem_nil, or_false] at hb
    rcases hb with rfl | rfl
    · exact ⟨hKL.own _ rfl, hgl⟩
    · exact ⟨(hKL.keys ky (by simp)).2.1, (hKL.keys ky (by simp)).1.lt⟩)
  have hkq9 := HQ8.out.touch ht9
  have H6 := toHid (hA9.del hkq9 6 (by omega))
  rw [HP4.out] at H6
  have HK9 := toHid (And.intro hKL.row (And.intro (hKL.keys ky (by simp)).1 (And.intro hky hky6)))
  rw [show (slV (some gb) [ky].length cap) = .slice (some ⟨gb, 0, none⟩) 1 cap from rfl]
  clear hA9 hkq9 ht9 hKL hky hkl hkl2 H5 HA8 HQ8 hky6 hgl
  unfold DelV at H6
  go_wp2_with fail
  refine Calls.mono H6.out ?_
  rintro e w10 ⟨rfl, hA10, S10, ht10, hS10⟩
  have hr10 := HK9.out.1.touch ht10 (fun b hb hx => hS10 _ hx (by injection hb with hb; simp [hb]))
  have hk10 := HK9.out.2.1.touch ht10 (fun hx => hS10 _ hx (by simp))
  have hs0 : w10.cell? ⟨gb, 0, none⟩ = some (.slice (some ⟨ky.b, 0, none⟩) 6 ky.cap) := by
    obtain ⟨_, _, _, rest, hB10, _⟩ := hr10
    have := hB10.cell (i := 0) rfl
    unfold KS.v at this
    rw [HK9.out.2.2.2] at this
    exact this
  have hcv : ∀ w', Touch [] w10 w' → w'.cell? ⟨gb, 0, none⟩ = some (.slice (some ⟨ky.b, 0, none⟩) 6 ky.cap) ∧ (convert 32 9 (.slice (some ⟨ky.b, 0, none⟩) 6 ky.cap)).run Try.prog w' = .ok (.string (strOfNums (key2 k F))) w' := fun w' ht => by
    have := (hk10.touch ht (by simp)).key.conv ky.cap
    rw [HK9.out.2.2.1] at this
    exact ⟨ht.cell hs0 (by simp), this⟩
  have HCV := toHid hcv
  have HK7 := toHid (TOwn.keys (hA10.still (((Touch.refl [] w10).alloc (.cells #[.int .u8 (k : Int), .int .u8 0, .int .u8 0, .int .u8 0, .int .u8 (F / 256), .int .u8 (F % 256)] 5)).drew)))
  have hcv2 := (key2_new w10 k F hk16 hFb.1 hFb.2).conv 6
  have hcv3 : (convert 32 9 (.slice (some ⟨w10.heap.size, 0, none⟩) 6 6)).run Try.prog ((w10.alloc (.cells #[.int .u8 (k : Int), .int .u8 0, .int .u8 0, .int .u8 0, .int .u8 (F / 256), .int .u8 (F % 256)] 5)).drew) = .ok (.string (strOfNums (key2 k F))) ((w10.alloc (.cells #[.int .u8 (k : Int), .int .u8 0, .int .u8 0, .int .u8 0, .int .u8 (F / 256), .int .u8 (F % 256)] 5)).drew) :=
    ((key2_new w10 k F hk16 hFb.1 hFb.2).touch ((Touch.refl [] _).drew)).conv 6
  have HT10 := toHid hA10.touch
  have hw1 : IntKind.u8.wrap (k : Int) = k := by rw [IntKind.wrap_u8]; omega
  have hw2 : IntKind.u8.wrap (F / 256) = F / 256 := by rw [IntKind.wrap_u8]; omega
  have hw3 : IntKind.u8.wrap F = F % 256 := IntKind.wrap_u8 F
  generalize hw11 : (w10.alloc (.cells #[.int .u8 (k : Int), .int .u8 0, .int .u8 0, .int .u8 0, .int .u8 (F / 256), .int .u8 (F % 256)] 5)).drew = w11 at HK7
  have HW11 := toHid hw11
  clear hcv hcv2 hs0 hk10 hr10 hA10 ht10 hS10 H6 HK9 hw11
  generalize hstr : strOfNums (key2 k F) = A at *
  clear hstr
  go_wp2_with fail
  refine wp_region_held_drew (S := fun w' => w'.cell? ⟨gb, 0, none⟩ = some (.slice (some ⟨ky.b, 0, none⟩) 6 ky.cap) ∧ (convert 32 9 (.slice (some ⟨ky.b, 0, none⟩) 6 ky.cap)).run Try.prog w' = .ok (.string A) w') (by kernel_rfl) ?_ (fun hHeld => ?_)
  · exact HCV.out _ ((Touch.refl [] w10).drew)
  refine wpAnyH_take (i := 0) (v := ?_) rfl (by kernel_rfl) (by kernel_rfl) (by kernel_rfl) (fun _ _ _ h => h) (Or.inl ⟨by rfl, ?_⟩) (by assumption) ?_
  rotate_left
  · (intro w hSw; (try dsimp only at hSw); go_simp; try with_reducible rfl)
  simp only [Act.put, List.getElem_toArray, List.getElem_cons_zero, List.setIfInBounds_toArray, List.set_cons_zero, List.set_cons_succ]
  refine wpAnyH_take (i := 1) (v := ?_) rfl (by kernel_rfl) (by kernel_rfl) (by kernel_rfl) (fun _ _ _ h => h) (Or.inl ⟨by rfl, ?_⟩) (by assumption) ?_
  rotate_left
  · (intro w hSw; (try dsimp only at hSw); go_simp; try with_reducible rfl)
  simp only [Act.put, List.getElem_toArray, List.getElem_cons_zero, List.getElem_cons_succ, List.setIfInBounds_toArray, List.set_cons_zero, List.set_cons_succ]
  refine wpAnyH_take (i := 2) (v := ?_) rfl (by kernel_rfl) (by kernel_rfl) (by kernel_rfl) (fun _ _ _ h => h) (Or.inl ⟨by rfl, ?_⟩) (by assumption) ?_
  rotate_left
  · (intro w hSw; (try dsimp only at hSw); go_simp; try with_reducible rfl)
  simp only [Act.put, List.getElem_toArray, List.getElem_cons_zero, List.getElem_cons_succ, List.setIfInBounds_toArray, List.set_cons_zero, List.set_cons_succ]
  refine wpAnyH_take (i := 3) (v := ?_) rfl (by kernel_rfl) (by kernel_rfl) (by kernel_rfl) (fun _ _ _ h => h) (Or.inl ⟨by rfl, ?_⟩) (by assumption) ?_
  rotate_left
  · (intro w hSw; (try dsimp only at hSw); go_simp; try with_reducible rfl)
  simp only [Act.put, List.getElem_toArray, List.getElem_cons_zero, List.getElem_cons_succ, List.setIfInBounds_toArray, List.set_cons_zero, List.set_cons_succ]
  refine wpAnyH_take (i := 4) (v := ?_) rfl (by kernel_rfl) (by kernel_rfl) (by kernel_rfl) (fun _ _ _ h => h) (Or.inl ⟨by rfl, ?_⟩) (by assumption) ?_
  rotate_left
  · (intro w hSw; (try dsimp only at hSw); go_simp; try with_reducible rfl)
  simp only [Act.put, List.getElem_toArray, List.getElem_cons_zero, List.getElem_cons_succ, List.setIfInBounds_toArray, List.set_cons_zero, List.set_cons_succ]
  refine wpAnyH_take (i := 5) (v := ?_) rfl (by kernel_rfl) (by kernel_rfl) (by kernel_rfl) (fun _ _ _ h => h) (Or.inl ⟨by rfl, ?_⟩) (by assumption) ?_
  rotate_left
  · (intro w hSw; (try dsimp only at hSw); go_simp; try with_reducible rfl)
  simp only [Act.put, List.getElem_toArray, List.getElem_cons_zero, List.getElem_cons_succ, List.setIfInBounds_toArray, List.set_cons_zero, List.set_cons_succ]
  refine wpAnyH_take (i := 6) (v := ?_) rfl (by kernel_rfl) (by kernel_rfl) (by kernel_rfl) (fun _ _ _ h => h) (Or.inl ⟨by rfl, ?_⟩) (by assumption) ?_
  rotate_left
  · (intro w hSw; (try dsimp only at hSw); go_simp; try with_reducible rfl)
  simp only [Act.put, List.getElem_toArray, List.getElem_cons_zero, List.getElem_cons_succ, List.setIfInBounds_toArray, List.set_cons_zero, List.set_cons_succ]
  refine wpAnyH_take (i := 7) (v := ?_) rfl (by kernel_rfl) (by kernel_rfl) (by kernel_rfl) (fun _ _ _ h => h) (Or.inl ⟨by rfl, ?_⟩) (by assumption) ?_
  rotate_left
  · (intro w hSw; (try dsimp only at hSw); go_simp; try with_reducible rfl)
  simp only [Act.put, List.getElem_toArray, List.getElem_cons_zero, List.getElem_cons_succ, List.setIfInBounds_toArray, List.set_cons_zero, List.set_cons_succ]
  refine wpAnyH_take (i := 8) (v := ?_) rfl (by kernel_rfl) (by kernel_rfl) (by kernel_rfl) (fun _ _ _ h => h) (Or.inl ⟨by rfl, ?_⟩) (by assumption) ?_
  rotate_left
  · (intro w hSw; (try dsimp only at hSw); go_simp; try with_reducible rfl)
  simp only [Act.put, List.getElem_toArray, List.getElem_cons_zero, List.getElem_cons_succ, List.setIfInBounds_toArray, List.set_cons_zero, List.set_cons_succ]
  refine wpAnyH_take (i := 9) (v := ?_) rfl (by kernel_rfl) (by kernel_rfl) (by kernel_rfl) (fun _ _ _ h => h) (Or.inl ⟨by rfl, ?_⟩) (by assumption) ?_
  rotate_left
  · (intro w hSw; (try dsimp only at hSw); go_simp; try with_reducible rfl)
  simp only [Act.put, List.getElem_toArray, List.getElem_cons_zero, List.getElem_cons_succ, List.setIfInBounds_toArray, List.set_cons_zero, List.set_cons_succ]
  refine wpAnyH_take (i := 10) (v := ?_) rfl (by kernel_rfl) (by kernel_rfl) (by kernel_rfl) (fun _ _ _ h => h) (Or.inl ⟨by rfl, ?_⟩) (by assumption) ?_
  rotate_left
  · (intro w hSw; (try dsimp only at hSw); go_simp; try with_reducible rfl)
  simp only [Act.put, List.getElem_toArray, List.getElem_cons_zero, List.getElem_cons_succ, List.setIfInBounds_toArray, List.set_cons_zero, List.set_cons_succ]
  refine wpAnyH_ready (rs := [11]) (by kernel_rfl) (by simp) ?_
  refine AllReadyH.cons rfl (fun K hK => ?_) AllReadyH.nil
  simp only [List.getElem_toArray, List.getElem_cons_zero, List.getElem_cons_succ]
  go_simp
  refine hK.out _ _ ?_ (fun hHeld => ?_)
  · exact HCV.out _ (((Touch.refl [] w10).alloc _).drew)
  clear hK K
  try simp only [Act.put, List.getElem_toArray, List.getElem_cons_zero, List.getElem_cons_succ, List.setIfInBounds_toArray, List.set_cons_zero, List.set_cons_succ]
  refine wpAnyH_ready (rs := [12]) (by kernel_rfl) (by simp) ?_
  refine AllReadyH.cons rfl (fun K hK => ?_) AllReadyH.nil
  simp only [List.getElem_toArray, List.getElem_cons_zero, List.getElem_cons_succ]
  go_simp
  refine hK.out _ _ ?_ (fun hHeld => ?_)
  · exact HCV.out _ (((Touch.refl [] w10).alloc _).drew)
  clear hK K
  try simp only [Act.put, List.getElem_toArray, List.getElem_cons_zero, List.getElem_cons_succ, List.setIfInBounds_toArray, List.set_cons_zero, List.set_cons_succ]
  rw [HW11.out]
  have hHeld : (fun w' => w'.cell? ⟨gb, 0, none⟩ = some (.slice (some ⟨ky.b, 0, none⟩) 6 ky.cap) ∧ (convert 32 9 (.slice (some ⟨ky.b, 0, none⟩) 6 ky.cap)).run Try.prog w' = .ok (.string A) w') w11 := HCV.out _ (by rw [← HW11.out]; exact ((Touch.refl [] w10).alloc _).drew)
  clear hcv3
  refine wpAnyH_take (i := 13) (v := ?_) rfl (by kernel_rfl) (by kernel_rfl) (by kernel_rfl) (fun _ _ _ h => h) (Or.inl ⟨by rfl, ?_⟩) (by assumption) ?_
  rotate_left
  · (intro w hSw; (try dsimp only at hSw); go_simp; try with_reducible rfl)
  simp only [Act.put, List.getElem_toArray, List.getElem_cons_zero, List.getElem_cons_succ, List.setIfInBounds_toArray, List.set_cons_zero, List.set_cons_succ]
  refine wpAnyH_take (i := 14) (v := ?_) rfl (by kernel_rfl) (by kernel_rfl) (by kernel_rfl) (fun _ _ _ h => h) (Or.inl ⟨by rfl, ?_⟩) (by assumption) ?_
  rotate_left
  · (intro w hSw; (try dsimp only at hSw); go_simp; try with_reducible rfl)
  simp only [Act.put, List.getElem_toArray, List.getElem_cons_zero, List.getElem_cons_succ, List.setIfInBounds_toArray, List.set_cons_zero, List.set_cons_succ]
  refine wpAnyH_take (i := 15) (v := ?_) rfl (by kernel_rfl) (by kernel_rfl) (by kernel_rfl) (fun _ _ _ h => h) (Or.inl ⟨by rfl, ?_⟩) (by assumption) ?_
  rotate_left
  · (intro w hSw; (try dsimp only at hSw); go_simp; try with_reducible rfl)
  simp only [Act.put, List.getElem_toArray, List.getElem_cons_zero, List.getElem_cons_succ, List.setIfInBounds_toArray, List.set_cons_zero, List.set_cons_succ]
  refine wpAnyH_take (i := 16) (v := ?_) rfl (by kernel_rfl) (by kernel_rfl) (by kernel_rfl) (fun _ _ _ h => h) (Or.inl ⟨by rfl, ?_⟩) (by assumption) ?_
  rotate_left
  · (intro w hSw; (try dsimp only at hSw); go_simp; try with_reducible rfl)
  simp only [Act.put, List.getElem_toArray, List.getElem_cons_zero, List.getElem_cons_succ, List.setIfInBounds_toArray, List.set_cons_zero, List.set_cons_succ]
  refine wpAnyH_take (i := 17) (v := ?_) rfl (by kernel_rfl) (by kernel_rfl) (by kernel_rfl) (fun _ _ _ h => h) (Or.inl ⟨by rfl, ?_⟩) (by assumption) ?_
  rotate_left
  · (intro w hSw; (try dsimp only at hSw); go_simp; try with_reducible rfl)
  simp only [Act.put, List.getElem_toArray, List.getElem_cons_zero, List.getElem_cons_succ, List.setIfInBounds_toArray, List.set_cons_zero, List.set_cons_succ]
  refine wpAnyH_take (i := 18) (v := ?_) rfl (by kernel_rfl) (by kernel_rfl) (by kernel_rfl) (fun _ _ _ h => h) (Or.inl ⟨by rfl, ?_⟩) (by assumption) ?_
  rotate_left
  · (intro w hSw; (try dsimp only at hSw); go_simp; try with_reducible rfl)
  simp only [Act.put, List.getElem_toArray, List.getElem_cons_zero, List.getElem_cons_succ, List.setIfInBounds_toArray, List.set_cons_zero, List.set_cons_succ]
  refine wpAnyH_take (i := 19) (v := ?_) rfl (by kernel_rfl) (by kernel_rfl) (by kernel_rfl) (fun _ _ _ h => h) (Or.inl ⟨by rfl, ?_⟩) (by assumption) ?_
  rotate_left
  · (intro w hSw; (try dsimp only at hSw); go_simp; try with_reducible rfl)
  simp only [Act.put, List.getElem_toArray, List.getElem_cons_zero, List.getElem_cons_succ, List.setIfInBounds_toArray, List.set_cons_zero, List.set_cons_succ]
  refine wpAnyH_take (i := 20) (v := ?_) rfl (by kernel_rfl) (by kernel_rfl) (by kernel_rfl) (fun _ _ _ h => h) (Or.inl ⟨by rfl, ?_⟩) (by assumption) ?_
  rotate_left
  · (intro w hSw; (try dsimp only at hSw); go_simp; try with_reducible rfl)
  simp only [Act.put, List.getElem_toArray, List.getElem_cons_zero, List.getElem_cons_succ, List.setIfInBounds_toArray, List.set_cons_zero, List.set_cons_succ]
  refine wpAnyH_take (i := 21) (v := ?_) rfl (by kernel_rfl) (by kernel_rfl) (by kernel_rfl) (fun _ _ _ h => h) (Or.inl ⟨by rfl, ?_⟩) (by assumption) ?_
  rotate_left
  · (intro w hSw; (try dsimp only at hSw); go_simp; try with_reducible rfl)
  simp only [Act.put, List.getElem_toArray, List.getElem_cons_zero, List.getElem_cons_succ, List.setIfInBounds_toArray, List.set_cons_zero, List.set_cons_succ]
  refine wpAnyH_take (i := 22) (v := ?_) rfl (by kernel_rfl) (by kernel_rfl) (by kernel_rfl) (fun _ _ _ h => h) (Or.inl ⟨by rfl, ?_⟩) (by assumption) ?_
  rotate_left
  · (intro w hSw; (try dsimp only at hSw); go_simp; try with_reducible rfl)
  simp only [Act.put, List.getElem_toArray, List.getElem_cons_zero, List.getElem_cons_succ, List.setIfInBounds_toArray, List.set_cons_zero, List.set_cons_succ]
  refine wpAnyH_take (i := 23) (v := ?_) rfl (by kernel_rfl) (by kernel_rfl) (by kernel_rfl) (fun _ _ _ h => h) (Or.inl ⟨by rfl, ?_⟩) (by assumption) ?_
  rotate_left
  · (intro w hSw; (try dsimp only at hSw); go_simp; try with_reducible rfl)
  simp only [Act.put, List.getElem_toArray, List.getElem_cons_zero, List.getElem_cons_succ, List.setIfInBounds_toArray, List.set_cons_zero, List.set_cons_succ]
  refine wpAnyH_ready (rs := [24]) (by kernel_rfl) (by simp) ?_
  refine AllReadyH.cons rfl (fun K hK => ?_) AllReadyH.nil
  simp only [List.getElem_toArray, List.getElem_cons_zero, List.getElem_cons_succ]
  go_simp
  refine Calls.mono HK7.out ?_; rintro e w12 ⟨⟨v, rfl, g2, cap2, l2, rfl, hK2, hl2⟩, ht12⟩; obtain rfl : l2 = [] := (by have h9 : l2.map KS.bs = [] := hl2; simpa using h9); have HF := toHid (HT10.out.trans ((show Touch [] w10 w11 from (by rw [← HW11.out]; exact ((Touch.refl [] w10).alloc _).drew)).trans ht12 (by simp)) (by simp)); have HCV2 := toHid (HCV.out w12 ((show Touch [] w10 w11 from (by rw [← HW11.out]; exact ((Touch.refl [] w10).alloc _).drew)).trans ht12 (by simp))); clear hK2 hl2 ht12; unfold slV; simp only [List.length_nil]; generalize (g2.map fun b => (⟨b, 0, none⟩ : Addr)) = sg2
  go_wp2_with fail
  refine hK.out _ _ ?_ (fun hHeld => ?_)
  · exact HCV2.out
  clear hK K
  try simp only [Act.put, List.getElem_toArray, List.getElem_cons_zero, List.getElem_cons_succ, List.setIfInBounds_toArray, List.set_cons_zero, List.set_cons_succ]
  refine wpAnyH_take (i := 25) (v := ?_) rfl (by kernel_rfl) (by kernel_rfl) (by kernel_rfl) (fun _ _ _ h => h) (Or.inl ⟨by rfl, ?_⟩) (by assumption) ?_
  rotate_left
  · (intro w hSw; (try dsimp only at hSw); go_simp; try with_reducible rfl)
  simp only [Act.put, List.getElem_toArray, List.getElem_cons_zero, List.getElem_cons_succ, List.setIfInBounds_toArray, List.set_cons_zero, List.set_cons_succ]
  refine wpAnyH_take (i := 26) (v := ?_) rfl (by kernel_rfl) (by kernel_rfl) (by kernel_rfl) (fun _ _ _ h => h) (Or.inl ⟨by rfl, ?_⟩) (by assumption) ?_
  rotate_left
  · (intro w hSw; (try dsimp only at hSw); go_simp; try with_reducible rfl)
  simp only [Act.put, List.getElem_toArray, List.getElem_cons_zero, List.getElem_cons_succ, List.setIfInBounds_toArray, List.set_cons_zero, List.set_cons_succ]
  refine wpAnyH_take (i := 27) (v := ?_) rfl (by kernel_rfl) (by kernel_rfl) (by kernel_rfl) (fun _ _ _ h => h) (Or.inl ⟨by rfl, ?_⟩) (by assumption) ?_
  rotate_left
  · (intro w hSw; (try dsimp only at hSw); go_simp; try with_reducible rfl)
  simp only [Act.put, List.getElem_toArray, List.getElem_cons_zero, List.getElem_cons_succ, List.setIfInBounds_toArray, List.set_cons_zero, List.set_cons_succ]
  refine wpAnyH_ready (rs := [28]) (by kernel_rfl) (by simp) ?_
  refine AllReadyH.cons rfl (fun K hK => ?_) AllReadyH.nil
  simp only [List.getElem_toArray, List.getElem_cons_zero, List.getElem_cons_succ]
  go_simp
  refine hK.out _ _ ?_ (fun hHeld => ?_)
  · exact hHeld
  clear hK K
  try simp only [Act.put, List.getElem_toArray, List.getElem_cons_zero, List.getElem_cons_succ, List.setIfInBounds_toArray, List.set_cons_zero, List.set_cons_succ]
  refine wpAnyH_done (by kernel_rfl) ?_ _
  go_wp2
  go_ret
  exact ⟨rfl, HF.out⟩
end Go.Proofs.Ytlkbaconlngmjaa
