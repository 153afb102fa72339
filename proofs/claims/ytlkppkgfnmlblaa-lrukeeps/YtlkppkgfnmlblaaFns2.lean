/-
  Package hash: free, again, add; Find, Put, Del.
-/
import Derived.Test.YtlkppkgfnmlblaaFns
namespace Go.Proofs.Ytlkppkgfnmlblaa
open Go.RowKit Go.Maps

theorem free_some {l : List (Option (List Int))} {k : Nat} (h1 : ∀ j, j < k → (l.getD j none).isSome = true) (hk : k < l.length) (h2 : l.getD k none = none) : freeP l = some k := by
  unfold freeP
  rw [List.findIdx?_eq_some_iff_getElem]
  refine ⟨hk, ?_, fun j hj => ?_⟩
  · rw [List.getD_eq_getElem?_getD, List.getElem?_eq_getElem hk] at h2
    simpa using h2
  · have := h1 j hj
    rw [List.getD_eq_getElem?_getD, List.getElem?_eq_getElem (by omega)] at this
    intro e
    simp at e this
    rw [e] at this
    cases this
theorem free_none {l : List (Option (List Int))} (h1 : ∀ j, j < l.length → (l.getD j none).isSome = true) : freeP l = none := by
  unfold freeP
  rw [List.findIdx?_eq_none_iff]
  intro s hs
  obtain ⟨j, hj, rfl⟩ := List.getElem_of_mem hs
  have := h1 j hj
  rw [List.getD_eq_getElem?_getD, List.getElem?_eq_getElem hj] at this
  simpa using this
theorem free_get {l : List (Option (List Int))} {i : Nat} (h : freeP l = some i) : l[i]? = some none := by
  unfold freeP at h
  rw [List.findIdx?_eq_some_iff_getElem] at h
  obtain ⟨hi, h1, _⟩ := h
  rw [List.getElem?_eq_getElem hi]
  simpa using h1
theorem row_cell {l : List (Option (List Int))} {k : Nat} (hk : k < 64) : (rowS l (fun _ => false))[k]? = some (.string (slotS (fun _ => false) (l.getD k none))) := by
  simp [rowS, hk]
theorem str_full {bs : List Int} (h : 1 ≤ bs.length) : (strOfNums bs).toList.isEmpty = false := by
  rw [ByteArray.toList_eq, strOfNums_data]
  cases bs with
  | nil => simp at h
  | cons a bs => rfl

set_option maxHeartbeats 2000000 in
set_option maxRecDepth 100000 in
theorem free_any {w : World} {x : HX} (h : HAt w x) : Calls Try.prog 44 #[.pointer (some ⟨x.X, 0, none⟩)] w fun e w' => e = .returned (foundV (freeP x.l)) ∧ Touch [] w w' := by
  have hz := (zero_of_info (P := Try.prog) zero64).1
  have hsz := (zero_of_info (P := Try.prog) zero64).2
  have H1 := toHid (bySlot_any h)
  have HH := toHid h
  have hm1 := h.map.many
  generalize hM : x.l.length = m at *
  have HM := toHid hM
  clear h hM
  go_enter Try.func44, Try.ntmps44
  go_wp2_with fail
  refine Calls.mono H1.out ?_
  rintro e w2 ⟨rfl, ht2⟩
  have hB := Blk.newA w2 (Array.replicate 64 (.string ⟨#[]⟩)) (List.replicate 64 (.string ⟨#[]⟩)) 69 (by simp)
  have hT := (ht2.alloc (.cells (Array.replicate 64 (.string ⟨#[]⟩)) 69)).setRow w2.heap.size (rowS x.l fun _ => false).toArray (Or.inr ht2.size)
  have hR := hB.setRow (rowS x.l fun _ => false)
  have c1 := (HH.out.touch hT (by simp) (by simp)).c1
  rw [HM.out] at c1
  have HB := toHid hB
  have HT := toHid hT
  have HR := toHid hR
  clear hB hT hR H1 ht2
  go_wp2_with (first
    | (refine wpList_store_row rfl 69 _ _ rfl w2.heap.size _ rfl rfl 69 _ HB.out (by rw [hsz]; simp [rowS_len]) (by simp [rowS_len]) (by simp [rowS, Value.oneCell']) ?_)
    | go_in)
  generalize (w2.alloc (Obj.cells (Array.replicate 64 (Value.string { data := #[] })) 69)).setRow w2.heap.size (rowS x.l fun _ => false).toArray = w3 at *
  generalize w2.heap.size = N at *
  clear c1 HB hz hsz
  generalize hRS : (rowS x.l fun _ => false).toArray = rs at *
  clear hRS
  go_loop [12] (fun t => ∃ k : Nat, k ≤ m ∧ t = .int .i64 k ∧ Hid (∀ j, j < k → (x.l.getD j none).isSome = true)) (fun t => m - (intOf t).toNat)
  case atStart => exact ⟨0, by omega, rfl, fun j hj => absurd hj (by omega)⟩
  case round =>
    obtain ⟨k, hk, rfl, HI⟩ := hrel
    by_cases hlt : k < m
    · have hcell := HR.out.cell (row_cell (l := x.l) (k := k) (by omega))
      have hkl : k < x.l.length := by rw [HM.out]; exact hlt
      have hk64 : k < 64 := by omega
      have hkm : (k : Int) < m := by omega
      cases hs : x.l.getD k none with
      | none =>
        rw [hs] at hcell
        unfold slotS at hcell
        have HF := toHid (free_some HI.out hkl hs)
        clear hs hkl HI
        go_wp2
        go_ret2
        exact ⟨by rw [HF.out]; rfl, HT.out⟩
      | some bs =>
        rw [hs] at hcell
        have hmem : some bs ∈ x.l := by
          rw [List.getD_eq_getElem?_getD, List.getElem?_eq_getElem hkl] at hs
          simp only [Option.getD_some] at hs
          rw [← hs]
          exact List.getElem_mem hkl
        have hfull := str_full (bs := bs) (by rw [(HH.out.map.keys bs hmem).2]; exact HH.out.map.s1)
        have hcell' : w3.cell? ⟨N, k, none⟩ = some (.string (strOfNums bs)) := hcell
        have HN : Hid (∀ j, j < k + 1 → (x.l.getD j none).isSome = true) := fun j hj => by
          by_cases hjk : j < k
          · exact HI.out j hjk
          · obtain rfl : j = k := by omega
            rw [hs]
            rfl
        generalize strOfNums bs = A at *
        clear hs hkl HI hcell hmem
        go_wp2
        exact ⟨⟨k + 1, by omega, by go_num, HN⟩, by simp [intOf]; omega⟩
    · obtain rfl : k = m := by omega
      have HF := toHid (free_none (l := x.l) (fun j hj => HI.out j (by rw [← HM.out]; exact hj)))
      go_wp2
      go_ret2
      exact ⟨by rw [HF.out]; rfl, HT.out⟩

theorem again_any (w : World) (s fl : Int) : Calls Try.prog 34 #[.int .i64 s, .int .u64 fl] w fun e w' => e = .returned (.tuple #[.int .i64 (if fl = 1 then 0 else s), .bool false, .int .i64 (if fl = 1 then 70 else 0)]) ∧ w' = w := by
  by_cases h : fl = 1
  · subst h
    go_enter Try.func34, Try.ntmps34
    go_wp2
    go_ret3
    exact ⟨rfl, rfl⟩
  · rw [if_neg h, if_neg h]
    have h1 : (fl == 1) = false := by simpa using h
    clear h
    go_enter Try.func34, Try.ntmps34
    go_wp2
    go_ret3
    exact ⟨rfl, rfl⟩

/-- Find, of a hash. -/
def HX.find (x : HX) (bs : List Int) : Option Nat := if bs.length = x.size then sameP x.l bs else none
set_option maxHeartbeats 2000000 in
set_option maxRecDepth 100000 in
theorem find_any {w : World} {x : HX} (h : HAt w x) {sa : Option Addr} {sl : Nat} {bs : List Int} (hk : KeyAt w sa sl bs) (sc : Nat) :
    Calls Try.prog 21 #[.pointer (some ⟨x.X, 0, none⟩), .slice sa sl sc] w fun e w' => e = .returned (foundV (x.find bs)) ∧ Touch [] w w' := by
  have hl := hk.1
  have hb := hk.2.2.1
  have c0 := h.c0
  by_cases h4 : bs.length = x.size
  · have hd := (Touch.refl [] w).drew
    have d2 := (h.touch hd (by simp) (by simp)).c2
    have hcv := (hk.touch hd).conv sc
    have hlk := (h.touch hd (by simp) (by simp)).map.look hk.2.1 h4
    rw [show x.find bs = sameP x.l bs from if_pos h4]
    obtain rfl : sl = x.size := by omega
    unfold foundV at *
    generalize idx0 (sameP x.l bs) = q at *
    generalize (sameP x.l bs).isSome = p at *
    generalize strOfNums bs = A at *
    clear h hk hl hb h4
    go_enter Try.func21, Try.ntmps21
    go_wp2_with fail
    go_region
    go_wp2
    go_ret2
    exact ⟨rfl, hd⟩
  · have hs : ((sl : Int) != x.size) = true := by simp; omega
    rw [show x.find bs = none from if_neg h4]
    clear h hk hl h4
    go_enter Try.func21, Try.ntmps21
    go_wp2
    go_ret2
    exact ⟨rfl, Touch.refl _ _⟩

/-- Put, of a hash. -/
def HX.put (x : HX) (bs : List Int) (fl : Int) : (Int × Bool × Int) × List (Option (List Int)) :=
  if bs.length = x.size then
    if 2 < fl then ((0, false, 72), x.l)
    else match sameP x.l bs with
      | some i => if fl = 1 then ((0, false, 70), x.l) else (((i : Int), false, 0), x.l)
      | none => if fl = 2 then ((0, false, 14), x.l) else match freeP x.l with
        | some f => (((f : Int), true, 0), x.l.set f (some bs))
        | none => ((0, false, 71), x.l)
  else ((0, false, 2), x.l)
def HX.addP (x : HX) (bs : List Int) (fl : Int) : (Int × Bool × Int) × List (Option (List Int)) :=
  if fl = 2 then ((0, false, 14), x.l) else match freeP x.l with
    | some f => (((f : Int), true, 0), x.l.set f (some bs))
    | none => ((0, false, 71), x.l)
def HX.with (x : HX) (l : List (Option (List Int))) : HX := { x with l := l }
theorem HX.with_self (x : HX) : x.with x.l = x := rfl
def HPutPost (w : World) (x : HX) (a : (Int × Bool × Int) × List (Option (List Int))) (e : Ending) (w' : World) : Prop :=
  e = .returned (.tuple #[.int .i64 a.1.1, .bool a.1.2.1, .int .i64 a.1.2.2]) ∧ HAt w' (x.with a.2) ∧ Touch [x.b] w w'
/-- A world in which the map is turned. -/
theorem HAt.turned {w w' : World} {x : HX} (h : HAt w x) (l : List (Option (List Int))) (hl : l.length = x.l.length) (hm : HM w' x.b x.size l) (ht : Touch [x.b] w w') : HAt w' (x.with l) :=
  ⟨by show Blk w' x.X [.int .i64 (x.size : Int), .int .i64 (l.length : Int), .map (some x.b)] 75; rw [hl]; exact ht.blk h.self (by simpa using h.ne), hm, by show 1 ≤ l.length; rw [hl]; exact h.m1, h.ne⟩

set_option maxHeartbeats 2000000 in
set_option maxRecDepth 100000 in
theorem add_any {w : World} {x : HX} (h : HAt w x) {sa : Option Addr} {sl : Nat} {bs : List Int} (hk : KeyAt w sa sl bs) (hs : bs.length = x.size) (hno : sameP x.l bs = none) (sc : Nat) (fl : Int) :
    Calls Try.prog 35 #[.pointer (some ⟨x.X, 0, none⟩), .slice sa sl sc, .int .u64 fl] w (HPutPost w x (x.addP bs fl)) := by
  unfold HX.addP
  by_cases h2 : fl = 2
  · subst h2
    rw [if_pos rfl]
    have HH := toHid h
    clear h hk hs hno
    go_enter Try.func35, Try.ntmps35
    go_wp2
    go_ret3
    exact ⟨rfl, HH.out, Touch.refl _ _⟩
  · rw [if_neg h2]
    have h2' : (fl == 2) = false := by simpa using h2
    have H1 := toHid (free_any h)
    have HH := toHid (And.intro h (And.intro hk (And.intro hs hno)))
    clear h hk hs hno h2
    cases hf : freeP x.l with
    | none =>
      rw [hf] at H1
      unfold foundV idx0 Option.isSome at H1
      clear hf
      go_enter Try.func35, Try.ntmps35
      go_wp2_with fail
      refine Calls.mono H1.out ?_
      rintro e w2 ⟨rfl, ht2⟩
      have HF : Hid (HPutPost w x ((0, false, 71), x.l) (.returned (.tuple #[.int .i64 0, .bool false, .int .i64 71])) w2) := ⟨rfl, HH.out.1.touch ht2 (by simp) (by simp), ht2.nil⟩
      clear ht2 H1
      go_wp2
      go_ret3
      exact HF.out
    | some f =>
      rw [hf] at H1
      have HG := toHid (free_get hf)
      unfold foundV idx0 Option.isSome at H1
      clear hf
      go_enter Try.func35, Try.ntmps35
      go_wp2_with fail
      refine Calls.mono H1.out ?_
      rintro e w2 ⟨rfl, ht2⟩
      have htd := ht2.drew
      have hA := HH.out.1.touch htd (by simp) (by simp)
      have d2 := hA.c2
      have hcv := (HH.out.2.1.touch htd).conv sc
      obtain ⟨w3, hst, hM, ht3⟩ := hA.map.store HH.out.2.1.2.1 HH.out.2.2.1 HG.out HH.out.2.2.2
      have HF : Hid (HPutPost w x (((f : Int), true, 0), x.l.set f (some bs)) (.returned (.tuple #[.int .i64 f, .bool true, .int .i64 0])) w3) := ⟨rfl, hA.turned _ (by simp) hM ht3, htd.nil.trans ht3 (fun y hy => Or.inl hy)⟩
      generalize strOfNums bs = A at *
      clear ht2 H1 hA htd hM ht3 HG
      go_wp2_with fail
      go_region
      go_wp2
      go_ret3
      exact HF.out
end Go.Proofs.Ytlkppkgfnmlblaa
