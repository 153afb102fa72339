/-
  Package hash: Put, Del, New; of a nil index.
-/
import Derived.Test.YtlkppkgfnmlblaaFns2
namespace Go.Proofs.Ytlkppkgfnmlblaa
open Go.RowKit Go.Maps

set_option maxHeartbeats 2000000 in
set_option maxRecDepth 100000 in
theorem put_any {w : World} {x : HX} (h : HAt w x) {sa : Option Addr} {sl : Nat} {bs : List Int} (hk : KeyAt w sa sl bs) (sc : Nat) (fl : Int) (_f0 : 0 ≤ fl) :
    Calls Try.prog 22 #[.pointer (some ⟨x.X, 0, none⟩), .slice sa sl sc, .int .u64 fl] w (HPutPost w x (x.put bs fl)) := by
  have hl := hk.1
  have hb := hk.2.2.1
  have c0 := h.c0
  unfold HX.put
  by_cases h4 : bs.length = x.size
  · rw [if_pos h4]
    obtain rfl : sl = x.size := by omega
    by_cases hf : 2 < fl
    · rw [if_pos hf]
      have HH := toHid h
      clear h hk hl hb h4
      go_enter Try.func22, Try.ntmps22
      go_wp2
      go_ret3
      exact ⟨rfl, HH.out, Touch.refl _ _⟩
    · rw [if_neg hf]
      have hd := (Touch.refl [] w).drew
      have hA := h.touch hd (by simp) (by simp)
      have d2 := hA.c2
      have hcv := (hk.touch hd).conv sc
      have hlk := hA.map.look hk.2.1 h4
      cases hsm : sameP x.l bs with
      | none =>
        rw [hsm] at hlk
        unfold foundV idx0 Option.isSome at hlk
        have H2 := toHid (add_any hA (hk.touch hd) h4 hsm sc fl)
        show Calls Try.prog 22 _ w (HPutPost w x (x.addP bs fl))
        generalize x.addP bs fl = pr at *
        have HD := toHid hd
        generalize strOfNums bs = A at *
        clear h hk hl hb h4 hsm hA hd
        go_enter Try.func22, Try.ntmps22
        go_wp2_with fail
        go_region
        go_wp2_with fail
        refine Calls.mono H2.out ?_
        rintro e w3 ⟨rfl, hA3, ht3⟩
        have HF : Hid (HPutPost w x pr (.returned (.tuple #[.int .i64 pr.1.1, .bool pr.1.2.1, .int .i64 pr.1.2.2])) w3) := ⟨rfl, hA3, HD.out.nil.trans ht3 (fun y hy => Or.inl hy)⟩
        clear hA3 ht3 H2
        go_wp2
        go_ret3
        exact HF.out
      | some i =>
        rw [hsm] at hlk
        unfold foundV idx0 Option.isSome at hlk
        have H2 := toHid (again_any w.drew (i : Int) fl)
        have hpr : (if fl = 1 then ((0, false, 70), x.l) else (((i : Int), false, 0), x.l) : (Int × Bool × Int) × List (Option (List Int))) = (((if fl = 1 then 0 else (i : Int)), false, (if fl = 1 then 70 else 0)), x.l) := by
          by_cases e : fl = 1 <;> simp [e]
        show Calls Try.prog 22 _ w (HPutPost w x (if fl = 1 then ((0, false, 70), x.l) else (((i : Int), false, 0), x.l)))
        rw [hpr]
        generalize (if fl = 1 then 0 else (i : Int)) = p at *
        generalize (if fl = 1 then (70 : Int) else 0) = q at *
        have HD := toHid (And.intro hd hA)
        generalize strOfNums bs = A at *
        clear h hk hl hb h4 hsm hA hd hpr
        go_enter Try.func22, Try.ntmps22
        go_wp2_with fail
        go_region
        go_wp2_with fail
        refine Calls.mono H2.out ?_
        rintro e w3 ⟨rfl, rfl⟩
        go_wp2
        go_ret3
        exact ⟨rfl, HD.out.2, HD.out.1.nil⟩
  · have hs : ((sl : Int) != x.size) = true := by simp; omega
    rw [if_neg h4]
    have HH := toHid h
    clear h hk hl h4
    go_enter Try.func22, Try.ntmps22
    go_wp2
    go_ret3
    exact ⟨rfl, HH.out, Touch.refl _ _⟩

/-- Del, of a hash. -/
def HX.del (x : HX) (bs : List Int) : (Int × Int) × List (Option (List Int)) :=
  if bs.length = x.size then match sameP x.l bs with
    | some i => (((i : Int), 0), x.l.set i none)
    | none => ((0, 14), x.l)
  else ((0, 2), x.l)
def HDelPost (w : World) (x : HX) (a : (Int × Int) × List (Option (List Int))) (e : Ending) (w' : World) : Prop :=
  e = .returned (.tuple #[.int .i64 a.1.1, .int .i64 a.1.2]) ∧ HAt w' (x.with a.2) ∧ Touch [x.b] w w'
set_option maxHeartbeats 2000000 in
set_option maxRecDepth 100000 in
theorem del_any {w : World} {x : HX} (h : HAt w x) {sa : Option Addr} {sl : Nat} {bs : List Int} (hk : KeyAt w sa sl bs) (sc : Nat) :
    Calls Try.prog 23 #[.pointer (some ⟨x.X, 0, none⟩), .slice sa sl sc] w (HDelPost w x (x.del bs)) := by
  have hl := hk.1
  have hb := hk.2.2.1
  have c0 := h.c0
  unfold HX.del
  by_cases h4 : bs.length = x.size
  · rw [if_pos h4]
    obtain rfl : sl = x.size := by omega
    have hd := (Touch.refl [] w).drew
    have hA := h.touch hd (by simp) (by simp)
    have d2 := hA.c2
    have hcv := (hk.touch hd).conv sc
    have hlk := hA.map.look hk.2.1 h4
    cases hsm : sameP x.l bs with
    | none =>
      rw [hsm] at hlk
      unfold foundV idx0 Option.isSome at hlk
      have HD := toHid (And.intro hd hA)
      generalize strOfNums bs = A at *
      clear h hk hl hb h4 hsm hA hd
      go_enter Try.func23, Try.ntmps23
      go_wp2_with fail
      go_region
      go_wp2
      go_ret2
      exact ⟨rfl, HD.out.2, HD.out.1.nil⟩
    | some i =>
      rw [hsm] at hlk
      unfold foundV idx0 Option.isSome at hlk
      have hd2 := hd.drew
      have hA2 := h.touch hd2 (by simp) (by simp)
      have e2 := hA2.c2
      have hcv2 := (hk.touch hd2).conv sc
      obtain ⟨w3, hdr, hM, ht3⟩ := hA2.map.drop (same_get hsm) 0
      have HF : Hid (HDelPost w x (((i : Int), 0), x.l.set i none) (.returned (.tuple #[.int .i64 i, .int .i64 0])) w3) := ⟨rfl, hA2.turned _ (by simp) hM ht3, hd2.nil.trans ht3 (fun y hy => Or.inl hy)⟩
      generalize strOfNums bs = A at *
      clear h hk hl hb h4 hsm hA hd hM ht3 hA2 hd2
      go_enter Try.func23, Try.ntmps23
      go_wp2_with fail
      go_region
      go_wp2_with fail
      clear hcv hlk d2
      go_region
      go_wp2
      go_ret2
      exact HF.out
  · have hs : ((sl : Int) != x.size) = true := by simp; omega
    rw [if_neg h4]
    have HH := toHid h
    clear h hk hl h4
    go_enter Try.func23, Try.ntmps23
    go_wp2
    go_ret2
    exact ⟨rfl, HH.out, Touch.refl _ _⟩

/-- Of a nil index. -/
theorem nil_find (w : World) (sa : Option Addr) (sl sc : Nat) : Calls Try.prog 21 #[.pointer none, .slice sa sl sc] w fun e w' => e = .returned (.tuple #[.int .i64 0, .bool false]) ∧ w' = w := by
  go_enter Try.func21, Try.ntmps21
  go_wp2
  go_ret2
  exact ⟨rfl, rfl⟩
theorem nil_put (w : World) (sa : Option Addr) (sl sc : Nat) (fl : Int) : Calls Try.prog 22 #[.pointer none, .slice sa sl sc, .int .u64 fl] w fun e w' => e = .returned (.tuple #[.int .i64 0, .bool false, .int .i64 1]) ∧ w' = w := by
  go_enter Try.func22, Try.ntmps22
  go_wp2
  go_ret3
  exact ⟨rfl, rfl⟩
theorem nil_del (w : World) (sa : Option Addr) (sl sc : Nat) : Calls Try.prog 23 #[.pointer none, .slice sa sl sc] w fun e w' => e = .returned (.tuple #[.int .i64 0, .int .i64 1]) ∧ w' = w := by
  go_enter Try.func23, Try.ntmps23
  go_wp2
  go_ret2
  exact ⟨rfl, rfl⟩
theorem nil_keys (w : World) : Calls Try.prog 24 #[.pointer none] w fun e w' => e = .returned (.slice none 0 0) ∧ w' = w := by
  go_enter Try.func24, Try.ntmps24
  go_wp2
  go_ret
  exact ⟨rfl, rfl⟩
def HNewPost (w : World) (size m : Nat) (e : Ending) (w' : World) : Prop := ∃ X b, e = .returned (.tuple #[.pointer (some ⟨X, 0, none⟩), .int .i64 0]) ∧ HAt w' ⟨X, b, size, List.replicate m none⟩ ∧ w.heap.size ≤ X ∧ w.heap.size ≤ b ∧ Touch [] w w'
set_option maxHeartbeats 1000000 in
set_option maxRecDepth 100000 in
theorem new_any (w : World) (size m : Nat) (s1 : 1 ≤ size) (s2 : size ≤ 16) (h1 : 1 ≤ m) (h2 : m ≤ 64) : Calls Try.prog 20 #[.int .i64 (size : Int), .int .i64 (m : Int)] w (HNewPost w size m) := by
  have hmm := @run_makeMap Try.prog
  have b1 := HM.made w s1 s2 h2
  have b2 := Blk.newA (w.alloc (.map #[] 0)) #[.int .i64 (size : Int), .int .i64 (m : Int), .map (some w.heap.size)] _ 75 rfl
  have HF : Hid (HNewPost w size m (.returned (.tuple #[.pointer (some ⟨w.heap.size + 1, 0, none⟩), .int .i64 0])) ((w.alloc (.map #[] 0)).alloc (.cells #[.int .i64 (size : Int), .int .i64 (m : Int), .map (some w.heap.size)] 75))) := by
    refine ⟨_, w.heap.size, rfl, ⟨?_, b1.touch ((Touch.refl [] _).alloc _) (by simp), by simpa using h1, by show w.heap.size + 1 ≠ w.heap.size; omega⟩, by omega, by omega, ((Touch.refl [] w).alloc _).alloc _⟩
    rw [World.size_alloc] at b2
    simpa using b2
  clear b1 b2
  go_enter Try.func20, Try.ntmps20
  go_wp2
  go_ret2
  exact HF.out
theorem new_bad (w : World) (size m : Int) (h1 : ¬ (1 ≤ m ∧ m ≤ 64 ∧ 1 ≤ size ∧ size ≤ 16)) : Calls Try.prog 20 #[.int .i64 size, .int .i64 m] w fun e w' => e = .returned (.tuple #[.pointer none, .int .i64 2]) ∧ w' = w := by
  by_cases a3 : size < 1
  · clear h1
    go_enter Try.func20, Try.ntmps20
    go_wp2
    go_ret2
    exact ⟨rfl, rfl⟩
  · by_cases a4 : 16 < size
    · clear h1
      go_enter Try.func20, Try.ntmps20
      go_wp2
      go_ret2
      exact ⟨rfl, rfl⟩
    · by_cases a1 : m < 1
      · clear h1
        go_enter Try.func20, Try.ntmps20
        go_wp2
        go_ret2
        exact ⟨rfl, rfl⟩
      · have a2 : 64 < m := by omega
        clear h1
        go_enter Try.func20, Try.ntmps20
        go_wp2
        go_ret2
        exact ⟨rfl, rfl⟩
end Go.Proofs.Ytlkppkgfnmlblaa
