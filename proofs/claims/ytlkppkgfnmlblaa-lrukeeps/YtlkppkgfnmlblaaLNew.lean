/-
  Package lru: Del, New; of a nil index.
-/
import Derived.Test.YtlkppkgfnmlblaaLOps
namespace Go.Proofs.Ytlkppkgfnmlblaa
open Go.RowKit Go.Maps

/-- Del. -/
def LX.del (x : LX) (bs : List Int) : (Int × Int) × List (Option (List Int)) × List Nat :=
  if bs.length = x.size then match sameP x.l bs with
    | some i => (((i : Int), 0), x.l.set i none, x.ord.filter (fun y => y != i))
    | none => ((0, 14), x.l, x.ord)
  else ((0, 2), x.l, x.ord)
def LDelPost (w : World) (x : LX) (a : (Int × Int) × List (Option (List Int)) × List Nat) (e : Ending) (w' : World) : Prop :=
  e = .returned (.tuple #[.int .i64 a.1.1, .int .i64 a.1.2]) ∧ LStep w x a.2.1 a.2.2 w'
set_option maxHeartbeats 2000000 in
set_option maxRecDepth 100000 in
theorem ldel_any {w : World} {x : LX} (h : LAt w x) {sa : Option Addr} {sl : Nat} {bs : List Int} (hk : KeyAt w sa sl bs) (sc : Nat) :
    Calls Try.prog 16 #[.pointer (some ⟨x.X, 0, none⟩), .slice sa sl sc] w (LDelPost w x (x.del bs)) := by
  have hl := hk.1
  have hb := hk.2.2.1
  have c0 := h.c0
  unfold LX.del
  by_cases h4 : bs.length = x.size
  · rw [if_pos h4]
    obtain rfl : sl = x.size := by omega
    have hd := (Touch.refl [] w).drew
    have hA := h.still hd
    have d2 := hA.c2
    have hcv := (hk.touch hd).conv sc
    have hlk := hA.map.look hk.2.1 h4
    cases hsm : sameP x.l bs with
    | none =>
      rw [hsm] at hlk
      unfold foundV idx0 Option.isSome at hlk
      have HF : Hid (LDelPost w x ((0, 14), x.l, x.ord) (.returned (.tuple #[.int .i64 0, .int .i64 14])) w.drew) := ⟨rfl, LStep.same hA hd⟩
      generalize strOfNums bs = A at *
      clear h hk hl hb h4 hsm hA hd
      go_enter Try.func16, Try.ntmps16
      go_wp2_with fail
      go_region
      go_wp2
      go_ret2
      exact HF.out
    | some i =>
      rw [hsm] at hlk
      unfold foundV idx0 Option.isSome at hlk
      have hd2 := hd.drew
      have hA2 := h.still hd2
      have e2 := hA2.c2
      have hcv2 := (hk.touch hd2).conv sc
      obtain ⟨w3, hdr, hM, ht3⟩ := hA2.map.drop (same_get hsm) 0
      have hA3 := hA2.mapped _ (by simp) hM ht3
      have htw : Touch x.own w w3 := hd2.nil.trans (ht3.mono (S' := x.own) (fun y hy => Or.inl (by simp at hy; rw [hy]; exact x.mem_b))) (fun y hy => Or.inl hy)
      have H1 := toHid (take_any hA3 i)
      have HT := toHid htw
      generalize strOfNums bs = A at *
      clear h hk hl hb h4 hsm hA hd hM ht3 hA2 hd2 hA3 htw
      go_enter Try.func16, Try.ntmps16
      go_wp2_with fail
      go_region
      go_wp2_with fail
      clear hcv hlk d2
      go_region
      go_wp2_with fail
      refine Calls.mono H1.out ?_
      rintro e w4 ⟨rfl, hA4, ht4⟩
      have HF : Hid (LDelPost w x (((i : Int), 0), x.l.set i none, x.ord.filter (fun y => y != i)) (.returned (.tuple #[.int .i64 i, .int .i64 0])) w4) :=
        ⟨rfl, x.g, x.cap, hA4, HT.out.trans (ht4.mono (S' := x.own) (fun y hy => Or.inl (own_sub hy))) (fun y hy => Or.inl hy), fun b hb => Or.inl (LX.mem_g hb)⟩
      clear hA4 ht4 H1
      go_wp2
      go_ret2
      exact HF.out
  · have hs : ((sl : Int) != x.size) = true := by simp; omega
    rw [if_neg h4]
    have HF : Hid (LDelPost w x ((0, 2), x.l, x.ord) (.returned (.tuple #[.int .i64 0, .int .i64 2])) w) := ⟨rfl, LStep.same h (Touch.refl _ _)⟩
    clear h hk hl h4
    go_enter Try.func16, Try.ntmps16
    go_wp2
    go_ret2
    exact HF.out

/-- Of a nil index. -/
theorem lnil_find (w : World) (sa : Option Addr) (sl sc : Nat) : Calls Try.prog 14 #[.pointer none, .slice sa sl sc] w fun e w' => e = .returned (.tuple #[.int .i64 0, .bool false]) ∧ w' = w := by
  go_enter Try.func14, Try.ntmps14
  go_wp2
  go_ret2
  exact ⟨rfl, rfl⟩
theorem lnil_put (w : World) (sa : Option Addr) (sl sc : Nat) (fl : Int) : Calls Try.prog 15 #[.pointer none, .slice sa sl sc, .int .u64 fl] w fun e w' => e = .returned (.tuple #[.int .i64 0, .bool false, .int .i64 1]) ∧ w' = w := by
  go_enter Try.func15, Try.ntmps15
  go_wp2
  go_ret3
  exact ⟨rfl, rfl⟩
theorem lnil_del (w : World) (sa : Option Addr) (sl sc : Nat) : Calls Try.prog 16 #[.pointer none, .slice sa sl sc] w fun e w' => e = .returned (.tuple #[.int .i64 0, .int .i64 1]) ∧ w' = w := by
  go_enter Try.func16, Try.ntmps16
  go_wp2
  go_ret2
  exact ⟨rfl, rfl⟩
theorem lnil_keys (w : World) : Calls Try.prog 12 #[.pointer none] w fun e w' => e = .returned (.slice none 0 0) ∧ w' = w := by
  go_enter Try.func12, Try.ntmps12
  go_wp2
  go_ret
  exact ⟨rfl, rfl⟩
theorem lnil_copy (w : World) : Calls Try.prog 17 #[.pointer none] w fun e w' => e = .returned (.pointer none) ∧ w' = w := by
  go_enter Try.func17, Try.ntmps17
  go_wp2
  go_ret
  exact ⟨rfl, rfl⟩

def LNewPost (w : World) (size m : Nat) (e : Ending) (w' : World) : Prop := ∃ X b, e = .returned (.tuple #[.pointer (some ⟨X, 0, none⟩), .int .i64 0]) ∧ LAt w' ⟨X, b, size, List.replicate m none, none, 0, []⟩ ∧ w.heap.size ≤ X ∧ w.heap.size ≤ b ∧ Touch [] w w'
set_option maxHeartbeats 1000000 in
set_option maxRecDepth 100000 in
theorem lnew_any (w : World) (size m : Nat) (s1 : 1 ≤ size) (s2 : size ≤ 16) (h1 : 1 ≤ m) (h2 : m ≤ 64) : Calls Try.prog 8 #[.int .i64 (size : Int), .int .i64 (m : Int)] w (LNewPost w size m) := by
  have hmm := @run_makeMap Try.prog
  have b1 := HM.made w s1 s2 h2
  have b2 := Blk.newA (w.alloc (.map #[] 0)) #[.int .i64 (size : Int), .int .i64 (m : Int), .map (some w.heap.size), .slice none 0 0] _ 60 rfl
  have HF : Hid (LNewPost w size m (.returned (.tuple #[.pointer (some ⟨w.heap.size + 1, 0, none⟩), .int .i64 0])) ((w.alloc (.map #[] 0)).alloc (.cells #[.int .i64 (size : Int), .int .i64 (m : Int), .map (some w.heap.size), .slice none 0 0] 60))) := by
    refine ⟨_, w.heap.size, rfl, ⟨?_, b1.touch ((Touch.refl [] _).alloc _) (by simp), ⟨rfl, Nat.le_refl _, (Nat.zero_le _ : 0 ≤ maxLen), rfl⟩, by simpa using h1, by simp, by simp [LX.own]⟩, by omega, by omega, ((Touch.refl [] w).alloc _).alloc _⟩
    rw [World.size_alloc] at b2
    simpa [slV] using b2
  clear b1 b2
  go_enter Try.func8, Try.ntmps8
  go_wp2
  go_ret2
  exact HF.out
theorem lnew_bad (w : World) (size m : Int) (h1 : ¬ (1 ≤ m ∧ m ≤ 64 ∧ 1 ≤ size ∧ size ≤ 16)) : Calls Try.prog 8 #[.int .i64 size, .int .i64 m] w fun e w' => e = .returned (.tuple #[.pointer none, .int .i64 2]) ∧ w' = w := by
  by_cases a3 : size < 1
  · clear h1
    go_enter Try.func8, Try.ntmps8
    go_wp2
    go_ret2
    exact ⟨rfl, rfl⟩
  · by_cases a4 : 16 < size
    · clear h1
      go_enter Try.func8, Try.ntmps8
      go_wp2
      go_ret2
      exact ⟨rfl, rfl⟩
    · by_cases a1 : m < 1
      · clear h1
        go_enter Try.func8, Try.ntmps8
        go_wp2
        go_ret2
        exact ⟨rfl, rfl⟩
      · have a2 : 64 < m := by omega
        clear h1
        go_enter Try.func8, Try.ntmps8
        go_wp2
        go_ret2
        exact ⟨rfl, rfl⟩
end Go.Proofs.Ytlkppkgfnmlblaa
