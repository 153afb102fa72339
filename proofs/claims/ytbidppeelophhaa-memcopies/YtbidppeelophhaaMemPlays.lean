/-
  For every input MemPlays returns true, and each argument reads afterwards as it read before. No conditions. (The walk.)
-/
import Derived.Test.YtbidppeelophhaaOneAll
import Derived.Test.YtbidppeelophhaaFirst
namespace Go.Proofs.Ytbidppeelophhaa
open Go.RowKit

/-- A call of a script: its numbers and its bytes. -/
structure OpC where
  k : Int
  a : Int
  n : Int
  m : Int
  v : Int
  sa : Option Addr
  sl : Nat
  sc : Nat
  bs : List Int
structure OpC.Ok (w0 : World) (o : OpC) : Prop where
  a0 : 0 ≤ o.a
  a1 : o.a ≤ 18446744073709551615
  n1 : o.n ≤ 9223372036854775807
  v0 : 0 ≤ o.v
  v1 : o.v ≤ 18446744073709551615
  arg : ArgIn w0 o.sa o.sl o.bs
/-- A script that came in. -/
def Script (w0 : World) (sa : Option Addr) (n : Nat) (f : Nat → OpC) : Prop := n = 0 ∨ ∃ b off, sa = some ⟨b, off, none⟩ ∧ ∀ j, j < n → (f j).Ok w0 ∧ w0.cell? ⟨b, off + j * 6, none⟩ = some (.int .i64 (f j).k) ∧ w0.cell? ⟨b, off + j * 6 + 1, none⟩ = some (.int .u64 (f j).a) ∧
  w0.cell? ⟨b, off + j * 6 + 2, none⟩ = some (.int .i64 (f j).n) ∧ w0.cell? ⟨b, off + j * 6 + 3, none⟩ = some (.int .i64 (f j).m) ∧ w0.cell? ⟨b, off + j * 6 + 4, none⟩ = some (.int .u64 (f j).v) ∧ w0.cell? ⟨b, off + j * 6 + 5, none⟩ = some (.slice (f j).sa (f j).sl (f j).sc)

/-- Both memories new. -/
theorem pair_new {w0 w : World} (m : Nat) (hM : MemAt w (MS.new m)) (ht : Touch [] w0 w) (hm : w0.heap.size ≤ m) : Pair w0 (w.alloc (.cells #[.slice none 0 0] 29)) (MS.new m) ⟨w.heap.size, none, 0, []⟩ where
  mem := hM.touch ((Touch.refl [] w).alloc _) (by simp)
  ref :=
    { self := Blk.newA w #[.slice none 0 0] _ 29 rfl
      row := ⟨rfl, Nat.le_refl _, Nat.zero_le _, rfl⟩
      regs := fun r hr => by cases hr
      ok := fun r hr => by cases hr
      apart := by simp [RS.blocks]
      many := by simp }
  apart := fun x hx hy => by
    have := hM.lt x hx
    simp [RS.blocks] at hy
    omega
  own := fun x hx => by
    simp [MS.blocks, MS.new] at hx
    omega
  own' := fun x hx => by
    simp [RS.blocks] at hx
    have := ht.size
    omega
  touch := ht.alloc _

set_option maxHeartbeats 4000000 in
set_option maxRecDepth 100000 in
theorem memPlays_walk (sa : Option Addr) (n c : Nat) (f : Nat → OpC) (w : World) (hs : Script w sa n f) (hn : n ≤ 9223372036854775807) :
    Calls Try.prog 3 #[.slice sa n c] w fun e w' => e = .returned (.bool true) ∧ Touch [] w w' := by
  have HS := toHid hs
  clear hs
  go_enter Try.func3, Try.ntmps3
  go_wp2_with fail
  refine (first_any w).mono ?_
  rintro e w2 ⟨rfl, ht2⟩
  have HT2 := toHid ht2
  clear ht2
  go_wp2_with fail
  refine (newM_any _).mono ?_
  rintro e w3 ⟨rfl, hM3, ht3⟩
  have HP := toHid (pair_new (w0 := w) w2.heap.size hM3 (HT2.out.trans ht3 (by simp)) HT2.out.size)
  generalize w2.heap.size = M at *
  clear hM3 ht3 HT2
  go_wp2_with fail
  generalize w3.heap.size = R at *
  go_loopw [14] (fun x w' => ∃ k : Nat, k ≤ n ∧ k ≤ 60 ∧ x = .int .i64 k ∧ Hid (∃ s t, Pair w w' s t ∧ Rel s.rs s.next t.all ∧ s.m = M ∧ t.m = R ∧ t.all.length ≤ k)) (fun x _ => n - (intOf x).toNat)
  case atStart => exact ⟨0, by omega, by omega, rfl, _, _, HP.out, Rel.empty, rfl, rfl, by simp⟩
  case round =>
    obtain ⟨k, hk, hk6, rfl, HI⟩ := hrel
    by_cases hlt : k < n
    · obtain ⟨s, t, hP, hR, hsM, htR, hlen⟩ := HI.out
      obtain ⟨b, off, hsa, hcell⟩ : ∃ b off, sa = some ⟨b, off, none⟩ ∧ ∀ j, j < n → (f j).Ok w ∧ w.cell? ⟨b, off + j * 6, none⟩ = some (.int .i64 (f j).k) ∧ w.cell? ⟨b, off + j * 6 + 1, none⟩ = some (.int .u64 (f j).a) ∧
          w.cell? ⟨b, off + j * 6 + 2, none⟩ = some (.int .i64 (f j).n) ∧ w.cell? ⟨b, off + j * 6 + 3, none⟩ = some (.int .i64 (f j).m) ∧ w.cell? ⟨b, off + j * 6 + 4, none⟩ = some (.int .u64 (f j).v) ∧ w.cell? ⟨b, off + j * 6 + 5, none⟩ = some (.slice (f j).sa (f j).sl (f j).sc) := by
        rcases HS.out with h | h
        · omega
        · exact h
      subst hsa
      obtain ⟨ok, c0, c1, c2, c3, c4, c5⟩ := hcell k hlt
      replace c0 := hP.touch.cell c0 (by simp)
      replace c1 := hP.touch.cell c1 (by simp)
      replace c2 := hP.touch.cell c2 (by simp)
      replace c3 := hP.touch.cell c3 (by simp)
      replace c4 := hP.touch.cell c4 (by simp)
      replace c5 := hP.touch.cell c5 (by simp)
      generalize f k = o at *
      have hkn : (k : Int) < n := by omega
      by_cases h60 : k = 60
      · have h60' : (60 : Int) ≤ k := by omega
        have HTT := toHid (hP.touch.alloc (.cells #[.int .i64 o.k, .int .u64 o.a, .int .i64 o.n, .int .i64 o.m, .int .u64 o.v, .slice o.sa o.sl o.sc] 33))
        clear hP hR hcell HI ok h60
        go_wp2
        go_ret
        exact ⟨rfl, HTT.out⟩
      · have h60' : ¬ (60 : Int) ≤ k := by omega
        have hP1 := hP.still ((Touch.refl [] wr).alloc (.cells #[.int .i64 o.k, .int .u64 o.a, .int .i64 o.n, .int .i64 o.m, .int .u64 o.v, .slice o.sa o.sl o.sc] 33))
        have H1 := toHid (one_any hP1 hR (by omega) o.k o.a o.n o.m o.v o.sa o.sl o.sc ok.a0 ok.a1 ok.n1 ok.v0 ok.v1 o.bs ok.arg)
        rw [hsM, htR] at H1
        simp only [opV] at H1
        have HL := toHid hlen
        have HM := toHid (And.intro hsM htR)
        clear hP hR hcell HI ok h60 hP1 hsM htR hlen
        go_wp2_with fail
        refine H1.out.mono ?_
        rintro e w4 ⟨rfl, s', t', hP4, hR4, hs4, ht4, hl4⟩
        have hs5 := hs4.trans HM.out.1
        have ht5 := ht4.trans HM.out.2
        have H2 := toHid (count_any hP4.mem)
        have H3 := toHid (rcount_any hP4.ref)
        rw [hs5] at H2
        rw [ht5, hR4.count hP4.mem.ids] at H3
        have HX := toHid (And.intro hP4 (And.intro hR4 (And.intro hs5 (And.intro ht5 hl4))))
        clear hP4 hR4 hs4 ht4 hl4 hs5 ht5 H1
        go_wp2_with fail
        refine H2.out.mono ?_
        rintro e w4 ⟨rfl, rfl⟩
        go_wp2_with fail
        refine H3.out.mono ?_
        rintro e w5 ⟨rfl, ht5⟩
        have HP5 := toHid (HX.out.1.still ht5)
        clear ht5 H2 H3
        go_wp2
        go_roundw
        case rel => exact ⟨k + 1, by omega, by omega, by go_num, s', t', HP5.out, HX.out.2.1, HX.out.2.2.1, HX.out.2.2.2.1, by have := HX.out.2.2.2.2; have := HL.out; omega⟩
        case measure => simp [intOf]; omega
    · obtain ⟨s, t, hP, _⟩ := HI.out
      have HTT := toHid hP.touch
      have hkn : k = n := by omega
      subst hkn
      clear hP HI
      go_wp2
      go_ret
      exact ⟨rfl, HTT.out⟩
end Go.Proofs.Ytbidppeelophhaa
