/-
  one: Load.
-/
import Derived.Test.YtbidppeelophhaaBoth
namespace Go.Proofs.Ytbidppeelophhaa
open Go.RowKit

set_option maxHeartbeats 2000000 in
set_option maxRecDepth 100000 in
theorem one_load {w0 w : World} {s : MS} {t : RS} (h : Pair w0 w s t) (hr : Rel s.rs s.next t.all) (k0 a0 n0 m0 v0 : Int) (sa : Option Addr) (sl sc : Nat) (ha0 : 0 ≤ a0) (ha1 : a0 ≤ 18446744073709551615) (hk : (IntKind.u64.wrap k0).tmod 9 = 2) :
    Calls Try.prog 11 #[.pointer (some ⟨s.m, 0, none⟩), .pointer (some ⟨t.m, 0, none⟩), opV k0 a0 n0 m0 v0 sa sl sc] w (OnePost w0 s t) := by
  have hB := Blk.newA w #[.int .i64 k0, .int .u64 a0, .int .i64 n0, .int .i64 m0, .int .u64 v0, .slice sa sl sc] _ 33 rfl
  have hP := h.still ((Touch.refl [] w).alloc (.cells #[.int .i64 k0, .int .u64 a0, .int .i64 n0, .int .i64 m0, .int .u64 v0, .slice sa sl sc] 33))
  have H1 := toHid (load_any hP.mem a0 n0 ha0 ha1)
  have H2 := fun k => toHid (rload_any (hP.still ((Touch.refl [] _).drewN k)).ref a0 n0 ha0 ha1)
  have HL := toHid (hr.load hP.mem.sorted hP.perm a0 n0)
  have HP := toHid hP
  have HR := toHid hr
  clear hP hr h hB
  simp only [opV]
  go_enter Try.func11, Try.ntmps11
  go_wp2_with fail
  refine H1.out.mono ?_
  rintro e w2 ⟨rfl, k2, rfl⟩
  have H3 := H2 k2
  clear H1 H2
  go_wp2_with fail
  refine H3.out.mono ?_
  rintro e w3 ⟨rfl, ht3⟩
  rw [HL.out.1, HL.out.2]
  have HP3 := toHid (HP.out.still (((Touch.refl [] _).drewN k2).trans ht3 (by simp)))
  clear H3 ht3 HP
  go_wp2
  go_ret
  exact OnePost.same HP3.out HR.out
end Go.Proofs.Ytbidppeelophhaa
