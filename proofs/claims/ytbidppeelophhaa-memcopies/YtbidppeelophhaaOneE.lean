/-
  one: Read, Bytes.
-/
import Derived.Test.YtbidppeelophhaaArg
import Derived.Deep.RegionHeld3
import Derived.Deep.DrawnRows
namespace Go.Proofs.Ytbidppeelophhaa
open Go.RowKit
attribute [local go_sem ↓] Go.wp_at_zero Go.wp_at_succ

set_option maxHeartbeats 2000000 in
set_option maxRecDepth 100000 in
theorem one_read {w0 w : World} {s : MS} {t : RS} (h : Pair w0 w s t) (hr : Rel s.rs s.next t.all) (k0 a0 n0 m0 v0 : Int) (sa : Option Addr) (sl sc : Nat) (ha0 : 0 ≤ a0) (ha1 : a0 ≤ 18446744073709551615) (hn : n0 ≤ 9223372036854775807) (hk : (IntKind.u64.wrap k0).tmod 9 = 4) :
    Calls Try.prog 11 #[.pointer (some ⟨s.m, 0, none⟩), .pointer (some ⟨t.m, 0, none⟩), opV k0 a0 n0 m0 v0 sa sl sc] w (OnePost w0 s t) := by
  have hP := h.still ((Touch.refl [] w).alloc (.cells #[.int .i64 k0, .int .u64 a0, .int .i64 n0, .int .i64 m0, .int .u64 v0, .slice sa sl sc] 33))
  have hB := Blk.newA w #[.int .i64 k0, .int .u64 a0, .int .i64 n0, .int .i64 m0, .int .u64 v0, .slice sa sl sc] _ 33 rfl
  have H1 := toHid (read_any hP.mem a0 n0 ha0 ha1 hn)
  have hlk := hr.look hP.mem.sorted hP.perm a0 n0
  have HE : Hid (rreadE t.all a0 n0 = readE s.rs a0 n0 ∧ rreadV t.all a0 n0 = readV s.rs a0 n0) := by
    unfold rreadE readE rreadV readV
    rw [hlk.1, hlk.2]
    exact ⟨rfl, rfl⟩
  have HP := toHid hP
  have HR := toHid hr
  have HB := toHid hB
  clear hP hr h hB hlk
  simp only [opV]
  go_enter Try.func11, Try.ntmps11
  go_wp2_with fail
  refine H1.out.mono ?_
  rintro e w2 ⟨x2, rfl, hs2, ht2⟩
  have hP2 := HP.out.still ht2
  have hB2 := ht2.blk HB.out (by simp)
  have c1 : w2.cell? ⟨w.heap.size, 1, none⟩ = some _ := hB2.cell rfl
  have c2 : w2.cell? ⟨w.heap.size, 2, none⟩ = some _ := hB2.cell rfl
  have H2 := toHid (rread_any hP2.ref a0 n0 ha0 ha1 hn)
  have HP2 := toHid hP2
  have HS2 := toHid hs2
  clear hP2 hB2 hs2 ht2 H1 HP HB
  go_wp2_with fail
  refine H2.out.mono ?_
  rintro e w3 ⟨x3, rfl, ho3, ht3⟩
  rw [HE.out.1]
  have hcv1 := (HS2.out.touch ht3).conv
  have hcv2 := ho3.conv
  rw [HE.out.2] at hcv2
  have HP3 := toHid (HP2.out.still ht3)
  generalize strOfNums (readV s.rs a0 n0) = Z at *
  clear ho3 ht3 H2 HP2 HS2 c1 c2
  go_wp2
  go_ret
  exact OnePost.same HP3.out HR.out
end Go.Proofs.Ytbidppeelophhaa
