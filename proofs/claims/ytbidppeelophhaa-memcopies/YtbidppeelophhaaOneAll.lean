/-
  one: a call of both, whichever it is: they answer alike.
-/
import Derived.Test.YtbidppeelophhaaOneA
import Derived.Test.YtbidppeelophhaaOneB
import Derived.Test.YtbidppeelophhaaOneC
import Derived.Test.YtbidppeelophhaaOneD
import Derived.Test.YtbidppeelophhaaOneE
import Derived.Test.YtbidppeelophhaaOneF
namespace Go.Proofs.Ytbidppeelophhaa
open Go.RowKit

theorem kind9 (k0 : Int) : ∃ q : Nat, q < 9 ∧ (IntKind.u64.wrap k0).tmod 9 = q := by
  rw [IntKind.wrap_u64, Int.tmod_eq_emod_of_nonneg (by omega)]
  exact ⟨(k0 % 18446744073709551616 % 9).toNat, by omega, by omega⟩

theorem one_any {w0 w : World} {s : MS} {t : RS} (h : Pair w0 w s t) (hr : Rel s.rs s.next t.all) (ht : t.all.length < 1000) (k0 a0 n0 m0 v0 : Int) (sa : Option Addr) (sl sc : Nat) (ha0 : 0 ≤ a0) (ha1 : a0 ≤ 18446744073709551615) (hn : n0 ≤ 9223372036854775807)
    (hv0 : 0 ≤ v0) (hv1 : v0 ≤ 18446744073709551615) (bs : List Int) (hv : ArgIn w0 sa sl bs) :
    Calls Try.prog 11 #[.pointer (some ⟨s.m, 0, none⟩), .pointer (some ⟨t.m, 0, none⟩), opV k0 a0 n0 m0 v0 sa sl sc] w (OnePost w0 s t) := by
  obtain ⟨q, hq, hk⟩ := kind9 k0
  have : q = 0 ∨ q = 1 ∨ q = 2 ∨ q = 3 ∨ q = 4 ∨ q = 5 ∨ q = 6 ∨ q = 7 ∨ q = 8 := by omega
  rcases this with rfl | rfl | rfl | rfl | rfl | rfl | rfl | rfl | rfl
  · exact one_add h hr ht k0 a0 n0 m0 v0 sa sl sc ha0 ha1 hk
  · exact one_kill h hr k0 a0 n0 m0 v0 sa sl sc hk
  · exact one_load h hr k0 a0 n0 m0 v0 sa sl sc ha0 ha1 hk
  · exact one_store h hr k0 a0 n0 m0 v0 sa sl sc ha0 ha1 hv0 hv1 hk
  · exact one_read h hr k0 a0 n0 m0 v0 sa sl sc ha0 ha1 hn hk
  · exact one_write h hr k0 a0 n0 m0 v0 sa sl sc ha0 ha1 bs hv hk
  · exact one_poke h hr k0 a0 n0 m0 v0 sa sl sc bs hv hk
  · exact one_bytes h hr k0 a0 n0 m0 v0 sa sl sc hk
  · exact one_find h hr k0 a0 n0 m0 v0 sa sl sc ha0 ha1 hk
end Go.Proofs.Ytbidppeelophhaa
