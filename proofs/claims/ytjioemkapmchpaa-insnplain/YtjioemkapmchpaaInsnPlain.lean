/-
  For every input InsnPlain returns true, and each argument reads afterwards as it read before. No conditions. (The walk.)
-/
import Derived.Test.YtjioemkapmchpaaRPlain
import Derived.Test.YtjioemkapmchpaaFirst
namespace Go.Proofs.Ytjioemkapmchpaa
open Go.RowKit

/-- Both answer the same, whatever the place. -/
theorem plains (sa : Option Addr) (n c : Nat) (at_ : Int) (f : Nat → In) (w : World) (hc : CameI w sa n f) (hn : n ≤ 9223372036854775807) :
    ∃ p1 p2 : Int, (∀ w', Touch [] w w' → Calls Try.prog 24 #[.slice sa n c, .int .i64 at_] w' fun e w'' => e = .returned (.tuple #[.int .i64 p1, .int .i64 p2]) ∧ Touch [] w' w'') ∧
      ∀ w', Touch [] w w' → Calls Try.prog 25 #[.slice sa n c, .int .i64 at_] w' fun e w'' => e = .returned (.tuple #[.int .i64 p1, .int .i64 p2]) ∧ Touch [] w' w'' := by
  by_cases h : at_ < 0 ∨ (n : Int) ≤ at_
  · exact ⟨0, 2, fun w' _ => (plain_out sa n c at_ w' h).mono (fun e w'' ⟨h1, h2⟩ => ⟨h1, by rw [h2]; exact Touch.refl _ _⟩), fun w' _ => (rplain_out sa n c at_ w' h).mono (fun e w'' ⟨h1, h2⟩ => ⟨h1, by rw [h2]; exact Touch.refl _ _⟩)⟩
  · obtain ⟨k, rfl⟩ := Int.eq_ofNat_of_zero_le (show 0 ≤ at_ by omega)
    have hk : k < n := by omega
    rcases hc with h0 | ⟨b, off, rfl, hb, hx⟩
    · omega
    · have hcell : ∀ w', Touch [] w w' → ∀ j, j < n → w'.cell? ⟨b, off + j * 5, none⟩ = some (.int .u8 (f j).op) ∧ w'.cell? ⟨b, off + j * 5 + 1, none⟩ = some (.int .u8 (f j).dst) ∧
          w'.cell? ⟨b, off + j * 5 + 2, none⟩ = some (.int .u8 (f j).src) ∧ w'.cell? ⟨b, off + j * 5 + 3, none⟩ = some (.int .i16 (f j).off) ∧ w'.cell? ⟨b, off + j * 5 + 4, none⟩ = some (.int .i32 (f j).imm) := fun w' ht j hj => by
        obtain ⟨_, e0, e1, e2, e3, e4⟩ := hx j hj
        exact ⟨ht.cell e0 (by simp), ht.cell e1 (by simp), ht.cell e2 (by simp), ht.cell e3 (by simp), ht.cell e4 (by simp)⟩
      refine ⟨(plainOf f n k).1, (plainOf f n k).2, fun w' ht => ?_, fun w' ht => ?_⟩
      · obtain ⟨e0, e1, e2, e3, e4⟩ := hcell w' ht k hk
        exact plain_in b off n c k f w' hk hn (Nat.lt_of_lt_of_le hb ht.size) (hx k hk).1 e0 e1 e2 e3 e4 (fun h => hcell w' ht (k + 1) h)
      · obtain ⟨e0, e1, e2, e3, e4⟩ := hcell w' ht k hk
        exact rplain_in b off n c k f w' hk hn (Nat.lt_of_lt_of_le hb ht.size) (hx k hk).1 e0 e1 e2 e3 e4 (fun h => hcell w' ht (k + 1) h)

set_option maxHeartbeats 2000000 in
set_option maxRecDepth 100000 in
theorem insnPlain_walk (sa : Option Addr) (n c : Nat) (at_ : Int) (f : Nat → In) (w : World) (hc : CameI w sa n f) (hn : n ≤ 9223372036854775807) :
    Calls Try.prog 7 #[.slice sa n c, .int .i64 at_] w fun e w' => e = .returned (.bool true) ∧ Touch [] w w' := by
  obtain ⟨p1, p2, hp, hq⟩ := plains sa n c at_ f w hc hn
  have HP := toHid hp
  have HQ := toHid hq
  clear hp hq hc
  go_enter Try.func7, Try.ntmps7
  go_wp2_with fail
  refine (first_any w).mono ?_
  rintro e w2 ⟨rfl, ht2⟩
  have H2 := toHid (HP.out w2 ht2)
  have HT2 := toHid ht2
  clear ht2
  go_wp2_with fail
  refine H2.out.mono ?_
  rintro e w3 ⟨rfl, ht3⟩
  have HT3 := toHid (HT2.out.trans ht3 (by simp))
  have H3 := toHid (HQ.out w3 HT3.out)
  clear ht3 HT2 H2
  go_wp2_with fail
  refine H3.out.mono ?_
  rintro e w4 ⟨rfl, ht4⟩
  have HT4 := toHid (HT3.out.trans ht4 (by simp))
  clear ht4 HT3 H3
  go_wp2
  go_ret
  exact ⟨rfl, HT4.out⟩
end Go.Proofs.Ytjioemkapmchpaa
