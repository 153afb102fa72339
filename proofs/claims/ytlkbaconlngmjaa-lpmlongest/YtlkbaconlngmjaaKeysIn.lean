/-
  A list of keys that came in; the law's own length of a key.
-/
import Derived.Test.YtlkbaconlngmjaaScript9
import Derived.Test.YtlkbaconlngmjaaLongP
namespace Go.Proofs.Ytlkbaconlngmjaa
open Go.ChangeShapes Go.WideShapes Go.ChangeAt Go.RowKit

/-- A key that came in. -/
structure KeyC where
  sa : Option Addr
  sl : Nat
  sc : Nat
  bs : List Int
structure KeyC.Ok (w : World) (k : KeyC) : Prop where
  key : KeyAt w k.sa k.sl k.bs
  cap : k.sl ≤ k.sc
def KeyC.zero : KeyC := ⟨none, 0, 0, []⟩
/-- A list of keys that came in. -/
def KeysIn (w : World) (sa : Option Addr) (n : Nat) (f : Nat → KeyC) : Prop := n = 0 ∨ ∃ b off, sa = some ⟨b, off, none⟩ ∧ ∀ j, j < n → (f j).Ok w ∧ w.cell? ⟨b, off + j, none⟩ = some (.slice (f j).sa (f j).sl (f j).sc)
theorem KeysIn.at_ {w : World} {sa : Option Addr} {n : Nat} {f : Nat → KeyC} (h : KeysIn w sa n f) {k : Nat} (hk : k < n) : ∃ b off, sa = some ⟨b, off, none⟩ ∧ ∀ j, j < n → (f j).Ok w ∧ w.cell? ⟨b, off + j, none⟩ = some (.slice (f j).sa (f j).sl (f j).sc) := by
  rcases h with h | h
  · omega
  · exact h
theorem choose_key {Q : Nat → KeyC → Prop} {m : Nat} (h : ∀ j, j < m → ∃ i, Q j i) : ∃ f : Nat → KeyC, ∀ j, j < m → Q j (f j) := by
  refine ⟨fun j => if hj : j < m then Classical.choose (h j hj) else KeyC.zero, fun j hj => ?_⟩
  simp only [hj, dif_pos]
  exact Classical.choose_spec (h j hj)
section
variable {H : Type} {enc : TypeId × Value → H} {W : World}
set_option maxRecDepth 100000 in
theorem keys_in {sa : Option Addr} {n c : Nat} {d : DataW H} {p : List MemPlace} (h : DataW.Trod enc Try.prog W 0 (fun _ => true) true 38 (.slice sa n c) d p) : (∃ f, KeysIn W sa n f) ∧ n ≤ 9223372036854775807 ∧ n ≤ c := by
  obtain ⟨fuel, hf⟩ := h
  have k32 : Try.prog.cellsOf 32 = 1 := by kernel_rfl
  rcases Deep.open_slice Try.underlying38 hf with ⟨hcs, _⟩ | ⟨x, l, c', m, k, D, Pl, hcs, _, hl, hm, hmm, _, hx⟩
  · simp [Value.cells] at hcs
    obtain ⟨rfl, rfl, rfl⟩ := hcs
    exact ⟨⟨fun _ => KeyC.zero, Or.inl rfl⟩, by omega, by omega⟩
  · simp [Value.cells] at hcs
    obtain ⟨rfl, rfl, rfl⟩ := hcs
    simp only [if_true] at hmm
    subst hmm
    unfold maxLen at hm
    refine ⟨?_, by omega, by omega⟩
    by_cases h0 : n = 0
    · exact ⟨fun _ => KeyC.zero, Or.inl h0⟩
    · rw [k32] at hx
      have hx' : ∀ j, j < n → ∃ o : KeyC, o.Ok W ∧ W.cell? (x.add j) = some (.slice o.sa o.sl o.sc) := by
        intro j hj
        obtain ⟨cs', h1, h2⟩ := hx j (by omega)
        obtain ⟨_, hlen, hcell⟩ := World.cells?_some h1
        have h3 := hcell 0 (by omega)
        rw [Nat.mul_one] at h3
        obtain ⟨v, rfl⟩ : ∃ v, cs' = [v] := List.length_eq_one_iff.1 hlen
        obtain ⟨sk, kl, kc, bs, rfl, hk, hkc⟩ := key_in9 h2
        refine ⟨⟨sk, kl, kc, bs⟩, ⟨hk, hkc⟩, ?_⟩
        have h4 : (x.add j).add 0 = x.add j := by
          obtain ⟨b, off, spot⟩ := x
          unfold Addr.add
          split <;> simp_all
        rw [h4] at h3
        exact h3
      obtain ⟨f, hf⟩ := choose_key hx'
      obtain ⟨b, off, spot⟩ := x
      have hc := (hf 0 (by omega)).2
      have hspot : spot = none := by simpa [Addr.add] using World.cell?_spot hc
      subst hspot
      refine ⟨f, Or.inr ⟨b, off, rfl, fun j hj => ?_⟩⟩
      obtain ⟨ok, hcell⟩ := hf j hj
      simp only [Addr.add_lit] at hcell
      exact ⟨ok, hcell⟩
end
set_option maxHeartbeats 1000000 in
set_option maxRecDepth 100000 in
theorem llength_any {w : World} {sa : Option Addr} {sl : Nat} {bs : List Int} (h : KeyAt w sa sl bs) (h4 : 4 ≤ bs.length) (sc : Nat) :
    Calls Try.prog 19 #[.slice sa sl sc] w fun e w' => e = .returned (.int .i64 (lengthI bs)) ∧ w' = w := by
  obtain ⟨b, off, rfl, _, hcell⟩ := h.cut4 h4
  have c0 := hcell 0 (by omega)
  have c1 := hcell 1 (by omega)
  have c2 := hcell 2 (by omega)
  have c3 := hcell 3 (by omega)
  have hsl : 4 ≤ sl := by rw [h.1]; exact h4
  have b0 := getD_bd h.2.1 0
  have b1 := getD_bd h.2.1 1
  have b2 := getD_bd h.2.1 2
  have b3 := getD_bd h.2.1 3
  have hsl1 : (1 : Int) < sl := by omega
  have hsl2 : (2 : Int) < sl := by omega
  have hsl3 : (3 : Int) < sl := by omega
  have hsl0 : (0 : Int) < sl := by omega
  unfold lengthI
  generalize bs.getD 0 0 = x0 at *
  generalize bs.getD 1 0 = x1 at *
  generalize bs.getD 2 0 = x2 at *
  generalize bs.getD 3 0 = x3 at *
  clear h hcell
  rw [Nat.add_zero] at c0
  by_cases e1 : x1 = 0
  · by_cases e2 : x2 = 0
    · by_cases e3 : x3 = 0
      · subst e1 e2 e3
        rw [if_pos ⟨rfl, rfl, rfl⟩]
        go_enter Try.func19, Try.ntmps19
        go_wp2
        go_ret
        exact ⟨rfl, rfl⟩
      · subst e1 e2
        rw [if_neg (fun h => e3 h.2.2)]
        have hp : 0 < x3 := by omega
        clear e3
        go_enter Try.func19, Try.ntmps19
        go_wp2
        go_ret
        exact ⟨rfl, rfl⟩
    · subst e1
      rw [if_neg (fun h => e2 h.2.1)]
      have hp : 0 < x2 := by omega
      clear e2
      go_enter Try.func19, Try.ntmps19
      go_wp2
      go_ret
      exact ⟨rfl, rfl⟩
  · rw [if_neg (fun h => e1 h.1)]
    have hp : 0 < x1 := by omega
    clear e1
    go_enter Try.func19, Try.ntmps19
    go_wp2
    go_ret
    exact ⟨rfl, rfl⟩
end Go.Proofs.Ytlkbaconlngmjaa
