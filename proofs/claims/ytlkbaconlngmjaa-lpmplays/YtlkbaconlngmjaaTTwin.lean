/-
  The tree of bits: twin.
-/
import Derived.Test.YtlkbaconlngmjaaTOut
namespace Go.Proofs.Ytlkbaconlngmjaa
open Go.RowKit Go.Deep

/-- A tree that says the same, all of it behind block n. -/
structure Same (n : Nat) (w : World) (T T' : Tr) : Prop where
  at_ : TrAt w T'
  ok : okT T'
  nd : (bsT T').Nodup
  get : ∀ q, atT T' q = atT T q
  blocks : ∀ b ∈ bsT T', n ≤ b
  dep : depT T' ≤ depT T
theorem Same.touch {n : Nat} {w w' : World} {T T' : Tr} (h : Same n w T T') {S : List Nat} (ht : Touch S w w') (hn : ∀ x ∈ S, x < n) : Same n w' T T' :=
  ⟨h.at_.touch ht (fun x hx hy => by have := hn x hy; have := h.blocks x hx; omega), h.ok, h.nd, h.get, h.blocks, h.dep⟩
def CPost (w : World) (T : Tr) (e : Ending) (w' : World) : Prop := ∃ T', e = .returned (.pointer (adT T')) ∧ Same w.heap.size w' T T' ∧ Touch [] w w'
/-- What the rounds have done: the node's copy in block N. -/
def TW (w : World) (a : Bool × Nat) (l r : Tr) (k : Nat) (wr : World) : Prop := ∃ L R : Tr, Blk wr w.heap.size [L.ptr, R.ptr, .bool a.1, .int .i64 (a.2 : Int)] 84 ∧ Touch [] w wr ∧
  (if 1 ≤ k then Same (w.heap.size + 1) wr l L else L = l) ∧ (if 2 ≤ k then Same (w.heap.size + 1) wr r R ∧ ∀ x ∈ bsT L, x ∉ bsT R else R = r)
theorem tw_one {w wr w2 : World} {a : Bool × Nat} {l r C : Tr} (h : TW w a l r 0 wr) (hk : Same wr.heap.size w2 l C) (ht : Touch [] wr w2) : TW w a l r 1 (w2.setCell ⟨w.heap.size, 0, none⟩ C.ptr) := by
  obtain ⟨L, R, hB, ht0, h1, h2⟩ := h
  rw [if_neg (by omega)] at h1 h2
  subst h1 h2
  have hlt := hB.lt
  have hB2 := ht.blk hB (by simp)
  have hts : Touch [w.heap.size] w2 (w2.setCell ⟨w.heap.size, 0, none⟩ C.ptr) := (Touch.refl _ w2).setCell _ _ (Or.inl (by simp))
  refine ⟨C, R, hB2.setCell 0 C.ptr, (ht0.trans ht (by simp)).trans hts (fun y hy => Or.inr (by simp at hy; omega)), ?_, ?_⟩
  · rw [if_pos (by omega)]
    have h3 := hk.touch hts (fun x hx => by simp at hx; omega)
    exact ⟨h3.at_, h3.ok, h3.nd, h3.get, (fun b hb => by have := h3.blocks b hb; omega), h3.dep⟩
  · rw [if_neg (by omega)]
theorem tw_two {w wr w2 : World} {a : Bool × Nat} {l r C : Tr} (h : TW w a l r 1 wr) (hk : Same wr.heap.size w2 r C) (ht : Touch [] wr w2) : TW w a l r 2 (w2.setCell ⟨w.heap.size, 1, none⟩ C.ptr) := by
  obtain ⟨L, R, hB, ht0, h1, h2⟩ := h
  rw [if_pos (by omega)] at h1
  rw [if_neg (by omega)] at h2
  subst h2
  have hlt := hB.lt
  have hB2 := ht.blk hB (by simp)
  have hts : Touch [w.heap.size] w2 (w2.setCell ⟨w.heap.size, 1, none⟩ C.ptr) := (Touch.refl _ w2).setCell _ _ (Or.inl (by simp))
  refine ⟨L, C, hB2.setCell 1 C.ptr, (ht0.trans ht (by simp)).trans hts (fun y hy => Or.inr (by simp at hy; omega)), ?_, ?_⟩
  · rw [if_pos (by omega)]
    exact (h1.touch ht (by simp)).touch hts (fun x hx => by simp at hx; omega)
  · rw [if_pos (by omega)]
    have h3 := hk.touch hts (fun x hx => by simp at hx; omega)
    refine ⟨⟨h3.at_, h3.ok, h3.nd, h3.get, (fun b hb => by have := h3.blocks b hb; omega), h3.dep⟩, fun x hx hy => ?_⟩
    have q1 := TrAt.lt h1.at_ x hx
    have q2 := h3.blocks x hy
    omega
theorem tw_end {w wr : World} {b : Nat} {a : Bool × Nat} {l r : Tr} (ok : okT (.node b 0 a l r)) (h : TW w a l r 2 wr) : CPost w (.node b 0 a l r) (.returned (.pointer (some ⟨w.heap.size, 0, none⟩))) wr := by
  obtain ⟨L, R, hB, ht0, h1, h2⟩ := h
  rw [if_pos (by omega)] at h1 h2
  obtain ⟨h2, h3⟩ := h2
  refine ⟨.node w.heap.size 0 a L R, rfl, ⟨⟨rfl, hB, h1.at_, h2.at_⟩, ⟨ok.1, h1.ok, h2.ok⟩, nd_mk (fun hx => by have := h1.blocks _ hx; omega) (fun hx => by have := h2.blocks _ hx; omega) h1.nd h2.nd h3, fun q => ?_, fun x hx => ?_, (by have := h1.dep; have := h2.dep; simp only [depT]; omega)⟩, ht0⟩
  · match q with
    | [] => rfl
    | false :: q => exact h1.get q
    | true :: q => exact h2.get q
  · simp only [bsT, List.mem_cons, List.mem_append] at hx
    rcases hx with rfl | hx | hx
    · omega
    · have := h1.blocks x hx; omega
    · have := h2.blocks x hx; omega
theorem TW.cells {w wr : World} {a : Bool × Nat} {l r : Tr} {k : Nat} (h : TW w a l r k wr) : (∃ v, wr.cell? ⟨w.heap.size, 0, none⟩ = some (.pointer v)) ∧ (∃ v, wr.cell? ⟨w.heap.size, 1, none⟩ = some (.pointer v)) ∧ wr.frozen? ⟨w.heap.size, 0, none⟩ = false ∧ wr.frozen? ⟨w.heap.size, 1, none⟩ = false := by
  obtain ⟨L, R, hB, _⟩ := h
  exact ⟨⟨adT L, by rw [← ptr_ad]; exact hB.cell (i := 0) rfl⟩, ⟨adT R, by rw [← ptr_ad]; exact hB.cell (i := 1) rfl⟩, hB.frozen 0, hB.frozen 1⟩
theorem TW.still {w wr w2 : World} {a : Bool × Nat} {l r : Tr} {k : Nat} (h : TW w a l r k wr) (ht : Touch [] wr w2) : TW w a l r k w2 := by
  obtain ⟨L, R, hB, ht0, h1, h2⟩ := h
  refine ⟨L, R, ht.blk hB (by simp), ht0.trans ht (by simp), ?_, ?_⟩
  · split
    · rename_i h; rw [if_pos h] at h1; exact h1.touch ht (by simp)
    · rename_i h; rw [if_neg h] at h1; exact h1
  · split
    · rename_i h; rw [if_pos h] at h2; exact ⟨h2.1.touch ht (by simp), h2.2⟩
    · rename_i h; rw [if_neg h] at h2; exact h2

/-- An element of two pointers by value. -/
theorem idx82a (x y : Option Addr) (w : World) : (Instr.index 82 (.agg #[.pointer x, .pointer y]) (.int .i64 0)).run Try.prog w = .ok (.pointer x) w := by
  obtain ⟨i, hi, _, hs, _⟩ := info_of info56
  simp [Instr.index, run_underlying Try.underlying82, asIntOf, sizeOf, typeInfo, hi, hs, go_sem]
theorem idx82b (x y : Option Addr) (w : World) : (Instr.index 82 (.agg #[.pointer x, .pointer y]) (.int .i64 1)).run Try.prog w = .ok (.pointer y) w := by
  obtain ⟨i, hi, _, hs, _⟩ := info_of info56
  simp [Instr.index, run_underlying Try.underlying82, asIntOf, sizeOf, typeInfo, hi, hs, go_sem]

set_option maxHeartbeats 4000000 in
set_option maxRecDepth 100000 in
theorem twin_any : ∀ (T : Tr) (w : World), TrAt w T → okT T → Calls Try.prog 33 #[T.ptr] w (CPost w T) := by
  intro T
  induction T with
  | nil =>
    intro w _ _
    show Calls Try.prog 33 #[.pointer none] w _
    have HF : Hid (CPost w .nil (.returned (.pointer none)) w) := ⟨.nil, rfl, ⟨trivial, trivial, by simp [bsT], fun _ => rfl, (fun b hb => by cases hb), Nat.le_refl _⟩, Touch.refl _ _⟩
    go_enter Try.func33, Try.ntmps33
    go_wp2
    go_ret
    exact HF.out
  | node b o a l r ihl ihr =>
    intro w hT hok
    obtain ⟨rfl, hrest⟩ := hT
    have hB := hrest.1
    have c0 := hB.cell (i := 0) rfl
    have c1 := hB.cell (i := 1) rfl
    have c2 := hB.cell (i := 2) rfl
    have c3 := hB.cell (i := 3) rfl
    have hta : Touch [] w (w.alloc (.cells #[l.ptr, r.ptr, .bool a.1, .int .i64 (a.2 : Int)] 84)) := (Touch.refl [] w).alloc _
    have hB1 := hta.blk hB (by simp)
    have d0 := hB1.cell (i := 0) rfl
    have d1 := hB1.cell (i := 1) rfl
    have HI0 : Hid (TW w a l r 0 (w.alloc (.cells #[l.ptr, r.ptr, .bool a.1, .int .i64 (a.2 : Int)] 84))) := ⟨l, r, Blk.newA w #[l.ptr, r.ptr, .bool a.1, .int .i64 (a.2 : Int)] _ 84 rfl, hta, by rw [if_neg (by omega)], by rw [if_neg (by omega)]⟩
    show Calls Try.prog 33 #[.pointer (some ⟨b, 0, none⟩)] w _
    have HL := toHid (And.intro hrest.2.1 hok.2.1)
    have HR := toHid (And.intro hrest.2.2 hok.2.2)
    have HO := toHid hok
    have hxa := idx82a
    have hxb := idx82b
    have HIL := toHid ihl
    have HIR := toHid ihr
    rw [ptr_ad l, ptr_ad r] at *
    clear hB hB1 hta hrest hok ihl ihr
    go_enter Try.func33, Try.ntmps33
    go_wp2_with fail
    go_loopw [15] (fun t wr => ∃ k : Nat, k ≤ 2 ∧ t = .int .i64 k ∧ Hid (TW w a l r k wr)) (fun t _ => 2 - (intOf t).toNat)
    case atStart => exact ⟨0, by omega, rfl, HI0⟩
    case round =>
      clear HI0 c0 c1 c2 c3 d0 d1
      obtain ⟨k, hk, rfl, HI⟩ := hrel
      have : k = 0 ∨ k = 1 ∨ k = 2 := by omega
      rcases this with rfl | rfl | rfl
      · have hTr : TrAt wr l := HL.out.1.touch HI.out.choose_spec.choose_spec.2.1 (by simp)
        have H1 := toHid (HIL.out wr hTr HL.out.2)
        clear hTr
        go_wp2_with fail
        refine Calls.mono H1.out ?_
        rintro e w2 ⟨C, rfl, hk, ht⟩
        obtain ⟨⟨v, e0⟩, _, e1, _⟩ := (HI.out.still ht).cells
        have HN := toHid (tw_one HI.out hk ht)
        rw [ptr_ad C] at HN
        clear hk ht H1
        generalize adT C = ca at *
        go_wp2
        go_roundw
        case rel => exact ⟨1, by omega, rfl, HN⟩
        case measure => simp [intOf]
      · have hTr : TrAt wr r := HR.out.1.touch HI.out.choose_spec.choose_spec.2.1 (by simp)
        have H1 := toHid (HIR.out wr hTr HR.out.2)
        clear hTr
        go_wp2_with fail
        refine Calls.mono H1.out ?_
        rintro e w2 ⟨C, rfl, hk, ht⟩
        obtain ⟨_, ⟨v, e0⟩, _, e1⟩ := (HI.out.still ht).cells
        have HN := toHid (tw_two HI.out hk ht)
        rw [ptr_ad C] at HN
        clear hk ht H1
        generalize adT C = ca at *
        go_wp2
        go_roundw
        case rel => exact ⟨2, by omega, rfl, HN⟩
        case measure => simp [intOf]
      · have HF := toHid (tw_end HO.out HI.out)
        go_wp2
        go_ret
        exact HF.out
end Go.Proofs.Ytlkbaconlngmjaa
