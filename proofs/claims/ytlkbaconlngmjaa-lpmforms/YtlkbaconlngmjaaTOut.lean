/-
  The tree of bits: without.
-/
import Derived.Test.YtlkbaconlngmjaaTWith
import Derived.ChangeKeysEq
namespace Go.Proofs.Ytlkbaconlngmjaa
open Go.RowKit Go.Deep

/-- A key taken out: what is left. -/
structure OKept (w : World) (T : Tr) (p : List Bool) (T' : Tr) (w' : World) : Prop where
  at_ : TrAt w' T'
  ok : okT T'
  nd : (bsT T').Nodup
  get : ∀ q, atT T' q = if q = p then none else atT T q
  blocks : ∀ b ∈ bsT T', b ∈ bsT T
  touch : Touch (bsT T) w w'
  dep : depT T' ≤ depT T
def OPost (w : World) (T : Tr) (p : List Bool) (e : Ending) (w' : World) : Prop := ∃ T', e = .returned (.pointer (adT T')) ∧ OKept w T p T' w'
theorem info84 : (Try.prog.info? 84).map (fun i => (i.zero, i.size, i.bytes)) = some (some (.agg #[.pointer none, .pointer none, .bool false, .int .i64 0]), 4, 32) := by kernel_rfl
theorem info56 : (Try.prog.info? 56).map (fun i => (i.zero, i.size, i.bytes)) = some (some (.pointer none), 1, 8) := by kernel_rfl
theorem cells56 : Try.prog.cellsOf 56 = 1 := by kernel_rfl
theorem eq56 (x : Option Addr) (w : World) (d : Nat) : (Op.equalIn (d + 1) 56 (.pointer x) (.pointer none)).run Try.prog w = .ok x.isNone w := by
  obtain ⟨i, hi, _, _, _⟩ := info_of info84
  cases x with
  | none => simp [Op.equalIn, run_underlying Try.underlying56, sizeOf, typeInfo, sameAddr]
  | some x => simp [Op.equalIn, run_underlying Try.underlying56, sizeOf, typeInfo, sameAddr]
/-- The two pointers of a node beside none. -/
theorem eq82 (x y : Option Addr) (w : World) : (Op.equalIn 10000 82 (.agg #[.pointer x, .pointer y]) (.agg #[.pointer none, .pointer none])).run Try.prog w = .ok (x.isNone && y.isNone) w := by
  obtain ⟨i, hi, _, _, _⟩ := info_of info56
  rw [show (10000 : Nat) = 9999 + 1 from rfl, run_equalIn_array w 9999 #[.pointer x, .pointer y] #[.pointer none, .pointer none] Try.underlying82 hi, cells56, show List.range 2 = [0, 1] from rfl]
  have h1 := eq56 x w 9998
  have h2 := eq56 y w 9998
  simp only [Op.eqItems]
  go_simp
  cases x <;> cases y <;> rfl
theorem out_here {w : World} {b : Nat} {a : Bool × Nat} {l r : Tr} (h : TrAt w (.node b 0 a l r)) (ok : okT (.node b 0 a l r)) (nd : (bsT (.node b 0 a l r)).Nodup) :
    OKept w (.node b 0 a l r) [] (.node b 0 (false, 0) l r) ((w.setCell ⟨b, 2, none⟩ (.bool false)).setCell ⟨b, 3, none⟩ (.int .i64 0)) := by
  obtain ⟨n1, n2, n3, n4, n5⟩ := nd_node nd
  have ht : Touch [b] w ((w.setCell ⟨b, 2, none⟩ (.bool false)).setCell ⟨b, 3, none⟩ (.int .i64 0)) := ((Touch.refl [b] w).setCell _ _ (Or.inl (by simp))).setCell _ _ (Or.inl (by simp))
  refine ⟨⟨rfl, (h.2.1.setCell 2 (.bool false)).setCell 3 (.int .i64 0), h.2.2.1.touch ht (fun x hx hy => ?_), h.2.2.2.touch ht (fun x hx hy => ?_)⟩, ⟨fun _ => rfl, ok.2⟩, nd, fun q => ?_, fun x hx => hx, ht.mono (fun x hx => Or.inl (by simp at hx; simp [bsT, hx])), (by simp only [depT]; omega)⟩
  · simp at hy; subst hy; exact n1 hx
  · simp at hy; subst hy; exact n2 hx
  · match q with
    | [] => rfl
    | false :: q => simp [atT]
    | true :: q => simp [atT]
theorem out_prune {w : World} {T : Tr} {p : List Bool} {b : Nat} {a : Bool × Nat} {w' : World} (k : OKept w T p (.node b 0 a .nil .nil) w') (h : a.1 = false) : OKept w T p .nil w' := by
  refine ⟨trivial, trivial, by simp [bsT], fun q => ?_, fun b hb => (by cases hb), k.touch, (by simp [depT])⟩
  rw [← k.get q]
  match q with
  | [] => simp [atT, heldT, h]
  | false :: q => rfl
  | true :: q => rfl
theorem adT_nil {T : Tr} (h : adT T = none) : T = .nil := by
  cases T with
  | nil => rfl
  | node b o a l r => cases h
theorem out_left {w w0 w2 : World} {b : Nat} {a : Bool × Nat} {l r C : Tr} {p : List Bool} (h : TrAt w (.node b 0 a l r)) (ok : okT (.node b 0 a l r)) (nd : (bsT (.node b 0 a l r)).Nodup) (h0 : Touch [] w w0) (k : OKept w0 l p C w2) :
    OKept w (.node b 0 a l r) (false :: p) (.node b 0 a C r) (w2.setCell ⟨b, 0, none⟩ C.ptr) ∧ Blk (w2.setCell ⟨b, 0, none⟩ C.ptr) b [C.ptr, r.ptr, .bool a.1, .int .i64 (a.2 : Int)] 84 := by
  obtain ⟨n1, n2, n3, n4, n5⟩ := nd_node nd
  have ht : Touch (bsT l) w w2 := (Touch.nil h0).trans k.touch (fun y hy => Or.inl hy)
  have hb : b ∉ bsT C := fun hx => n1 (k.blocks b hx)
  have hap : ∀ x ∈ bsT C, x ∉ bsT r := fun x hx hy => n5 x (k.blocks x hx) hy
  have hts : Touch [b] w2 (w2.setCell ⟨b, 0, none⟩ C.ptr) := (Touch.refl [b] w2).setCell _ _ (Or.inl (by simp))
  have hsib : TrAt (w2.setCell ⟨b, 0, none⟩ C.ptr) r := (h.2.2.2.touch ht (fun x hx hy => n5 x hy hx)).touch hts (fun x hx hy => by simp at hy; subst hy; exact n2 hx)
  have hch : TrAt (w2.setCell ⟨b, 0, none⟩ C.ptr) C := k.at_.touch hts (fun x hx hy => by simp at hy; subst hy; exact hb hx)
  have hB : Blk w2 b [l.ptr, r.ptr, .bool a.1, .int .i64 (a.2 : Int)] 84 := ht.blk h.2.1 n1
  have hB2 : Blk (w2.setCell ⟨b, 0, none⟩ C.ptr) b [C.ptr, r.ptr, .bool a.1, .int .i64 (a.2 : Int)] 84 := hB.setCell 0 C.ptr
  refine ⟨⟨⟨rfl, hB2, hch, hsib⟩, ⟨ok.1, k.ok, ok.2.2⟩, nd_mk hb n2 k.nd n4 hap, fun q => ?_, fun x hx => ?_, ?_, (by have := k.dep; simp only [depT]; omega)⟩, hB2⟩
  · match q with
    | [] => simp [atT]
    | false :: q => simp [atT, k.get q]
    | true :: q => simp [atT]
  · simp only [bsT, List.mem_cons, List.mem_append] at hx ⊢
    rcases hx with hx | hx | hx
    · exact Or.inl hx
    · exact Or.inr (Or.inl (k.blocks x hx))
    · exact Or.inr (Or.inr hx)
  · exact (ht.mono (S' := bsT (.node b 0 a l r)) (fun x hx => Or.inl (by simp [bsT, hx]))).trans hts (fun x hx => Or.inl (by simp at hx; simp [bsT, hx]))
theorem out_right {w w0 w2 : World} {b : Nat} {a : Bool × Nat} {l r C : Tr} {p : List Bool} (h : TrAt w (.node b 0 a l r)) (ok : okT (.node b 0 a l r)) (nd : (bsT (.node b 0 a l r)).Nodup) (h0 : Touch [] w w0) (k : OKept w0 r p C w2) :
    OKept w (.node b 0 a l r) (true :: p) (.node b 0 a l C) (w2.setCell ⟨b, 1, none⟩ C.ptr) ∧ Blk (w2.setCell ⟨b, 1, none⟩ C.ptr) b [l.ptr, C.ptr, .bool a.1, .int .i64 (a.2 : Int)] 84 := by
  obtain ⟨n1, n2, n3, n4, n5⟩ := nd_node nd
  have ht : Touch (bsT r) w w2 := (Touch.nil h0).trans k.touch (fun y hy => Or.inl hy)
  have hb : b ∉ bsT C := fun hx => n2 (k.blocks b hx)
  have hap : ∀ x ∈ bsT C, x ∉ bsT l := fun x hx hy => n5 x hy (k.blocks x hx)
  have hts : Touch [b] w2 (w2.setCell ⟨b, 1, none⟩ C.ptr) := (Touch.refl [b] w2).setCell _ _ (Or.inl (by simp))
  have hsib : TrAt (w2.setCell ⟨b, 1, none⟩ C.ptr) l := (h.2.2.1.touch ht (fun x hx hy => n5 x hx hy)).touch hts (fun x hx hy => by simp at hy; subst hy; exact n1 hx)
  have hch : TrAt (w2.setCell ⟨b, 1, none⟩ C.ptr) C := k.at_.touch hts (fun x hx hy => by simp at hy; subst hy; exact hb hx)
  have hB : Blk w2 b [l.ptr, r.ptr, .bool a.1, .int .i64 (a.2 : Int)] 84 := ht.blk h.2.1 n2
  have hB2 : Blk (w2.setCell ⟨b, 1, none⟩ C.ptr) b [l.ptr, C.ptr, .bool a.1, .int .i64 (a.2 : Int)] 84 := hB.setCell 1 C.ptr
  refine ⟨⟨⟨rfl, hB2, hsib, hch⟩, ⟨ok.1, ok.2.1, k.ok⟩, nd_mk n1 hb n3 k.nd (fun x hx hy => hap x hy hx), fun q => ?_, fun x hx => ?_, ?_, (by have := k.dep; simp only [depT]; omega)⟩, hB2⟩
  · match q with
    | [] => simp [atT]
    | false :: q => simp [atT]
    | true :: q => simp [atT, k.get q]
  · simp only [bsT, List.mem_cons, List.mem_append] at hx ⊢
    rcases hx with hx | hx | hx
    · exact Or.inl hx
    · exact Or.inr (Or.inl hx)
    · exact Or.inr (Or.inr (k.blocks x hx))
  · exact (ht.mono (S' := bsT (.node b 0 a l r)) (fun x hx => Or.inl (by simp [bsT, hx]))).trans hts (fun x hx => Or.inl (by simp at hx; simp [bsT, hx]))

set_option maxHeartbeats 8000000 in
set_option maxRecDepth 100000 in
theorem without_any : ∀ (p : List Bool) (T : Tr) (w : World) (sa : Option Addr), TrAt w T → okT T → (bsT T).Nodup → PathAt w sa p → (∀ b off, sa = some ⟨b, off, none⟩ → b ∉ bsT T) → (∃ s, atT T p = some s) →
    Calls Try.prog 32 #[T.ptr, .slice sa p.length p.length] w (OPost w T p) := by
  intro p
  induction p with
  | nil =>
    intro T w sa hT hok hnd hp hout hin
    match T, hT, hok, hnd, hin with
    | .nil, _, _, _, hin =>
      obtain ⟨s, hs⟩ := hin
      cases hs
    | .node b o a l r, hT, hok, hnd, hin =>
      obtain ⟨rfl, hrest⟩ := hT
      have hT : TrAt w (.node b 0 a l r) := ⟨rfl, hrest⟩
      have hB := hT.2.1
      have c2 := hB.cell (i := 2) rfl
      have c3 := (hB.setCell 2 (.bool false)).cell (i := 3) rfl
      have f2 := hB.frozen 2
      have f3 := (hB.setCell 2 (.bool false)).frozen 3
      have hB3 := (hB.setCell 2 (.bool false)).setCell 3 (.int .i64 0)
      have d0 := hB3.cell (i := 0) rfl
      have d1 := hB3.cell (i := 1) rfl
      have d2 := hB3.cell (i := 2) rfl
      show Calls Try.prog 32 #[.pointer (some ⟨b, 0, none⟩), .slice sa 0 0] w _
      have HF := toHid (out_here hT hok hnd)
      have hq := eq82
      clear hp hout hB hB3 hT hrest hok hnd hin
      rw [ptr_ad l] at d0
      rw [ptr_ad r] at d1
      generalize hla : adT l = la at *
      generalize hra : adT r = ra at *
      cases la with
      | none =>
        cases ra with
        | none =>
          have el := adT_nil hla
          have er := adT_nil hra
          subst el er
          have HG : Hid (OPost w (.node b 0 a .nil .nil) [] (.returned (.pointer none)) ((w.setCell ⟨b, 2, none⟩ (.bool false)).setCell ⟨b, 3, none⟩ (.int .i64 0))) := ⟨.nil, rfl, out_prune HF.out rfl⟩
          clear HF hla hra
          go_enter Try.func32, Try.ntmps32
          go_wp2
          go_ret
          exact HG.out
        | some x =>
          have HG : Hid (OPost w (.node b 0 a l r) [] (.returned (.pointer (some ⟨b, 0, none⟩))) ((w.setCell ⟨b, 2, none⟩ (.bool false)).setCell ⟨b, 3, none⟩ (.int .i64 0))) := ⟨_, rfl, HF.out⟩
          clear HF hla hra
          go_enter Try.func32, Try.ntmps32
          go_wp2
          go_ret
          exact HG.out
      | some x =>
        have HG : Hid (OPost w (.node b 0 a l r) [] (.returned (.pointer (some ⟨b, 0, none⟩))) ((w.setCell ⟨b, 2, none⟩ (.bool false)).setCell ⟨b, 3, none⟩ (.int .i64 0))) := ⟨_, rfl, HF.out⟩
        clear HF hla hra
        go_enter Try.func32, Try.ntmps32
        go_wp2
        go_ret
        exact HG.out
  | cons c p ih =>
    intro T w sa hT hok hnd hp hout hin
    obtain ⟨pb, off, rfl, hc0⟩ := hp.head
    have hpb := hout pb off rfl
    match T, hT, hok, hnd, hin with
    | .nil, _, _, _, hin =>
      obtain ⟨s, hs⟩ := hin
      cases hs
    | .node b o a l r, hT, hok, hnd, hin =>
      obtain ⟨rfl, hrest⟩ := hT
      have hT : TrAt w (.node b 0 a l r) := ⟨rfl, hrest⟩
      have hB := hT.2.1
      have c0 := hB.cell (i := 0) rfl
      have c1 := hB.cell (i := 1) rfl
      obtain ⟨n1, n2, n3, n4, n5⟩ := nd_node hnd
      have hpl : pb ∉ bsT l ∧ pb ∉ bsT r := ⟨fun hx => hpb (by simp [bsT, hx]), fun hx => hpb (by simp [bsT, hx])⟩
      have HT := toHid (And.intro hT (And.intro hok (And.intro hnd (And.intro hB hpl))))
      have hd : Touch [] w w.drew := (Touch.refl [] w).drew
      cases c with
      | false =>
        match p, hp, ih, hin with
        | [], hp, ih, hin =>
          have H1 := toHid (ih l w.drew (some ⟨pb, off, none⟩) (hT.2.2.1.touch hd (by simp)) hok.2.1 n3 (PathAt.still (PathAt.last _) hd) (fun b' off' e => by injection e with e; injection e with e1; subst e1; exact hpl.1) hin)
          show Calls Try.prog 32 #[.pointer (some ⟨b, 0, none⟩), .slice (some ⟨pb, off, none⟩) 1 1] w _
          simp only [List.length_nil] at H1
          have hc : w.cell? ⟨pb, off, none⟩ = some (.int .i64 0) := hc0
          have HC := toHid hc
          skip
          rw [ptr_ad l] at H1 c0
          have HB := toHid hB
          have HNE : Hid (pb ≠ b) := fun e => hpb (by simp [bsT, e])
          clear hp hc0 hB hok hnd hT hrest ih hd n1 n2 n3 n4 n5 hpl hout hpb hin
          go_enter Try.func32, Try.ntmps32
          go_wp2_with fail
          refine wp_region_held_drew (S := fun w' => w'.cell? ⟨pb, off, none⟩ = some (.int .i64 0)) (by kernel_rfl) ?_ (fun hHeld => ?_)
          · exact HC.out
          refine wpAnyH_take (i := 0) (v := ?_) rfl (by kernel_rfl) (by kernel_rfl) (by kernel_rfl) (fun _ _ _ h => h) (Or.inl ⟨by rfl, ?_⟩) (by assumption) ?_
          rotate_left
          · (intro w hSw; (try dsimp only at hSw); go_simp; try with_reducible rfl)
          simp only [Act.put, List.getElem_toArray, List.getElem_cons_zero, List.setIfInBounds_toArray, List.set_cons_zero, List.set_cons_succ]
          refine wpAnyH_take (i := 1) (v := ?_) rfl (by kernel_rfl) (by kernel_rfl) (by kernel_rfl) (fun _ _ _ h => h) (Or.inl ⟨by rfl, ?_⟩) (by assumption) ?_
          rotate_left
          · (intro w hSw; (try dsimp only at hSw); go_simp; try with_reducible rfl)
          simp only [Act.put, List.getElem_toArray, List.getElem_cons_zero, List.getElem_cons_succ, List.setIfInBounds_toArray, List.set_cons_zero, List.set_cons_succ]
          refine wpAnyH_take (i := 2) (v := ?_) rfl (by kernel_rfl) (by kernel_rfl) (by kernel_rfl) (fun _ _ _ h => h) (Or.inl ⟨by rfl, ?_⟩) (by assumption) ?_
          rotate_left
          · (intro w hSw; (try dsimp only at hSw); go_simp; try with_reducible rfl)
          simp only [Act.put, List.getElem_toArray, List.getElem_cons_zero, List.getElem_cons_succ, List.setIfInBounds_toArray, List.set_cons_zero, List.set_cons_succ]
          refine wpAnyH_take (i := 3) (v := ?_) rfl (by kernel_rfl) (by kernel_rfl) (by kernel_rfl) (fun _ _ _ h => h) (Or.inl ⟨by rfl, ?_⟩) (by assumption) ?_
          rotate_left
          · (intro w hSw; (try dsimp only at hSw); go_simp; try with_reducible rfl)
          simp only [Act.put, List.getElem_toArray, List.getElem_cons_zero, List.getElem_cons_succ, List.setIfInBounds_toArray, List.set_cons_zero, List.set_cons_succ]
          refine wpAnyH_take (i := 4) (v := ?_) rfl (by kernel_rfl) (by kernel_rfl) (by kernel_rfl) (fun _ _ _ h => h) (Or.inl ⟨by rfl, ?_⟩) (by assumption) ?_
          rotate_left
          · (intro w hSw; (try dsimp only at hSw); go_simp; try with_reducible rfl)
          simp only [Act.put, List.getElem_toArray, List.getElem_cons_zero, List.getElem_cons_succ, List.setIfInBounds_toArray, List.set_cons_zero, List.set_cons_succ]
          refine wpAnyH_take (i := 5) (v := ?_) rfl (by kernel_rfl) (by kernel_rfl) (by kernel_rfl) (fun _ _ _ h => h) (Or.inl ⟨by rfl, ?_⟩) (by assumption) ?_
          rotate_left
          · (intro w hSw; (try dsimp only at hSw); go_simp; try with_reducible rfl)
          simp only [Act.put, List.getElem_toArray, List.getElem_cons_zero, List.getElem_cons_succ, List.setIfInBounds_toArray, List.set_cons_zero, List.set_cons_succ]
          refine wpAnyH_take (i := 6) (v := ?_) rfl (by kernel_rfl) (by kernel_rfl) (by kernel_rfl) (fun _ _ _ h => h) (Or.inl ⟨by rfl, ?_⟩) (by assumption) ?_
          rotate_left
          · (intro w hSw; (try dsimp only at hSw); go_simp; try with_reducible rfl)
          simp only [Act.put, List.getElem_toArray, List.getElem_cons_zero, List.getElem_cons_succ, List.setIfInBounds_toArray, List.set_cons_zero, List.set_cons_succ]
          refine wpAnyH_take (i := 7) (v := ?_) rfl (by kernel_rfl) (by kernel_rfl) (by kernel_rfl) (fun _ _ _ h => h) (Or.inl ⟨by rfl, ?_⟩) (by assumption) ?_
          rotate_left
          · (intro w hSw; (try dsimp only at hSw); go_simp; try with_reducible rfl)
          simp only [Act.put, List.getElem_toArray, List.getElem_cons_zero, List.getElem_cons_succ, List.setIfInBounds_toArray, List.set_cons_zero, List.set_cons_succ]
          refine wpAnyH_take (i := 8) (v := ?_) rfl (by kernel_rfl) (by kernel_rfl) (by kernel_rfl) (fun _ _ _ h => h) (Or.inl ⟨by rfl, ?_⟩) (by assumption) ?_
          rotate_left
          · (intro w hSw; (try dsimp only at hSw); go_simp; try with_reducible rfl)
          simp only [Act.put, List.getElem_toArray, List.getElem_cons_zero, List.getElem_cons_succ, List.setIfInBounds_toArray, List.set_cons_zero, List.set_cons_succ]
          refine wpAnyH_take (i := 9) (v := ?_) rfl (by kernel_rfl) (by kernel_rfl) (by kernel_rfl) (fun _ _ _ h => h) (Or.inl ⟨by rfl, ?_⟩) (by assumption) ?_
          rotate_left
          · (intro w hSw; (try dsimp only at hSw); go_simp; try with_reducible rfl)
          simp only [Act.put, List.getElem_toArray, List.getElem_cons_zero, List.getElem_cons_succ, List.setIfInBounds_toArray, List.set_cons_zero, List.set_cons_succ]
          refine wpAnyH_take (i := 10) (v := ?_) rfl (by kernel_rfl) (by kernel_rfl) (by kernel_rfl) (fun _ _ _ h => h) (Or.inl ⟨by rfl, ?_⟩) (by assumption) ?_
          rotate_left
          · (intro w hSw; (try dsimp only at hSw); go_simp; try with_reducible rfl)
          simp only [Act.put, List.getElem_toArray, List.getElem_cons_zero, List.getElem_cons_succ, List.setIfInBounds_toArray, List.set_cons_zero, List.set_cons_succ]
          refine wpAnyH_take (i := 12) (v := ?_) rfl (by kernel_rfl) (by kernel_rfl) (by kernel_rfl) (fun _ _ _ h => h) (Or.inl ⟨by rfl, ?_⟩) (by assumption) ?_
          rotate_left
          · (intro w hSw; (try dsimp only at hSw); go_simp; try with_reducible rfl)
          simp only [Act.put, List.getElem_toArray, List.getElem_cons_zero, List.getElem_cons_succ, List.setIfInBounds_toArray, List.set_cons_zero, List.set_cons_succ]
          refine wpAnyH_take (i := 13) (v := ?_) rfl (by kernel_rfl) (by kernel_rfl) (by kernel_rfl) (fun _ _ _ h => h) (Or.inl ⟨by rfl, ?_⟩) (by assumption) ?_
          rotate_left
          · (intro w hSw; (try dsimp only at hSw); go_simp; try with_reducible rfl)
          simp only [Act.put, List.getElem_toArray, List.getElem_cons_zero, List.getElem_cons_succ, List.setIfInBounds_toArray, List.set_cons_zero, List.set_cons_succ]
          refine wpAnyH_take (i := 15) (v := ?_) rfl (by kernel_rfl) (by kernel_rfl) (by kernel_rfl) (fun _ _ _ h => h) (Or.inl ⟨by rfl, ?_⟩) (by assumption) ?_
          rotate_left
          · (intro w hSw; (try dsimp only at hSw); go_simp; try with_reducible rfl)
          simp only [Act.put, List.getElem_toArray, List.getElem_cons_zero, List.getElem_cons_succ, List.setIfInBounds_toArray, List.set_cons_zero, List.set_cons_succ]
          refine wpAnyH_take (i := 16) (v := ?_) rfl (by kernel_rfl) (by kernel_rfl) (by kernel_rfl) (fun _ _ _ h => h) (Or.inl ⟨by rfl, ?_⟩) (by assumption) ?_
          rotate_left
          · (intro w hSw; (try dsimp only at hSw); go_simp; try with_reducible rfl)
          simp only [Act.put, List.getElem_toArray, List.getElem_cons_zero, List.getElem_cons_succ, List.setIfInBounds_toArray, List.set_cons_zero, List.set_cons_succ]
          refine wpAnyH_ready (rs := [11]) (by kernel_rfl) (by simp) ?_
          refine AllReadyH.cons rfl (fun K hK => ?_) AllReadyH.nil
          simp only [List.getElem_toArray, List.getElem_cons_zero, List.getElem_cons_succ]
          go_simp
          refine hK.out _ _ ?_ (fun hHeld => ?_)
          · exact hHeld
          clear hK K
          try simp only [Act.put, List.getElem_toArray, List.getElem_cons_zero, List.getElem_cons_succ, List.setIfInBounds_toArray, List.set_cons_zero, List.set_cons_succ]
          refine wpAnyH_ready (rs := [14]) (by kernel_rfl) (by simp) ?_
          refine AllReadyH.cons rfl (fun K hK => ?_) AllReadyH.nil
          simp only [List.getElem_toArray, List.getElem_cons_zero, List.getElem_cons_succ]
          go_simp
          refine Calls.mono H1.out ?_; rintro e w2 ⟨C, rfl, hk⟩
          go_wp2_with fail
          refine hK.out _ _ ?_ (fun hHeld => ?_)
          · exact hk.touch.cell (p := ⟨pb, off, none⟩) HC.out HT.out.2.2.2.2.1
          clear hK K
          try simp only [Act.put, List.getElem_toArray, List.getElem_cons_zero, List.getElem_cons_succ, List.setIfInBounds_toArray, List.set_cons_zero, List.set_cons_succ]
          refine wpAnyH_take (i := 17) (v := ?_) rfl (by kernel_rfl) (by kernel_rfl) (by kernel_rfl) (fun _ _ _ h => h) (Or.inl ⟨by rfl, ?_⟩) (by assumption) ?_
          rotate_left
          · (intro w hSw; (try dsimp only at hSw); go_simp; try with_reducible rfl)
          simp only [Act.put, List.getElem_toArray, List.getElem_cons_zero, List.getElem_cons_succ, List.setIfInBounds_toArray, List.set_cons_zero, List.set_cons_succ]
          have hB2 := hk.touch.blk (HB.out.drew) (nd_node HT.out.2.2.1).1
          have e0 := hB2.cell (i := 0) rfl
          have e1 := hB2.frozen 0
          have hF := out_left HT.out.1 HT.out.2.1 HT.out.2.2.1 ((Touch.refl [] w).drew) hk
          have d0 := hF.2.cell (i := 0) rfl
          have d1 := hF.2.cell (i := 1) rfl
          have d2 := hF.2.cell (i := 2) rfl
          have HF := toHid hF.1
          rw [ptr_ad C] at *
          rw [ptr_ad r] at d1
          clear hk hB2 hF
          generalize hca : adT C = ca at *
          generalize hsb : adT r = sb at *
          refine wpAnyH_ready (rs := [18]) (by kernel_rfl) (by simp) ?_
          refine AllReadyH.cons rfl (fun K hK => ?_) AllReadyH.nil
          simp only [List.getElem_toArray, List.getElem_cons_zero, List.getElem_cons_succ]
          go_simp
          refine hK.out _ _ ?_ (fun _ => ?_)
          · exact ((Touch.refl [b] w2).setCell ⟨b, 0, none⟩ _ (Or.inl (by simp))).cell hHeld (by simpa using HNE.out)
          clear hK K
          try simp only [Act.put, List.getElem_toArray, List.getElem_cons_zero, List.getElem_cons_succ, List.setIfInBounds_toArray, List.set_cons_zero, List.set_cons_succ]
          refine wpAnyH_done (by kernel_rfl) ?_ _
          generalize hw3 : w2.setCell ⟨b, 0, none⟩ (Value.pointer ca) = w3 at *
          clear hw3 e0 e1 c0 c1 hc H1 hHeld HC HNE HB
          have HA : Hid (∃ hb : Bool, a.1 = hb) := ⟨a.1, rfl⟩
          generalize hab : a.1 = hb at d2
          have hq := eq82
          cases hb with
          | true =>
            have HG : Hid (OPost w (.node b 0 a l r) (false :: []) (.returned (.pointer (some ⟨b, 0, none⟩))) w3) := ⟨_, rfl, HF.out⟩
            clear HF HA hab hca hsb HT
            go_wp2
            go_ret
            exact HG.out
          | false =>
            cases ca with
            | some x =>
              have HG : Hid (OPost w (.node b 0 a l r) (false :: []) (.returned (.pointer (some ⟨b, 0, none⟩))) w3) := ⟨_, rfl, HF.out⟩
              clear HF HA hab hca hsb HT
              go_wp2
              go_ret
              exact HG.out
            | none =>
              cases sb with
              | some x =>
                have HG : Hid (OPost w (.node b 0 a l r) (false :: []) (.returned (.pointer (some ⟨b, 0, none⟩))) w3) := ⟨_, rfl, HF.out⟩
                clear HF HA hab hca hsb HT
                go_wp2
                go_ret
                exact HG.out
              | none =>
                have HG : Hid (OPost w (.node b 0 a l r) (false :: []) (.returned (.pointer none)) w3) := by
                  have e1 := adT_nil hca
                  have e2 := adT_nil hsb
                  have hf := HF.out
                  clear HF
                  subst e1 e2
                  exact ⟨.nil, rfl, out_prune hf hab⟩
                clear HF HA hab hca hsb HT
                go_wp2
                go_ret
                exact HG.out
        | x0 :: p, hp, ih, hin =>
          have H1 := toHid (ih l w.drew (some ⟨pb, off + 1, none⟩) (hT.2.2.1.touch hd (by simp)) hok.2.1 n3 (PathAt.still (hp.tail) hd) (fun b' off' e => by injection e with e; injection e with e1; subst e1; exact hpl.1) hin)
          show Calls Try.prog 32 #[.pointer (some ⟨b, 0, none⟩), .slice (some ⟨pb, off, none⟩) (p.length + 1 + 1) (p.length + 1 + 1)] w _
          simp only [List.length_cons] at H1
          have hc : w.cell? ⟨pb, off, none⟩ = some (.int .i64 0) := hc0
          have HC := toHid hc
          have hle : (1 : Int) ≤ (p.length : Int) + 1 + 1 := by omega
          rw [ptr_ad l] at H1 c0
          have HB := toHid hB
          have HNE : Hid (pb ≠ b) := fun e => hpb (by simp [bsT, e])
          clear hp hc0 hB hok hnd hT hrest ih hd n1 n2 n3 n4 n5 hpl hout hpb hin
          go_enter Try.func32, Try.ntmps32
          go_wp2_with fail
          refine wp_region_held_drew (S := fun w' => w'.cell? ⟨pb, off, none⟩ = some (.int .i64 0)) (by kernel_rfl) ?_ (fun hHeld => ?_)
          · exact HC.out
          refine wpAnyH_take (i := 0) (v := ?_) rfl (by kernel_rfl) (by kernel_rfl) (by kernel_rfl) (fun _ _ _ h => h) (Or.inl ⟨by rfl, ?_⟩) (by assumption) ?_
          rotate_left
          · (intro w hSw; (try dsimp only at hSw); go_simp; try with_reducible rfl)
          simp only [Act.put, List.getElem_toArray, List.getElem_cons_zero, List.setIfInBounds_toArray, List.set_cons_zero, List.set_cons_succ]
          refine wpAnyH_take (i := 1) (v := ?_) rfl (by kernel_rfl) (by kernel_rfl) (by kernel_rfl) (fun _ _ _ h => h) (Or.inl ⟨by rfl, ?_⟩) (by assumption) ?_
          rotate_left
          · (intro w hSw; (try dsimp only at hSw); go_simp; try with_reducible rfl)
          simp only [Act.put, List.getElem_toArray, List.getElem_cons_zero, List.getElem_cons_succ, List.setIfInBounds_toArray, List.set_cons_zero, List.set_cons_succ]
          refine wpAnyH_take (i := 2) (v := ?_) rfl (by kernel_rfl) (by kernel_rfl) (by kernel_rfl) (fun _ _ _ h => h) (Or.inl ⟨by rfl, ?_⟩) (by assumption) ?_
          rotate_left
          · (intro w hSw; (try dsimp only at hSw); go_simp; try with_reducible rfl)
          simp only [Act.put, List.getElem_toArray, List.getElem_cons_zero, List.getElem_cons_succ, List.setIfInBounds_toArray, List.set_cons_zero, List.set_cons_succ]
          refine wpAnyH_take (i := 3) (v := ?_) rfl (by kernel_rfl) (by kernel_rfl) (by kernel_rfl) (fun _ _ _ h => h) (Or.inl ⟨by rfl, ?_⟩) (by assumption) ?_
          rotate_left
          · (intro w hSw; (try dsimp only at hSw); go_simp; try with_reducible rfl)
          simp only [Act.put, List.getElem_toArray, List.getElem_cons_zero, List.getElem_cons_succ, List.setIfInBounds_toArray, List.set_cons_zero, List.set_cons_succ]
          refine wpAnyH_take (i := 4) (v := ?_) rfl (by kernel_rfl) (by kernel_rfl) (by kernel_rfl) (fun _ _ _ h => h) (Or.inl ⟨by rfl, ?_⟩) (by assumption) ?_
          rotate_left
          · (intro w hSw; (try dsimp only at hSw); go_simp; try with_reducible rfl)
          simp only [Act.put, List.getElem_toArray, List.getElem_cons_zero, List.getElem_cons_succ, List.setIfInBounds_toArray, List.set_cons_zero, List.set_cons_succ]
          refine wpAnyH_take (i := 5) (v := ?_) rfl (by kernel_rfl) (by kernel_rfl) (by kernel_rfl) (fun _ _ _ h => h) (Or.inl ⟨by rfl, ?_⟩) (by assumption) ?_
          rotate_left
          · (intro w hSw; (try dsimp only at hSw); go_simp; try with_reducible rfl)
          simp only [Act.put, List.getElem_toArray, List.getElem_cons_zero, List.getElem_cons_succ, List.setIfInBounds_toArray, List.set_cons_zero, List.set_cons_succ]
          refine wpAnyH_take (i := 6) (v := ?_) rfl (by kernel_rfl) (by kernel_rfl) (by kernel_rfl) (fun _ _ _ h => h) (Or.inl ⟨by rfl, ?_⟩) (by assumption) ?_
          rotate_left
          · (intro w hSw; (try dsimp only at hSw); go_simp; try with_reducible rfl)
          simp only [Act.put, List.getElem_toArray, List.getElem_cons_zero, List.getElem_cons_succ, List.setIfInBounds_toArray, List.set_cons_zero, List.set_cons_succ]
          refine wpAnyH_take (i := 7) (v := ?_) rfl (by kernel_rfl) (by kernel_rfl) (by kernel_rfl) (fun _ _ _ h => h) (Or.inl ⟨by rfl, ?_⟩) (by assumption) ?_
          rotate_left
          · (intro w hSw; (try dsimp only at hSw); go_simp; try with_reducible rfl)
          simp only [Act.put, List.getElem_toArray, List.getElem_cons_zero, List.getElem_cons_succ, List.setIfInBounds_toArray, List.set_cons_zero, List.set_cons_succ]
          refine wpAnyH_take (i := 8) (v := ?_) rfl (by kernel_rfl) (by kernel_rfl) (by kernel_rfl) (fun _ _ _ h => h) (Or.inl ⟨by rfl, ?_⟩) (by assumption) ?_
          rotate_left
          · (intro w hSw; (try dsimp only at hSw); go_simp; try with_reducible rfl)
          simp only [Act.put, List.getElem_toArray, List.getElem_cons_zero, List.getElem_cons_succ, List.setIfInBounds_toArray, List.set_cons_zero, List.set_cons_succ]
          refine wpAnyH_take (i := 9) (v := ?_) rfl (by kernel_rfl) (by kernel_rfl) (by kernel_rfl) (fun _ _ _ h => h) (Or.inl ⟨by rfl, ?_⟩) (by assumption) ?_
          rotate_left
          · (intro w hSw; (try dsimp only at hSw); go_simp; try with_reducible rfl)
          simp only [Act.put, List.getElem_toArray, List.getElem_cons_zero, List.getElem_cons_succ, List.setIfInBounds_toArray, List.set_cons_zero, List.set_cons_succ]
          refine wpAnyH_take (i := 10) (v := ?_) rfl (by kernel_rfl) (by kernel_rfl) (by kernel_rfl) (fun _ _ _ h => h) (Or.inl ⟨by rfl, ?_⟩) (by assumption) ?_
          rotate_left
          · (intro w hSw; (try dsimp only at hSw); go_simp; try with_reducible rfl)
          simp only [Act.put, List.getElem_toArray, List.getElem_cons_zero, List.getElem_cons_succ, List.setIfInBounds_toArray, List.set_cons_zero, List.set_cons_succ]
          refine wpAnyH_take (i := 12) (v := ?_) rfl (by kernel_rfl) (by kernel_rfl) (by kernel_rfl) (fun _ _ _ h => h) (Or.inl ⟨by rfl, ?_⟩) (by assumption) ?_
          rotate_left
          · (intro w hSw; (try dsimp only at hSw); go_simp; try with_reducible rfl)
          simp only [Act.put, List.getElem_toArray, List.getElem_cons_zero, List.getElem_cons_succ, List.setIfInBounds_toArray, List.set_cons_zero, List.set_cons_succ]
          refine wpAnyH_take (i := 13) (v := ?_) rfl (by kernel_rfl) (by kernel_rfl) (by kernel_rfl) (fun _ _ _ h => h) (Or.inl ⟨by rfl, ?_⟩) (by assumption) ?_
          rotate_left
          · (intro w hSw; (try dsimp only at hSw); go_simp; try with_reducible rfl)
          simp only [Act.put, List.getElem_toArray, List.getElem_cons_zero, List.getElem_cons_succ, List.setIfInBounds_toArray, List.set_cons_zero, List.set_cons_succ]
          refine wpAnyH_take (i := 15) (v := ?_) rfl (by kernel_rfl) (by kernel_rfl) (by kernel_rfl) (fun _ _ _ h => h) (Or.inl ⟨by rfl, ?_⟩) (by assumption) ?_
          rotate_left
          · (intro w hSw; (try dsimp only at hSw); go_simp; try with_reducible rfl)
          simp only [Act.put, List.getElem_toArray, List.getElem_cons_zero, List.getElem_cons_succ, List.setIfInBounds_toArray, List.set_cons_zero, List.set_cons_succ]
          refine wpAnyH_take (i := 16) (v := ?_) rfl (by kernel_rfl) (by kernel_rfl) (by kernel_rfl) (fun _ _ _ h => h) (Or.inl ⟨by rfl, ?_⟩) (by assumption) ?_
          rotate_left
          · (intro w hSw; (try dsimp only at hSw); go_simp; try with_reducible rfl)
          simp only [Act.put, List.getElem_toArray, List.getElem_cons_zero, List.getElem_cons_succ, List.setIfInBounds_toArray, List.set_cons_zero, List.set_cons_succ]
          refine wpAnyH_ready (rs := [11]) (by kernel_rfl) (by simp) ?_
          refine AllReadyH.cons rfl (fun K hK => ?_) AllReadyH.nil
          simp only [List.getElem_toArray, List.getElem_cons_zero, List.getElem_cons_succ]
          go_simp
          refine hK.out _ _ ?_ (fun hHeld => ?_)
          · exact hHeld
          clear hK K
          try simp only [Act.put, List.getElem_toArray, List.getElem_cons_zero, List.getElem_cons_succ, List.setIfInBounds_toArray, List.set_cons_zero, List.set_cons_succ]
          refine wpAnyH_ready (rs := [14]) (by kernel_rfl) (by simp) ?_
          refine AllReadyH.cons rfl (fun K hK => ?_) AllReadyH.nil
          simp only [List.getElem_toArray, List.getElem_cons_zero, List.getElem_cons_succ]
          go_simp
          refine Calls.mono H1.out ?_; rintro e w2 ⟨C, rfl, hk⟩
          go_wp2_with fail
          refine hK.out _ _ ?_ (fun hHeld => ?_)
          · exact hk.touch.cell (p := ⟨pb, off, none⟩) HC.out HT.out.2.2.2.2.1
          clear hK K
          try simp only [Act.put, List.getElem_toArray, List.getElem_cons_zero, List.getElem_cons_succ, List.setIfInBounds_toArray, List.set_cons_zero, List.set_cons_succ]
          refine wpAnyH_take (i := 17) (v := ?_) rfl (by kernel_rfl) (by kernel_rfl) (by kernel_rfl) (fun _ _ _ h => h) (Or.inl ⟨by rfl, ?_⟩) (by assumption) ?_
          rotate_left
          · (intro w hSw; (try dsimp only at hSw); go_simp; try with_reducible rfl)
          simp only [Act.put, List.getElem_toArray, List.getElem_cons_zero, List.getElem_cons_succ, List.setIfInBounds_toArray, List.set_cons_zero, List.set_cons_succ]
          have hB2 := hk.touch.blk (HB.out.drew) (nd_node HT.out.2.2.1).1
          have e0 := hB2.cell (i := 0) rfl
          have e1 := hB2.frozen 0
          have hF := out_left HT.out.1 HT.out.2.1 HT.out.2.2.1 ((Touch.refl [] w).drew) hk
          have d0 := hF.2.cell (i := 0) rfl
          have d1 := hF.2.cell (i := 1) rfl
          have d2 := hF.2.cell (i := 2) rfl
          have HF := toHid hF.1
          rw [ptr_ad C] at *
          rw [ptr_ad r] at d1
          clear hk hB2 hF
          generalize hca : adT C = ca at *
          generalize hsb : adT r = sb at *
          refine wpAnyH_ready (rs := [18]) (by kernel_rfl) (by simp) ?_
          refine AllReadyH.cons rfl (fun K hK => ?_) AllReadyH.nil
          simp only [List.getElem_toArray, List.getElem_cons_zero, List.getElem_cons_succ]
          go_simp
          refine hK.out _ _ ?_ (fun _ => ?_)
          · exact ((Touch.refl [b] w2).setCell ⟨b, 0, none⟩ _ (Or.inl (by simp))).cell hHeld (by simpa using HNE.out)
          clear hK K
          try simp only [Act.put, List.getElem_toArray, List.getElem_cons_zero, List.getElem_cons_succ, List.setIfInBounds_toArray, List.set_cons_zero, List.set_cons_succ]
          refine wpAnyH_done (by kernel_rfl) ?_ _
          generalize hw3 : w2.setCell ⟨b, 0, none⟩ (Value.pointer ca) = w3 at *
          clear hw3 e0 e1 c0 c1 hc H1 hHeld HC HNE HB
          have HA : Hid (∃ hb : Bool, a.1 = hb) := ⟨a.1, rfl⟩
          generalize hab : a.1 = hb at d2
          have hq := eq82
          cases hb with
          | true =>
            have HG : Hid (OPost w (.node b 0 a l r) (false :: (x0 :: p)) (.returned (.pointer (some ⟨b, 0, none⟩))) w3) := ⟨_, rfl, HF.out⟩
            clear HF HA hab hca hsb HT
            go_wp2
            go_ret
            exact HG.out
          | false =>
            cases ca with
            | some x =>
              have HG : Hid (OPost w (.node b 0 a l r) (false :: (x0 :: p)) (.returned (.pointer (some ⟨b, 0, none⟩))) w3) := ⟨_, rfl, HF.out⟩
              clear HF HA hab hca hsb HT
              go_wp2
              go_ret
              exact HG.out
            | none =>
              cases sb with
              | some x =>
                have HG : Hid (OPost w (.node b 0 a l r) (false :: (x0 :: p)) (.returned (.pointer (some ⟨b, 0, none⟩))) w3) := ⟨_, rfl, HF.out⟩
                clear HF HA hab hca hsb HT
                go_wp2
                go_ret
                exact HG.out
              | none =>
                have HG : Hid (OPost w (.node b 0 a l r) (false :: (x0 :: p)) (.returned (.pointer none)) w3) := by
                  have e1 := adT_nil hca
                  have e2 := adT_nil hsb
                  have hf := HF.out
                  clear HF
                  subst e1 e2
                  exact ⟨.nil, rfl, out_prune hf hab⟩
                clear HF HA hab hca hsb HT
                go_wp2
                go_ret
                exact HG.out
      | true =>
        match p, hp, ih, hin with
        | [], hp, ih, hin =>
          have H1 := toHid (ih r w.drew (some ⟨pb, off, none⟩) (hT.2.2.2.touch hd (by simp)) hok.2.2 n4 (PathAt.still (PathAt.last _) hd) (fun b' off' e => by injection e with e; injection e with e1; subst e1; exact hpl.2) hin)
          show Calls Try.prog 32 #[.pointer (some ⟨b, 0, none⟩), .slice (some ⟨pb, off, none⟩) 1 1] w _
          simp only [List.length_nil] at H1
          have hc : w.cell? ⟨pb, off, none⟩ = some (.int .i64 1) := hc0
          have HC := toHid hc
          skip
          rw [ptr_ad r] at H1 c1
          have HB := toHid hB
          have HNE : Hid (pb ≠ b) := fun e => hpb (by simp [bsT, e])
          clear hp hc0 hB hok hnd hT hrest ih hd n1 n2 n3 n4 n5 hpl hout hpb hin
          go_enter Try.func32, Try.ntmps32
          go_wp2_with fail
          refine wp_region_held_drew (S := fun w' => w'.cell? ⟨pb, off, none⟩ = some (.int .i64 1)) (by kernel_rfl) ?_ (fun hHeld => ?_)
          · exact HC.out
          refine wpAnyH_take (i := 0) (v := ?_) rfl (by kernel_rfl) (by kernel_rfl) (by kernel_rfl) (fun _ _ _ h => h) (Or.inl ⟨by rfl, ?_⟩) (by assumption) ?_
          rotate_left
          · (intro w hSw; (try dsimp only at hSw); go_simp; try with_reducible rfl)
          simp only [Act.put, List.getElem_toArray, List.getElem_cons_zero, List.setIfInBounds_toArray, List.set_cons_zero, List.set_cons_succ]
          refine wpAnyH_take (i := 1) (v := ?_) rfl (by kernel_rfl) (by kernel_rfl) (by kernel_rfl) (fun _ _ _ h => h) (Or.inl ⟨by rfl, ?_⟩) (by assumption) ?_
          rotate_left
          · (intro w hSw; (try dsimp only at hSw); go_simp; try with_reducible rfl)
          simp only [Act.put, List.getElem_toArray, List.getElem_cons_zero, List.getElem_cons_succ, List.setIfInBounds_toArray, List.set_cons_zero, List.set_cons_succ]
          refine wpAnyH_take (i := 2) (v := ?_) rfl (by kernel_rfl) (by kernel_rfl) (by kernel_rfl) (fun _ _ _ h => h) (Or.inl ⟨by rfl, ?_⟩) (by assumption) ?_
          rotate_left
          · (intro w hSw; (try dsimp only at hSw); go_simp; try with_reducible rfl)
          simp only [Act.put, List.getElem_toArray, List.getElem_cons_zero, List.getElem_cons_succ, List.setIfInBounds_toArray, List.set_cons_zero, List.set_cons_succ]
          refine wpAnyH_take (i := 3) (v := ?_) rfl (by kernel_rfl) (by kernel_rfl) (by kernel_rfl) (fun _ _ _ h => h) (Or.inl ⟨by rfl, ?_⟩) (by assumption) ?_
          rotate_left
          · (intro w hSw; (try dsimp only at hSw); go_simp; try with_reducible rfl)
          simp only [Act.put, List.getElem_toArray, List.getElem_cons_zero, List.getElem_cons_succ, List.setIfInBounds_toArray, List.set_cons_zero, List.set_cons_succ]
          refine wpAnyH_take (i := 4) (v := ?_) rfl (by kernel_rfl) (by kernel_rfl) (by kernel_rfl) (fun _ _ _ h => h) (Or.inl ⟨by rfl, ?_⟩) (by assumption) ?_
          rotate_left
          · (intro w hSw; (try dsimp only at hSw); go_simp; try with_reducible rfl)
          simp only [Act.put, List.getElem_toArray, List.getElem_cons_zero, List.getElem_cons_succ, List.setIfInBounds_toArray, List.set_cons_zero, List.set_cons_succ]
          refine wpAnyH_take (i := 5) (v := ?_) rfl (by kernel_rfl) (by kernel_rfl) (by kernel_rfl) (fun _ _ _ h => h) (Or.inl ⟨by rfl, ?_⟩) (by assumption) ?_
          rotate_left
          · (intro w hSw; (try dsimp only at hSw); go_simp; try with_reducible rfl)
          simp only [Act.put, List.getElem_toArray, List.getElem_cons_zero, List.getElem_cons_succ, List.setIfInBounds_toArray, List.set_cons_zero, List.set_cons_succ]
          refine wpAnyH_take (i := 6) (v := ?_) rfl (by kernel_rfl) (by kernel_rfl) (by kernel_rfl) (fun _ _ _ h => h) (Or.inl ⟨by rfl, ?_⟩) (by assumption) ?_
          rotate_left
          · (intro w hSw; (try dsimp only at hSw); go_simp; try with_reducible rfl)
          simp only [Act.put, List.getElem_toArray, List.getElem_cons_zero, List.getElem_cons_succ, List.setIfInBounds_toArray, List.set_cons_zero, List.set_cons_succ]
          refine wpAnyH_take (i := 7) (v := ?_) rfl (by kernel_rfl) (by kernel_rfl) (by kernel_rfl) (fun _ _ _ h => h) (Or.inl ⟨by rfl, ?_⟩) (by assumption) ?_
          rotate_left
          · (intro w hSw; (try dsimp only at hSw); go_simp; try with_reducible rfl)
          simp only [Act.put, List.getElem_toArray, List.getElem_cons_zero, List.getElem_cons_succ, List.setIfInBounds_toArray, List.set_cons_zero, List.set_cons_succ]
          refine wpAnyH_take (i := 8) (v := ?_) rfl (by kernel_rfl) (by kernel_rfl) (by kernel_rfl) (fun _ _ _ h => h) (Or.inl ⟨by rfl, ?_⟩) (by assumption) ?_
          rotate_left
          · (intro w hSw; (try dsimp only at hSw); go_simp; try with_reducible rfl)
          simp only [Act.put, List.getElem_toArray, List.getElem_cons_zero, List.getElem_cons_succ, List.setIfInBounds_toArray, List.set_cons_zero, List.set_cons_succ]
          refine wpAnyH_take (i := 9) (v := ?_) rfl (by kernel_rfl) (by kernel_rfl) (by kernel_rfl) (fun _ _ _ h => h) (Or.inl ⟨by rfl, ?_⟩) (by assumption) ?_
          rotate_left
          · (intro w hSw; (try dsimp only at hSw); go_simp; try with_reducible rfl)
          simp only [Act.put, List.getElem_toArray, List.getElem_cons_zero, List.getElem_cons_succ, List.setIfInBounds_toArray, List.set_cons_zero, List.set_cons_succ]
          refine wpAnyH_take (i := 10) (v := ?_) rfl (by kernel_rfl) (by kernel_rfl) (by kernel_rfl) (fun _ _ _ h => h) (Or.inl ⟨by rfl, ?_⟩) (by assumption) ?_
          rotate_left
          · (intro w hSw; (try dsimp only at hSw); go_simp; try with_reducible rfl)
          simp only [Act.put, List.getElem_toArray, List.getElem_cons_zero, List.getElem_cons_succ, List.setIfInBounds_toArray, List.set_cons_zero, List.set_cons_succ]
          refine wpAnyH_take (i := 12) (v := ?_) rfl (by kernel_rfl) (by kernel_rfl) (by kernel_rfl) (fun _ _ _ h => h) (Or.inl ⟨by rfl, ?_⟩) (by assumption) ?_
          rotate_left
          · (intro w hSw; (try dsimp only at hSw); go_simp; try with_reducible rfl)
          simp only [Act.put, List.getElem_toArray, List.getElem_cons_zero, List.getElem_cons_succ, List.setIfInBounds_toArray, List.set_cons_zero, List.set_cons_succ]
          refine wpAnyH_take (i := 13) (v := ?_) rfl (by kernel_rfl) (by kernel_rfl) (by kernel_rfl) (fun _ _ _ h => h) (Or.inl ⟨by rfl, ?_⟩) (by assumption) ?_
          rotate_left
          · (intro w hSw; (try dsimp only at hSw); go_simp; try with_reducible rfl)
          simp only [Act.put, List.getElem_toArray, List.getElem_cons_zero, List.getElem_cons_succ, List.setIfInBounds_toArray, List.set_cons_zero, List.set_cons_succ]
          refine wpAnyH_take (i := 15) (v := ?_) rfl (by kernel_rfl) (by kernel_rfl) (by kernel_rfl) (fun _ _ _ h => h) (Or.inl ⟨by rfl, ?_⟩) (by assumption) ?_
          rotate_left
          · (intro w hSw; (try dsimp only at hSw); go_simp; try with_reducible rfl)
          simp only [Act.put, List.getElem_toArray, List.getElem_cons_zero, List.getElem_cons_succ, List.setIfInBounds_toArray, List.set_cons_zero, List.set_cons_succ]
          refine wpAnyH_take (i := 16) (v := ?_) rfl (by kernel_rfl) (by kernel_rfl) (by kernel_rfl) (fun _ _ _ h => h) (Or.inl ⟨by rfl, ?_⟩) (by assumption) ?_
          rotate_left
          · (intro w hSw; (try dsimp only at hSw); go_simp; try with_reducible rfl)
          simp only [Act.put, List.getElem_toArray, List.getElem_cons_zero, List.getElem_cons_succ, List.setIfInBounds_toArray, List.set_cons_zero, List.set_cons_succ]
          refine wpAnyH_ready (rs := [11]) (by kernel_rfl) (by simp) ?_
          refine AllReadyH.cons rfl (fun K hK => ?_) AllReadyH.nil
          simp only [List.getElem_toArray, List.getElem_cons_zero, List.getElem_cons_succ]
          go_simp
          refine hK.out _ _ ?_ (fun hHeld => ?_)
          · exact hHeld
          clear hK K
          try simp only [Act.put, List.getElem_toArray, List.getElem_cons_zero, List.getElem_cons_succ, List.setIfInBounds_toArray, List.set_cons_zero, List.set_cons_succ]
          refine wpAnyH_ready (rs := [14]) (by kernel_rfl) (by simp) ?_
          refine AllReadyH.cons rfl (fun K hK => ?_) AllReadyH.nil
          simp only [List.getElem_toArray, List.getElem_cons_zero, List.getElem_cons_succ]
          go_simp
          refine Calls.mono H1.out ?_; rintro e w2 ⟨C, rfl, hk⟩
          go_wp2_with fail
          refine hK.out _ _ ?_ (fun hHeld => ?_)
          · exact hk.touch.cell (p := ⟨pb, off, none⟩) HC.out HT.out.2.2.2.2.2
          clear hK K
          try simp only [Act.put, List.getElem_toArray, List.getElem_cons_zero, List.getElem_cons_succ, List.setIfInBounds_toArray, List.set_cons_zero, List.set_cons_succ]
          refine wpAnyH_take (i := 17) (v := ?_) rfl (by kernel_rfl) (by kernel_rfl) (by kernel_rfl) (fun _ _ _ h => h) (Or.inl ⟨by rfl, ?_⟩) (by assumption) ?_
          rotate_left
          · (intro w hSw; (try dsimp only at hSw); go_simp; try with_reducible rfl)
          simp only [Act.put, List.getElem_toArray, List.getElem_cons_zero, List.getElem_cons_succ, List.setIfInBounds_toArray, List.set_cons_zero, List.set_cons_succ]
          have hB2 := hk.touch.blk (HB.out.drew) (nd_node HT.out.2.2.1).2.1
          have e0 := hB2.cell (i := 1) rfl
          have e1 := hB2.frozen 1
          have hF := out_right HT.out.1 HT.out.2.1 HT.out.2.2.1 ((Touch.refl [] w).drew) hk
          have d0 := hF.2.cell (i := 0) rfl
          have d1 := hF.2.cell (i := 1) rfl
          have d2 := hF.2.cell (i := 2) rfl
          have HF := toHid hF.1
          rw [ptr_ad C] at *
          rw [ptr_ad l] at d0
          clear hk hB2 hF
          generalize hca : adT C = ca at *
          generalize hsb : adT l = sb at *
          refine wpAnyH_ready (rs := [18]) (by kernel_rfl) (by simp) ?_
          refine AllReadyH.cons rfl (fun K hK => ?_) AllReadyH.nil
          simp only [List.getElem_toArray, List.getElem_cons_zero, List.getElem_cons_succ]
          go_simp
          refine hK.out _ _ ?_ (fun _ => ?_)
          · exact ((Touch.refl [b] w2).setCell ⟨b, 1, none⟩ _ (Or.inl (by simp))).cell hHeld (by simpa using HNE.out)
          clear hK K
          try simp only [Act.put, List.getElem_toArray, List.getElem_cons_zero, List.getElem_cons_succ, List.setIfInBounds_toArray, List.set_cons_zero, List.set_cons_succ]
          refine wpAnyH_done (by kernel_rfl) ?_ _
          generalize hw3 : w2.setCell ⟨b, 1, none⟩ (Value.pointer ca) = w3 at *
          clear hw3 e0 e1 c0 c1 hc H1 hHeld HC HNE HB
          have HA : Hid (∃ hb : Bool, a.1 = hb) := ⟨a.1, rfl⟩
          generalize hab : a.1 = hb at d2
          have hq := eq82
          cases hb with
          | true =>
            have HG : Hid (OPost w (.node b 0 a l r) (true :: []) (.returned (.pointer (some ⟨b, 0, none⟩))) w3) := ⟨_, rfl, HF.out⟩
            clear HF HA hab hca hsb HT
            go_wp2
            go_ret
            exact HG.out
          | false =>
            cases ca with
            | some x =>
              have HG : Hid (OPost w (.node b 0 a l r) (true :: []) (.returned (.pointer (some ⟨b, 0, none⟩))) w3) := ⟨_, rfl, HF.out⟩
              clear HF HA hab hca hsb HT
              go_wp2
              go_ret
              exact HG.out
            | none =>
              cases sb with
              | some x =>
                have HG : Hid (OPost w (.node b 0 a l r) (true :: []) (.returned (.pointer (some ⟨b, 0, none⟩))) w3) := ⟨_, rfl, HF.out⟩
                clear HF HA hab hca hsb HT
                go_wp2
                go_ret
                exact HG.out
              | none =>
                have HG : Hid (OPost w (.node b 0 a l r) (true :: []) (.returned (.pointer none)) w3) := by
                  have e1 := adT_nil hca
                  have e2 := adT_nil hsb
                  have hf := HF.out
                  clear HF
                  subst e1 e2
                  exact ⟨.nil, rfl, out_prune hf hab⟩
                clear HF HA hab hca hsb HT
                go_wp2
                go_ret
                exact HG.out
        | x0 :: p, hp, ih, hin =>
          have H1 := toHid (ih r w.drew (some ⟨pb, off + 1, none⟩) (hT.2.2.2.touch hd (by simp)) hok.2.2 n4 (PathAt.still (hp.tail) hd) (fun b' off' e => by injection e with e; injection e with e1; subst e1; exact hpl.2) hin)
          show Calls Try.prog 32 #[.pointer (some ⟨b, 0, none⟩), .slice (some ⟨pb, off, none⟩) (p.length + 1 + 1) (p.length + 1 + 1)] w _
          simp only [List.length_cons] at H1
          have hc : w.cell? ⟨pb, off, none⟩ = some (.int .i64 1) := hc0
          have HC := toHid hc
          have hle : (1 : Int) ≤ (p.length : Int) + 1 + 1 := by omega
          rw [ptr_ad r] at H1 c1
          have HB := toHid hB
          have HNE : Hid (pb ≠ b) := fun e => hpb (by simp [bsT, e])
          clear hp hc0 hB hok hnd hT hrest ih hd n1 n2 n3 n4 n5 hpl hout hpb hin
          go_enter Try.func32, Try.ntmps32
          go_wp2_with fail
          refine wp_region_held_drew (S := fun w' => w'.cell? ⟨pb, off, none⟩ = some (.int .i64 1)) (by kernel_rfl) ?_ (fun hHeld => ?_)
          · exact HC.out
          refine wpAnyH_take (i := 0) (v := ?_) rfl (by kernel_rfl) (by kernel_rfl) (by kernel_rfl) (fun _ _ _ h => h) (Or.inl ⟨by rfl, ?_⟩) (by assumption) ?_
          rotate_left
          · (intro w hSw; (try dsimp only at hSw); go_simp; try with_reducible rfl)
          simp only [Act.put, List.getElem_toArray, List.getElem_cons_zero, List.setIfInBounds_toArray, List.set_cons_zero, List.set_cons_succ]
          refine wpAnyH_take (i := 1) (v := ?_) rfl (by kernel_rfl) (by kernel_rfl) (by kernel_rfl) (fun _ _ _ h => h) (Or.inl ⟨by rfl, ?_⟩) (by assumption) ?_
          rotate_left
          · (intro w hSw; (try dsimp only at hSw); go_simp; try with_reducible rfl)
          simp only [Act.put, List.getElem_toArray, List.getElem_cons_zero, List.getElem_cons_succ, List.setIfInBounds_toArray, List.set_cons_zero, List.set_cons_succ]
          refine wpAnyH_take (i := 2) (v := ?_) rfl (by kernel_rfl) (by kernel_rfl) (by kernel_rfl) (fun _ _ _ h => h) (Or.inl ⟨by rfl, ?_⟩) (by assumption) ?_
          rotate_left
          · (intro w hSw; (try dsimp only at hSw); go_simp; try with_reducible rfl)
          simp only [Act.put, List.getElem_toArray, List.getElem_cons_zero, List.getElem_cons_succ, List.setIfInBounds_toArray, List.set_cons_zero, List.set_cons_succ]
          refine wpAnyH_take (i := 3) (v := ?_) rfl (by kernel_rfl) (by kernel_rfl) (by kernel_rfl) (fun _ _ _ h => h) (Or.inl ⟨by rfl, ?_⟩) (by assumption) ?_
          rotate_left
          · (intro w hSw; (try dsimp only at hSw); go_simp; try with_reducible rfl)
          simp only [Act.put, List.getElem_toArray, List.getElem_cons_zero, List.getElem_cons_succ, List.setIfInBounds_toArray, List.set_cons_zero, List.set_cons_succ]
          refine wpAnyH_take (i := 4) (v := ?_) rfl (by kernel_rfl) (by kernel_rfl) (by kernel_rfl) (fun _ _ _ h => h) (Or.inl ⟨by rfl, ?_⟩) (by assumption) ?_
          rotate_left
          · (intro w hSw; (try dsimp only at hSw); go_simp; try with_reducible rfl)
          simp only [Act.put, List.getElem_toArray, List.getElem_cons_zero, List.getElem_cons_succ, List.setIfInBounds_toArray, List.set_cons_zero, List.set_cons_succ]
          refine wpAnyH_take (i := 5) (v := ?_) rfl (by kernel_rfl) (by kernel_rfl) (by kernel_rfl) (fun _ _ _ h => h) (Or.inl ⟨by rfl, ?_⟩) (by assumption) ?_
          rotate_left
          · (intro w hSw; (try dsimp only at hSw); go_simp; try with_reducible rfl)
          simp only [Act.put, List.getElem_toArray, List.getElem_cons_zero, List.getElem_cons_succ, List.setIfInBounds_toArray, List.set_cons_zero, List.set_cons_succ]
          refine wpAnyH_take (i := 6) (v := ?_) rfl (by kernel_rfl) (by kernel_rfl) (by kernel_rfl) (fun _ _ _ h => h) (Or.inl ⟨by rfl, ?_⟩) (by assumption) ?_
          rotate_left
          · (intro w hSw; (try dsimp only at hSw); go_simp; try with_reducible rfl)
          simp only [Act.put, List.getElem_toArray, List.getElem_cons_zero, List.getElem_cons_succ, List.setIfInBounds_toArray, List.set_cons_zero, List.set_cons_succ]
          refine wpAnyH_take (i := 7) (v := ?_) rfl (by kernel_rfl) (by kernel_rfl) (by kernel_rfl) (fun _ _ _ h => h) (Or.inl ⟨by rfl, ?_⟩) (by assumption) ?_
          rotate_left
          · (intro w hSw; (try dsimp only at hSw); go_simp; try with_reducible rfl)
          simp only [Act.put, List.getElem_toArray, List.getElem_cons_zero, List.getElem_cons_succ, List.setIfInBounds_toArray, List.set_cons_zero, List.set_cons_succ]
          refine wpAnyH_take (i := 8) (v := ?_) rfl (by kernel_rfl) (by kernel_rfl) (by kernel_rfl) (fun _ _ _ h => h) (Or.inl ⟨by rfl, ?_⟩) (by assumption) ?_
          rotate_left
          · (intro w hSw; (try dsimp only at hSw); go_simp; try with_reducible rfl)
          simp only [Act.put, List.getElem_toArray, List.getElem_cons_zero, List.getElem_cons_succ, List.setIfInBounds_toArray, List.set_cons_zero, List.set_cons_succ]
          refine wpAnyH_take (i := 9) (v := ?_) rfl (by kernel_rfl) (by kernel_rfl) (by kernel_rfl) (fun _ _ _ h => h) (Or.inl ⟨by rfl, ?_⟩) (by assumption) ?_
          rotate_left
          · (intro w hSw; (try dsimp only at hSw); go_simp; try with_reducible rfl)
          simp only [Act.put, List.getElem_toArray, List.getElem_cons_zero, List.getElem_cons_succ, List.setIfInBounds_toArray, List.set_cons_zero, List.set_cons_succ]
          refine wpAnyH_take (i := 10) (v := ?_) rfl (by kernel_rfl) (by kernel_rfl) (by kernel_rfl) (fun _ _ _ h => h) (Or.inl ⟨by rfl, ?_⟩) (by assumption) ?_
          rotate_left
          · (intro w hSw; (try dsimp only at hSw); go_simp; try with_reducible rfl)
          simp only [Act.put, List.getElem_toArray, List.getElem_cons_zero, List.getElem_cons_succ, List.setIfInBounds_toArray, List.set_cons_zero, List.set_cons_succ]
          refine wpAnyH_take (i := 12) (v := ?_) rfl (by kernel_rfl) (by kernel_rfl) (by kernel_rfl) (fun _ _ _ h => h) (Or.inl ⟨by rfl, ?_⟩) (by assumption) ?_
          rotate_left
          · (intro w hSw; (try dsimp only at hSw); go_simp; try with_reducible rfl)
          simp only [Act.put, List.getElem_toArray, List.getElem_cons_zero, List.getElem_cons_succ, List.setIfInBounds_toArray, List.set_cons_zero, List.set_cons_succ]
          refine wpAnyH_take (i := 13) (v := ?_) rfl (by kernel_rfl) (by kernel_rfl) (by kernel_rfl) (fun _ _ _ h => h) (Or.inl ⟨by rfl, ?_⟩) (by assumption) ?_
          rotate_left
          · (intro w hSw; (try dsimp only at hSw); go_simp; try with_reducible rfl)
          simp only [Act.put, List.getElem_toArray, List.getElem_cons_zero, List.getElem_cons_succ, List.setIfInBounds_toArray, List.set_cons_zero, List.set_cons_succ]
          refine wpAnyH_take (i := 15) (v := ?_) rfl (by kernel_rfl) (by kernel_rfl) (by kernel_rfl) (fun _ _ _ h => h) (Or.inl ⟨by rfl, ?_⟩) (by assumption) ?_
          rotate_left
          · (intro w hSw; (try dsimp only at hSw); go_simp; try with_reducible rfl)
          simp only [Act.put, List.getElem_toArray, List.getElem_cons_zero, List.getElem_cons_succ, List.setIfInBounds_toArray, List.set_cons_zero, List.set_cons_succ]
          refine wpAnyH_take (i := 16) (v := ?_) rfl (by kernel_rfl) (by kernel_rfl) (by kernel_rfl) (fun _ _ _ h => h) (Or.inl ⟨by rfl, ?_⟩) (by assumption) ?_
          rotate_left
          · (intro w hSw; (try dsimp only at hSw); go_simp; try with_reducible rfl)
          simp only [Act.put, List.getElem_toArray, List.getElem_cons_zero, List.getElem_cons_succ, List.setIfInBounds_toArray, List.set_cons_zero, List.set_cons_succ]
          refine wpAnyH_ready (rs := [11]) (by kernel_rfl) (by simp) ?_
          refine AllReadyH.cons rfl (fun K hK => ?_) AllReadyH.nil
          simp only [List.getElem_toArray, List.getElem_cons_zero, List.getElem_cons_succ]
          go_simp
          refine hK.out _ _ ?_ (fun hHeld => ?_)
          · exact hHeld
          clear hK K
          try simp only [Act.put, List.getElem_toArray, List.getElem_cons_zero, List.getElem_cons_succ, List.setIfInBounds_toArray, List.set_cons_zero, List.set_cons_succ]
          refine wpAnyH_ready (rs := [14]) (by kernel_rfl) (by simp) ?_
          refine AllReadyH.cons rfl (fun K hK => ?_) AllReadyH.nil
          simp only [List.getElem_toArray, List.getElem_cons_zero, List.getElem_cons_succ]
          go_simp
          refine Calls.mono H1.out ?_; rintro e w2 ⟨C, rfl, hk⟩
          go_wp2_with fail
          refine hK.out _ _ ?_ (fun hHeld => ?_)
          · exact hk.touch.cell (p := ⟨pb, off, none⟩) HC.out HT.out.2.2.2.2.2
          clear hK K
          try simp only [Act.put, List.getElem_toArray, List.getElem_cons_zero, List.getElem_cons_succ, List.setIfInBounds_toArray, List.set_cons_zero, List.set_cons_succ]
          refine wpAnyH_take (i := 17) (v := ?_) rfl (by kernel_rfl) (by kernel_rfl) (by kernel_rfl) (fun _ _ _ h => h) (Or.inl ⟨by rfl, ?_⟩) (by assumption) ?_
          rotate_left
          · (intro w hSw; (try dsimp only at hSw); go_simp; try with_reducible rfl)
          simp only [Act.put, List.getElem_toArray, List.getElem_cons_zero, List.getElem_cons_succ, List.setIfInBounds_toArray, List.set_cons_zero, List.set_cons_succ]
          have hB2 := hk.touch.blk (HB.out.drew) (nd_node HT.out.2.2.1).2.1
          have e0 := hB2.cell (i := 1) rfl
          have e1 := hB2.frozen 1
          have hF := out_right HT.out.1 HT.out.2.1 HT.out.2.2.1 ((Touch.refl [] w).drew) hk
          have d0 := hF.2.cell (i := 0) rfl
          have d1 := hF.2.cell (i := 1) rfl
          have d2 := hF.2.cell (i := 2) rfl
          have HF := toHid hF.1
          rw [ptr_ad C] at *
          rw [ptr_ad l] at d0
          clear hk hB2 hF
          generalize hca : adT C = ca at *
          generalize hsb : adT l = sb at *
          refine wpAnyH_ready (rs := [18]) (by kernel_rfl) (by simp) ?_
          refine AllReadyH.cons rfl (fun K hK => ?_) AllReadyH.nil
          simp only [List.getElem_toArray, List.getElem_cons_zero, List.getElem_cons_succ]
          go_simp
          refine hK.out _ _ ?_ (fun _ => ?_)
          · exact ((Touch.refl [b] w2).setCell ⟨b, 1, none⟩ _ (Or.inl (by simp))).cell hHeld (by simpa using HNE.out)
          clear hK K
          try simp only [Act.put, List.getElem_toArray, List.getElem_cons_zero, List.getElem_cons_succ, List.setIfInBounds_toArray, List.set_cons_zero, List.set_cons_succ]
          refine wpAnyH_done (by kernel_rfl) ?_ _
          generalize hw3 : w2.setCell ⟨b, 1, none⟩ (Value.pointer ca) = w3 at *
          clear hw3 e0 e1 c0 c1 hc H1 hHeld HC HNE HB
          have HA : Hid (∃ hb : Bool, a.1 = hb) := ⟨a.1, rfl⟩
          generalize hab : a.1 = hb at d2
          have hq := eq82
          cases hb with
          | true =>
            have HG : Hid (OPost w (.node b 0 a l r) (true :: (x0 :: p)) (.returned (.pointer (some ⟨b, 0, none⟩))) w3) := ⟨_, rfl, HF.out⟩
            clear HF HA hab hca hsb HT
            go_wp2
            go_ret
            exact HG.out
          | false =>
            cases ca with
            | some x =>
              have HG : Hid (OPost w (.node b 0 a l r) (true :: (x0 :: p)) (.returned (.pointer (some ⟨b, 0, none⟩))) w3) := ⟨_, rfl, HF.out⟩
              clear HF HA hab hca hsb HT
              go_wp2
              go_ret
              exact HG.out
            | none =>
              cases sb with
              | some x =>
                have HG : Hid (OPost w (.node b 0 a l r) (true :: (x0 :: p)) (.returned (.pointer (some ⟨b, 0, none⟩))) w3) := ⟨_, rfl, HF.out⟩
                clear HF HA hab hca hsb HT
                go_wp2
                go_ret
                exact HG.out
              | none =>
                have HG : Hid (OPost w (.node b 0 a l r) (true :: (x0 :: p)) (.returned (.pointer none)) w3) := by
                  have e1 := adT_nil hca
                  have e2 := adT_nil hsb
                  have hf := HF.out
                  clear HF
                  subst e1 e2
                  exact ⟨.nil, rfl, out_prune hf hab⟩
                clear HF HA hab hca hsb HT
                go_wp2
                go_ret
                exact HG.out
end Go.Proofs.Ytlkbaconlngmjaa
