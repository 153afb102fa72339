/-
  Texts laid together: TOut, TTwin, TKey, TKey2, TEach, TTied, TIdx, TOps, TOps2, TKeys, PK, PK2, PK3, MFns, MSt, MFind, MRef, TRef, TabM, PTab, PLook, MIns, MAdd, MIdx, PRoom, MNum.
-/
import Derived.Test.YtmhhahmjkopjhaaZh1
import Derived.ChangeKeysEq
import Derived.Laws.AppendOwn
import Derived.Deep.RegionWith
import Derived.Deep.WholeRow
import Derived.Test.YtmhhahmjkopjhaaRows
import Derived.Deep.RegionHeld3
import Derived.Deep.RegionLaw
import Derived.BigQuiet
import Derived.Deep.QuietTactic
set_option maxRecDepth 100000
set_option maxHeartbeats 8000000
section
namespace Go.Proofs.Ytmhhahmjkopjhaa.Lpm
open Go.RowKit Go.Deep
structure OKept (w : World) (T : Tr) (p : List Bool) (T' : Tr) (w' : World) : Prop where
 at_ : TrAt w' T'
 ok : okT T'
 nd : (bsT T').Nodup
 get : ∀ q, atT T' q = if q = p then none else atT T q
 blocks : ∀ b ∈ bsT T', b ∈ bsT T
 touch : Touch (bsT T) w w'
 dep : depT T' ≤ depT T
def OPost (w : World) (T : Tr) (p : List Bool) (e : Ending) (w' : World) : Prop := ∃ T', e = .returned (.pointer (adT T')) ∧ OKept w T p T' w'
theorem info84 : (Try.prog.info? 153).map (fun i => (i.zero, i.size, i.bytes)) = some (some (.agg #[.pointer none, .pointer none, .bool false, .int .i64 0]), 4, 32) := by kernel_rfl
theorem info56 : (Try.prog.info? 103).map (fun i => (i.zero, i.size, i.bytes)) = some (some (.pointer none), 1, 8) := by kernel_rfl
theorem cells56 : Try.prog.cellsOf 103 = 1 := by kernel_rfl
theorem eq56 (x : Option Addr) (w : World) (d : Nat) : (Op.equalIn (d + 1) 103 (.pointer x) (.pointer none)).run Try.prog w = .ok x.isNone w := by
 obtain ⟨i, hi, _, _, _⟩ := info_of info84
 cases x with
 | none => simp [Op.equalIn, run_underlying Try.underlying103, sizeOf, typeInfo, sameAddr]
 | some x => simp [Op.equalIn, run_underlying Try.underlying103, sizeOf, typeInfo, sameAddr]
theorem eq82 (x y : Option Addr) (w : World) : (Op.equalIn 10000 151 (.agg #[.pointer x, .pointer y]) (.agg #[.pointer none, .pointer none])).run Try.prog w = .ok (x.isNone && y.isNone) w := by
 obtain ⟨i, hi, _, _, _⟩ := info_of info56
 rw [show (10000 : Nat) = 9999 + 1 from rfl, run_equalIn_array w 9999 #[.pointer x, .pointer y] #[.pointer none, .pointer none] Try.underlying151 hi, cells56, show List.range 2 = [0, 1] from rfl]
 have h1 := eq56 x w 9998
 have h2 := eq56 y w 9998
 simp only [Op.eqItems]
 go_simp
 cases x <;> cases y <;> rfl
theorem out_here {w : World} {b : Nat} {a : Bool × Nat} {l r : Tr} (h : TrAt w (.node b 0 a l r)) (ok : okT (.node b 0 a l r)) (nd : (bsT (.node b 0 a l r)).Nodup) :
  OKept w (.node b 0 a l r) [] (.node b 0 (false, 0) l r) ((w.setCell ⟨b, 2, none⟩ (.bool false)).setCell ⟨b, 3, none⟩ (.int .i64 0)) := by
 obtain ⟨n1, n2, n3, n4, n5⟩ := nd_node nd
 have ht : Touch [b] w ((w.setCell ⟨b, 2, none⟩ (.bool false)).setCell ⟨b, 3, none⟩ (.int .i64 0)) := ((Touch.refl [b] w).setCell _ _ (Or.inl (by simp))).setCell _ _ (Or.inl (by simp))
 refine ⟨⟨rfl, (h.2.1.setCell 2 (.bool false)).setCell 3 (.int .i64 0), h.2.2.1.touch ht (fun x hx hy => ?_), h.2.2.2.touch ht (fun x hx hy => ?_)⟩, ⟨fun _ => rfl, ok.2⟩, nd, fun q => ?_, fun x hx => hx, ht.mono (fun x hx => Or.inl (by simp at hx; simp [bsT, hx])), (by simp only [depT]; omega)⟩
 ·simp at hy; subst hy; exact n1 hx
 ·simp at hy; subst hy; exact n2 hx
 ·match q with
  | [] => rfl
  | false :: q => simp [atT]
  | true :: q => simp [atT]
theorem out_prune {w : World} {T : Tr} {p : List Bool} {b : Nat} {a : Bool × Nat} {w' : World} (k : OKept w T p (.node b 0 a .nil .nil) w') (h : a.1 = false) : OKept w T p .nil w' := by
 refine ⟨trivial, trivial, by simp [bsT], fun q => ?_, fun b hb => (by cases hb), k.touch, (by simp [depT])⟩
 rw [← k.get q]
 match q with
 | [] => simp [atT, heldT, h]
 | false :: q => rfl
 | true :: q => rfl
theorem adT_nil {T : Tr} (h : adT T = none) : T = .nil := by
 cases T with
 | nil => rfl
 | node b o a l r => cases h
theorem out_left {w w0 w2 : World} {b : Nat} {a : Bool × Nat} {l r C : Tr} {p : List Bool} (h : TrAt w (.node b 0 a l r)) (ok : okT (.node b 0 a l r)) (nd : (bsT (.node b 0 a l r)).Nodup) (h0 : Touch [] w w0) (k : OKept w0 l p C w2) :
  OKept w (.node b 0 a l r) (false :: p) (.node b 0 a C r) (w2.setCell ⟨b, 0, none⟩ C.ptr) ∧ Blk (w2.setCell ⟨b, 0, none⟩ C.ptr) b [C.ptr, r.ptr, .bool a.1, .int .i64 (a.2 : Int)] 153 := by
 obtain ⟨n1, n2, n3, n4, n5⟩ := nd_node nd
 have ht : Touch (bsT l) w w2 := (Touch.nil h0).trans k.touch (fun y hy => Or.inl hy)
 have hb : b ∉ bsT C := fun hx => n1 (k.blocks b hx)
 have hap : ∀ x ∈ bsT C, x ∉ bsT r := fun x hx hy => n5 x (k.blocks x hx) hy
 have hts : Touch [b] w2 (w2.setCell ⟨b, 0, none⟩ C.ptr) := (Touch.refl [b] w2).setCell _ _ (Or.inl (by simp))
 have hsib : TrAt (w2.setCell ⟨b, 0, none⟩ C.ptr) r := (h.2.2.2.touch ht (fun x hx hy => n5 x hy hx)).touch hts (fun x hx hy => by simp at hy; subst hy; exact n2 hx)
 have hch : TrAt (w2.setCell ⟨b, 0, none⟩ C.ptr) C := k.at_.touch hts (fun x hx hy => by simp at hy; subst hy; exact hb hx)
 have hB : Blk w2 b [l.ptr, r.ptr, .bool a.1, .int .i64 (a.2 : Int)] 153 := ht.blk h.2.1 n1
 have hB2 : Blk (w2.setCell ⟨b, 0, none⟩ C.ptr) b [C.ptr, r.ptr, .bool a.1, .int .i64 (a.2 : Int)] 153 := hB.setCell 0 C.ptr
 refine ⟨⟨⟨rfl, hB2, hch, hsib⟩, ⟨ok.1, k.ok, ok.2.2⟩, nd_mk hb n2 k.nd n4 hap, fun q => ?_, fun x hx => ?_, ?_, (by have := k.dep; simp only [depT]; omega)⟩, hB2⟩
 ·match q with
  | [] => simp [atT]
  | false :: q => simp [atT, k.get q]
  | true :: q => simp [atT]
 ·simp only [bsT, List.mem_cons, List.mem_append] at hx ⊢
  rcases hx with hx | hx | hx
  ·exact Or.inl hx
  ·exact Or.inr (Or.inl (k.blocks x hx))
  ·exact Or.inr (Or.inr hx)
 ·exact (ht.mono (S' := bsT (.node b 0 a l r)) (fun x hx => Or.inl (by simp [bsT, hx]))).trans hts (fun x hx => Or.inl (by simp at hx; simp [bsT, hx]))
theorem out_right {w w0 w2 : World} {b : Nat} {a : Bool × Nat} {l r C : Tr} {p : List Bool} (h : TrAt w (.node b 0 a l r)) (ok : okT (.node b 0 a l r)) (nd : (bsT (.node b 0 a l r)).Nodup) (h0 : Touch [] w w0) (k : OKept w0 r p C w2) :
  OKept w (.node b 0 a l r) (true :: p) (.node b 0 a l C) (w2.setCell ⟨b, 1, none⟩ C.ptr) ∧ Blk (w2.setCell ⟨b, 1, none⟩ C.ptr) b [l.ptr, C.ptr, .bool a.1, .int .i64 (a.2 : Int)] 153 := by
 obtain ⟨n1, n2, n3, n4, n5⟩ := nd_node nd
 have ht : Touch (bsT r) w w2 := (Touch.nil h0).trans k.touch (fun y hy => Or.inl hy)
 have hb : b ∉ bsT C := fun hx => n2 (k.blocks b hx)
 have hap : ∀ x ∈ bsT C, x ∉ bsT l := fun x hx hy => n5 x hy (k.blocks x hx)
 have hts : Touch [b] w2 (w2.setCell ⟨b, 1, none⟩ C.ptr) := (Touch.refl [b] w2).setCell _ _ (Or.inl (by simp))
 have hsib : TrAt (w2.setCell ⟨b, 1, none⟩ C.ptr) l := (h.2.2.1.touch ht (fun x hx hy => n5 x hx hy)).touch hts (fun x hx hy => by simp at hy; subst hy; exact n1 hx)
 have hch : TrAt (w2.setCell ⟨b, 1, none⟩ C.ptr) C := k.at_.touch hts (fun x hx hy => by simp at hy; subst hy; exact hb hx)
 have hB : Blk w2 b [l.ptr, r.ptr, .bool a.1, .int .i64 (a.2 : Int)] 153 := ht.blk h.2.1 n2
 have hB2 : Blk (w2.setCell ⟨b, 1, none⟩ C.ptr) b [l.ptr, C.ptr, .bool a.1, .int .i64 (a.2 : Int)] 153 := hB.setCell 1 C.ptr
 refine ⟨⟨⟨rfl, hB2, hsib, hch⟩, ⟨ok.1, ok.2.1, k.ok⟩, nd_mk n1 hb n3 k.nd (fun x hx hy => hap x hy hx), fun q => ?_, fun x hx => ?_, ?_, (by have := k.dep; simp only [depT]; omega)⟩, hB2⟩
 ·match q with
  | [] => simp [atT]
  | false :: q => simp [atT]
  | true :: q => simp [atT, k.get q]
 ·simp only [bsT, List.mem_cons, List.mem_append] at hx ⊢
  rcases hx with hx | hx | hx
  ·exact Or.inl hx
  ·exact Or.inr (Or.inl hx)
  ·exact Or.inr (Or.inr (k.blocks x hx))
 ·exact (ht.mono (S' := bsT (.node b 0 a l r)) (fun x hx => Or.inl (by simp [bsT, hx]))).trans hts (fun x hx => Or.inl (by simp at hx; simp [bsT, hx]))
theorem without_any : ∀ (p : List Bool) (T : Tr) (w : World) (sa : Option Addr), TrAt w T → okT T → (bsT T).Nodup → PathAt w sa p → (∀ b off, sa = some ⟨b, off, none⟩ → b ∉ bsT T) → (∃ s, atT T p = some s) →
  Calls Try.prog 98 #[T.ptr, .slice sa p.length p.length] w (OPost w T p) := by
 intro p
 induction p with
 | nil =>
  intro T w sa hT hok hnd hp hout hin
  match T, hT, hok, hnd, hin with
  | .nil, _, _, _, hin =>
   obtain ⟨s, hs⟩ := hin
   cases hs
  | .node b o a l r, hT, hok, hnd, hin =>
   obtain ⟨rfl, hrest⟩ := hT
   have hT : TrAt w (.node b 0 a l r) := ⟨rfl, hrest⟩
   have hB := hT.2.1
   have c2 := hB.cell (i := 2) rfl
   have c3 := (hB.setCell 2 (.bool false)).cell (i := 3) rfl
   have f2 := hB.frozen 2
   have f3 := (hB.setCell 2 (.bool false)).frozen 3
   have hB3 := (hB.setCell 2 (.bool false)).setCell 3 (.int .i64 0)
   have d0 := hB3.cell (i := 0) rfl
   have d1 := hB3.cell (i := 1) rfl
   have d2 := hB3.cell (i := 2) rfl
   show Calls Try.prog 98 #[.pointer (some ⟨b, 0, none⟩), .slice sa 0 0] w _
   have HF := toHid (out_here hT hok hnd)
   have hq := eq82
   clear hp hout hB hB3 hT hrest hok hnd hin
   rw [ptr_ad l] at d0
   rw [ptr_ad r] at d1
   generalize hla : adT l = la at *
   generalize hra : adT r = ra at *
   cases la with
   | none =>
    cases ra with
    | none =>
     have el := adT_nil hla
     have er := adT_nil hra
     subst el er
     have HG : Hid (OPost w (.node b 0 a .nil .nil) [] (.returned (.pointer none)) ((w.setCell ⟨b, 2, none⟩ (.bool false)).setCell ⟨b, 3, none⟩ (.int .i64 0))) := ⟨.nil, rfl, out_prune HF.out rfl⟩
     clear HF hla hra
     go_enter Try.func98, Try.ntmps98
     go_wp2
     go_ret
     exact HG.out
    | some x =>
     have HG : Hid (OPost w (.node b 0 a l r) [] (.returned (.pointer (some ⟨b, 0, none⟩))) ((w.setCell ⟨b, 2, none⟩ (.bool false)).setCell ⟨b, 3, none⟩ (.int .i64 0))) := ⟨_, rfl, HF.out⟩
     clear HF hla hra
     go_enter Try.func98, Try.ntmps98
     go_wp2
     go_ret
     exact HG.out
   | some x =>
    have HG : Hid (OPost w (.node b 0 a l r) [] (.returned (.pointer (some ⟨b, 0, none⟩))) ((w.setCell ⟨b, 2, none⟩ (.bool false)).setCell ⟨b, 3, none⟩ (.int .i64 0))) := ⟨_, rfl, HF.out⟩
    clear HF hla hra
    go_enter Try.func98, Try.ntmps98
    go_wp2
    go_ret
    exact HG.out
 | cons c p ih =>
  intro T w sa hT hok hnd hp hout hin
  obtain ⟨pb, off, rfl, hc0⟩ := hp.head
  have hpb := hout pb off rfl
  match T, hT, hok, hnd, hin with
  | .nil, _, _, _, hin =>
   obtain ⟨s, hs⟩ := hin
   cases hs
  | .node b o a l r, hT, hok, hnd, hin =>
   obtain ⟨rfl, hrest⟩ := hT
   have hT : TrAt w (.node b 0 a l r) := ⟨rfl, hrest⟩
   have hB := hT.2.1
   have c0 := hB.cell (i := 0) rfl
   have c1 := hB.cell (i := 1) rfl
   obtain ⟨n1, n2, n3, n4, n5⟩ := nd_node hnd
   have hpl : pb ∉ bsT l ∧ pb ∉ bsT r := ⟨fun hx => hpb (by simp [bsT, hx]), fun hx => hpb (by simp [bsT, hx])⟩
   have HT := toHid (And.intro hT (And.intro hok (And.intro hnd (And.intro hB hpl))))
   have hd : Touch [] w w.drew := (Touch.refl [] w).drew
   cases c with
   | false =>
    match p, hp, ih, hin with
    | [], hp, ih, hin =>
     have H1 := toHid (ih l w.drew (some ⟨pb, off, none⟩) (hT.2.2.1.touch hd (by simp)) hok.2.1 n3 (PathAt.still (PathAt.last _) hd) (fun b' off' e => by injection e with e; injection e with e1; subst e1; exact hpl.1) hin)
     show Calls Try.prog 98 #[.pointer (some ⟨b, 0, none⟩), .slice (some ⟨pb, off, none⟩) 1 1] w _
     simp only [List.length_nil] at H1
     have hc : w.cell? ⟨pb, off, none⟩ = some (.int .i64 0) := hc0
     have HC := toHid hc
     skip
     rw [ptr_ad l] at H1 c0
     have HB := toHid hB
     have HNE : Hid (pb ≠ b) := fun e => hpb (by simp [bsT, e])
     clear hp hc0 hB hok hnd hT hrest ih hd n1 n2 n3 n4 n5 hpl hout hpb hin
     go_enter Try.func98, Try.ntmps98
     go_wp2_with fail
     refine wp_region_held_drew (S := fun w' => w'.cell? ⟨pb, off, none⟩ = some (.int .i64 0)) (by kernel_rfl) ?_ (fun hHeld => ?_)
     ·exact HC.out
     refine tk 0 (v := ?_) rfl ?_ ?_
     rotate_left
     ·(intro w hSw; (try dsimp only at hSw); go_simp; try with_reducible rfl)
     simp only [Act.put, AP]
     refine tk 1 (v := ?_) rfl ?_ ?_
     rotate_left
     ·(intro w hSw; (try dsimp only at hSw); go_simp; try with_reducible rfl)
     simp only [Act.put, AP]
     refine tk 2 (v := ?_) rfl ?_ ?_
     rotate_left
     ·(intro w hSw; (try dsimp only at hSw); go_simp; try with_reducible rfl)
     simp only [Act.put, AP]
     refine tk 3 (v := ?_) rfl ?_ ?_
     rotate_left
     ·(intro w hSw; (try dsimp only at hSw); go_simp; try with_reducible rfl)
     simp only [Act.put, AP]
     refine tk 4 (v := ?_) rfl ?_ ?_
     rotate_left
     ·(intro w hSw; (try dsimp only at hSw); go_simp; try with_reducible rfl)
     simp only [Act.put, AP]
     refine tk 5 (v := ?_) rfl ?_ ?_
     rotate_left
     ·(intro w hSw; (try dsimp only at hSw); go_simp; try with_reducible rfl)
     simp only [Act.put, AP]
     refine tk 6 (v := ?_) rfl ?_ ?_
     rotate_left
     ·(intro w hSw; (try dsimp only at hSw); go_simp; try with_reducible rfl)
     simp only [Act.put, AP]
     refine tk 7 (v := ?_) rfl ?_ ?_
     rotate_left
     ·(intro w hSw; (try dsimp only at hSw); go_simp; try with_reducible rfl)
     simp only [Act.put, AP]
     refine tk 8 (v := ?_) rfl ?_ ?_
     rotate_left
     ·(intro w hSw; (try dsimp only at hSw); go_simp; try with_reducible rfl)
     simp only [Act.put, AP]
     refine tk 9 (v := ?_) rfl ?_ ?_
     rotate_left
     ·(intro w hSw; (try dsimp only at hSw); go_simp; try with_reducible rfl)
     simp only [Act.put, AP]
     refine tk 10 (v := ?_) rfl ?_ ?_
     rotate_left
     ·(intro w hSw; (try dsimp only at hSw); go_simp; try with_reducible rfl)
     simp only [Act.put, AP]
     refine tk 12 (v := ?_) rfl ?_ ?_
     rotate_left
     ·(intro w hSw; (try dsimp only at hSw); go_simp; try with_reducible rfl)
     simp only [Act.put, AP]
     refine tk 13 (v := ?_) rfl ?_ ?_
     rotate_left
     ·(intro w hSw; (try dsimp only at hSw); go_simp; try with_reducible rfl)
     simp only [Act.put, AP]
     refine tk 15 (v := ?_) rfl ?_ ?_
     rotate_left
     ·(intro w hSw; (try dsimp only at hSw); go_simp; try with_reducible rfl)
     simp only [Act.put, AP]
     refine tk 16 (v := ?_) rfl ?_ ?_
     rotate_left
     ·(intro w hSw; (try dsimp only at hSw); go_simp; try with_reducible rfl)
     simp only [Act.put, AP]
     refine wpAnyH_ready (rs := [11]) (by kernel_rfl) (by simp) ?_
     refine AllReadyH.cons rfl (fun K hK => ?_) AllReadyH.nil
     simp only [AP]
     go_simp
     refine hK.out _ _ ?_ (fun hHeld => ?_)
     ·exact hHeld
     clear hK K
     try simp only [Act.put, AP]
     refine wpAnyH_ready (rs := [14]) (by kernel_rfl) (by simp) ?_
     refine AllReadyH.cons rfl (fun K hK => ?_) AllReadyH.nil
     simp only [AP]
     go_simp
     refine Calls.mono H1.out ?_; rintro e w2 ⟨C, rfl, hk⟩
     go_wp2_with fail
     refine hK.out _ _ ?_ (fun hHeld => ?_)
     ·exact hk.touch.cell (p := ⟨pb, off, none⟩) HC.out HT.out.2.2.2.2.1
     clear hK K
     try simp only [Act.put, AP]
     refine tk 17 (v := ?_) rfl ?_ ?_
     rotate_left
     ·(intro w hSw; (try dsimp only at hSw); go_simp; try with_reducible rfl)
     simp only [Act.put, AP]
     have hB2 := hk.touch.blk (HB.out.drew) (nd_node HT.out.2.2.1).1
     have e0 := hB2.cell (i := 0) rfl
     have e1 := hB2.frozen 0
     have hF := out_left HT.out.1 HT.out.2.1 HT.out.2.2.1 ((Touch.refl [] w).drew) hk
     have d0 := hF.2.cell (i := 0) rfl
     have d1 := hF.2.cell (i := 1) rfl
     have d2 := hF.2.cell (i := 2) rfl
     have HF := toHid hF.1
     rw [ptr_ad C] at *
     rw [ptr_ad r] at d1
     clear hk hB2 hF
     generalize hca : adT C = ca at *
     generalize hsb : adT r = sb at *
     refine wpAnyH_ready (rs := [18]) (by kernel_rfl) (by simp) ?_
     refine AllReadyH.cons rfl (fun K hK => ?_) AllReadyH.nil
     simp only [AP]
     go_simp
     refine hK.out _ _ ?_ (fun _ => ?_)
     ·exact ((Touch.refl [b] w2).setCell ⟨b, 0, none⟩ _ (Or.inl (by simp))).cell hHeld (by simpa using HNE.out)
     clear hK K
     try simp only [Act.put, AP]
     refine wpAnyH_done (by kernel_rfl) ?_ _
     generalize hw3 : w2.setCell ⟨b, 0, none⟩ (Value.pointer ca) = w3 at *
     clear hw3 e0 e1 c0 c1 hc H1 hHeld HC HNE HB
     have HA : Hid (∃ hb : Bool, a.1 = hb) := ⟨a.1, rfl⟩
     generalize hab : a.1 = hb at d2
     have hq := eq82
     cases hb with
     | true =>
      have HG : Hid (OPost w (.node b 0 a l r) (false :: []) (.returned (.pointer (some ⟨b, 0, none⟩))) w3) := ⟨_, rfl, HF.out⟩
      clear HF HA hab hca hsb HT
      go_wp2
      go_ret
      exact HG.out
     | false =>
      cases ca with
      | some x =>
       have HG : Hid (OPost w (.node b 0 a l r) (false :: []) (.returned (.pointer (some ⟨b, 0, none⟩))) w3) := ⟨_, rfl, HF.out⟩
       clear HF HA hab hca hsb HT
       go_wp2
       go_ret
       exact HG.out
      | none =>
       cases sb with
       | some x =>
        have HG : Hid (OPost w (.node b 0 a l r) (false :: []) (.returned (.pointer (some ⟨b, 0, none⟩))) w3) := ⟨_, rfl, HF.out⟩
        clear HF HA hab hca hsb HT
        go_wp2
        go_ret
        exact HG.out
       | none =>
        have HG : Hid (OPost w (.node b 0 a l r) (false :: []) (.returned (.pointer none)) w3) := by
         have e1 := adT_nil hca
         have e2 := adT_nil hsb
         have hf := HF.out
         clear HF
         subst e1 e2
         exact ⟨.nil, rfl, out_prune hf hab⟩
        clear HF HA hab hca hsb HT
        go_wp2
        go_ret
        exact HG.out
    | x0 :: p, hp, ih, hin =>
     have H1 := toHid (ih l w.drew (some ⟨pb, off + 1, none⟩) (hT.2.2.1.touch hd (by simp)) hok.2.1 n3 (PathAt.still (hp.tail) hd) (fun b' off' e => by injection e with e; injection e with e1; subst e1; exact hpl.1) hin)
     show Calls Try.prog 98 #[.pointer (some ⟨b, 0, none⟩), .slice (some ⟨pb, off, none⟩) (p.length + 1 + 1) (p.length + 1 + 1)] w _
     simp only [List.length_cons] at H1
     have hc : w.cell? ⟨pb, off, none⟩ = some (.int .i64 0) := hc0
     have HC := toHid hc
     have hle : (1 : Int) ≤ (p.length : Int) + 1 + 1 := by omega
     rw [ptr_ad l] at H1 c0
     have HB := toHid hB
     have HNE : Hid (pb ≠ b) := fun e => hpb (by simp [bsT, e])
     clear hp hc0 hB hok hnd hT hrest ih hd n1 n2 n3 n4 n5 hpl hout hpb hin
     go_enter Try.func98, Try.ntmps98
     go_wp2_with fail
     refine wp_region_held_drew (S := fun w' => w'.cell? ⟨pb, off, none⟩ = some (.int .i64 0)) (by kernel_rfl) ?_ (fun hHeld => ?_)
     ·exact HC.out
     refine tk 0 (v := ?_) rfl ?_ ?_
     rotate_left
     ·(intro w hSw; (try dsimp only at hSw); go_simp; try with_reducible rfl)
     simp only [Act.put, AP]
     refine tk 1 (v := ?_) rfl ?_ ?_
     rotate_left
     ·(intro w hSw; (try dsimp only at hSw); go_simp; try with_reducible rfl)
     simp only [Act.put, AP]
     refine tk 2 (v := ?_) rfl ?_ ?_
     rotate_left
     ·(intro w hSw; (try dsimp only at hSw); go_simp; try with_reducible rfl)
     simp only [Act.put, AP]
     refine tk 3 (v := ?_) rfl ?_ ?_
     rotate_left
     ·(intro w hSw; (try dsimp only at hSw); go_simp; try with_reducible rfl)
     simp only [Act.put, AP]
     refine tk 4 (v := ?_) rfl ?_ ?_
     rotate_left
     ·(intro w hSw; (try dsimp only at hSw); go_simp; try with_reducible rfl)
     simp only [Act.put, AP]
     refine tk 5 (v := ?_) rfl ?_ ?_
     rotate_left
     ·(intro w hSw; (try dsimp only at hSw); go_simp; try with_reducible rfl)
     simp only [Act.put, AP]
     refine tk 6 (v := ?_) rfl ?_ ?_
     rotate_left
     ·(intro w hSw; (try dsimp only at hSw); go_simp; try with_reducible rfl)
     simp only [Act.put, AP]
     refine tk 7 (v := ?_) rfl ?_ ?_
     rotate_left
     ·(intro w hSw; (try dsimp only at hSw); go_simp; try with_reducible rfl)
     simp only [Act.put, AP]
     refine tk 8 (v := ?_) rfl ?_ ?_
     rotate_left
     ·(intro w hSw; (try dsimp only at hSw); go_simp; try with_reducible rfl)
     simp only [Act.put, AP]
     refine tk 9 (v := ?_) rfl ?_ ?_
     rotate_left
     ·(intro w hSw; (try dsimp only at hSw); go_simp; try with_reducible rfl)
     simp only [Act.put, AP]
     refine tk 10 (v := ?_) rfl ?_ ?_
     rotate_left
     ·(intro w hSw; (try dsimp only at hSw); go_simp; try with_reducible rfl)
     simp only [Act.put, AP]
     refine tk 12 (v := ?_) rfl ?_ ?_
     rotate_left
     ·(intro w hSw; (try dsimp only at hSw); go_simp; try with_reducible rfl)
     simp only [Act.put, AP]
     refine tk 13 (v := ?_) rfl ?_ ?_
     rotate_left
     ·(intro w hSw; (try dsimp only at hSw); go_simp; try with_reducible rfl)
     simp only [Act.put, AP]
     refine tk 15 (v := ?_) rfl ?_ ?_
     rotate_left
     ·(intro w hSw; (try dsimp only at hSw); go_simp; try with_reducible rfl)
     simp only [Act.put, AP]
     refine tk 16 (v := ?_) rfl ?_ ?_
     rotate_left
     ·(intro w hSw; (try dsimp only at hSw); go_simp; try with_reducible rfl)
     simp only [Act.put, AP]
     refine wpAnyH_ready (rs := [11]) (by kernel_rfl) (by simp) ?_
     refine AllReadyH.cons rfl (fun K hK => ?_) AllReadyH.nil
     simp only [AP]
     go_simp
     refine hK.out _ _ ?_ (fun hHeld => ?_)
     ·exact hHeld
     clear hK K
     try simp only [Act.put, AP]
     refine wpAnyH_ready (rs := [14]) (by kernel_rfl) (by simp) ?_
     refine AllReadyH.cons rfl (fun K hK => ?_) AllReadyH.nil
     simp only [AP]
     go_simp
     refine Calls.mono H1.out ?_; rintro e w2 ⟨C, rfl, hk⟩
     go_wp2_with fail
     refine hK.out _ _ ?_ (fun hHeld => ?_)
     ·exact hk.touch.cell (p := ⟨pb, off, none⟩) HC.out HT.out.2.2.2.2.1
     clear hK K
     try simp only [Act.put, AP]
     refine tk 17 (v := ?_) rfl ?_ ?_
     rotate_left
     ·(intro w hSw; (try dsimp only at hSw); go_simp; try with_reducible rfl)
     simp only [Act.put, AP]
     have hB2 := hk.touch.blk (HB.out.drew) (nd_node HT.out.2.2.1).1
     have e0 := hB2.cell (i := 0) rfl
     have e1 := hB2.frozen 0
     have hF := out_left HT.out.1 HT.out.2.1 HT.out.2.2.1 ((Touch.refl [] w).drew) hk
     have d0 := hF.2.cell (i := 0) rfl
     have d1 := hF.2.cell (i := 1) rfl
     have d2 := hF.2.cell (i := 2) rfl
     have HF := toHid hF.1
     rw [ptr_ad C] at *
     rw [ptr_ad r] at d1
     clear hk hB2 hF
     generalize hca : adT C = ca at *
     generalize hsb : adT r = sb at *
     refine wpAnyH_ready (rs := [18]) (by kernel_rfl) (by simp) ?_
     refine AllReadyH.cons rfl (fun K hK => ?_) AllReadyH.nil
     simp only [AP]
     go_simp
     refine hK.out _ _ ?_ (fun _ => ?_)
     ·exact ((Touch.refl [b] w2).setCell ⟨b, 0, none⟩ _ (Or.inl (by simp))).cell hHeld (by simpa using HNE.out)
     clear hK K
     try simp only [Act.put, AP]
     refine wpAnyH_done (by kernel_rfl) ?_ _
     generalize hw3 : w2.setCell ⟨b, 0, none⟩ (Value.pointer ca) = w3 at *
     clear hw3 e0 e1 c0 c1 hc H1 hHeld HC HNE HB
     have HA : Hid (∃ hb : Bool, a.1 = hb) := ⟨a.1, rfl⟩
     generalize hab : a.1 = hb at d2
     have hq := eq82
     cases hb with
     | true =>
      have HG : Hid (OPost w (.node b 0 a l r) (false :: (x0 :: p)) (.returned (.pointer (some ⟨b, 0, none⟩))) w3) := ⟨_, rfl, HF.out⟩
      clear HF HA hab hca hsb HT
      go_wp2
      go_ret
      exact HG.out
     | false =>
      cases ca with
      | some x =>
       have HG : Hid (OPost w (.node b 0 a l r) (false :: (x0 :: p)) (.returned (.pointer (some ⟨b, 0, none⟩))) w3) := ⟨_, rfl, HF.out⟩
       clear HF HA hab hca hsb HT
       go_wp2
       go_ret
       exact HG.out
      | none =>
       cases sb with
       | some x =>
        have HG : Hid (OPost w (.node b 0 a l r) (false :: (x0 :: p)) (.returned (.pointer (some ⟨b, 0, none⟩))) w3) := ⟨_, rfl, HF.out⟩
        clear HF HA hab hca hsb HT
        go_wp2
        go_ret
        exact HG.out
       | none =>
        have HG : Hid (OPost w (.node b 0 a l r) (false :: (x0 :: p)) (.returned (.pointer none)) w3) := by
         have e1 := adT_nil hca
         have e2 := adT_nil hsb
         have hf := HF.out
         clear HF
         subst e1 e2
         exact ⟨.nil, rfl, out_prune hf hab⟩
        clear HF HA hab hca hsb HT
        go_wp2
        go_ret
        exact HG.out
   | true =>
    match p, hp, ih, hin with
    | [], hp, ih, hin =>
     have H1 := toHid (ih r w.drew (some ⟨pb, off, none⟩) (hT.2.2.2.touch hd (by simp)) hok.2.2 n4 (PathAt.still (PathAt.last _) hd) (fun b' off' e => by injection e with e; injection e with e1; subst e1; exact hpl.2) hin)
     show Calls Try.prog 98 #[.pointer (some ⟨b, 0, none⟩), .slice (some ⟨pb, off, none⟩) 1 1] w _
     simp only [List.length_nil] at H1
     have hc : w.cell? ⟨pb, off, none⟩ = some (.int .i64 1) := hc0
     have HC := toHid hc
     skip
     rw [ptr_ad r] at H1 c1
     have HB := toHid hB
     have HNE : Hid (pb ≠ b) := fun e => hpb (by simp [bsT, e])
     clear hp hc0 hB hok hnd hT hrest ih hd n1 n2 n3 n4 n5 hpl hout hpb hin
     go_enter Try.func98, Try.ntmps98
     go_wp2_with fail
     refine wp_region_held_drew (S := fun w' => w'.cell? ⟨pb, off, none⟩ = some (.int .i64 1)) (by kernel_rfl) ?_ (fun hHeld => ?_)
     ·exact HC.out
     refine tk 0 (v := ?_) rfl ?_ ?_
     rotate_left
     ·(intro w hSw; (try dsimp only at hSw); go_simp; try with_reducible rfl)
     simp only [Act.put, AP]
     refine tk 1 (v := ?_) rfl ?_ ?_
     rotate_left
     ·(intro w hSw; (try dsimp only at hSw); go_simp; try with_reducible rfl)
     simp only [Act.put, AP]
     refine tk 2 (v := ?_) rfl ?_ ?_
     rotate_left
     ·(intro w hSw; (try dsimp only at hSw); go_simp; try with_reducible rfl)
     simp only [Act.put, AP]
     refine tk 3 (v := ?_) rfl ?_ ?_
     rotate_left
     ·(intro w hSw; (try dsimp only at hSw); go_simp; try with_reducible rfl)
     simp only [Act.put, AP]
     refine tk 4 (v := ?_) rfl ?_ ?_
     rotate_left
     ·(intro w hSw; (try dsimp only at hSw); go_simp; try with_reducible rfl)
     simp only [Act.put, AP]
     refine tk 5 (v := ?_) rfl ?_ ?_
     rotate_left
     ·(intro w hSw; (try dsimp only at hSw); go_simp; try with_reducible rfl)
     simp only [Act.put, AP]
     refine tk 6 (v := ?_) rfl ?_ ?_
     rotate_left
     ·(intro w hSw; (try dsimp only at hSw); go_simp; try with_reducible rfl)
     simp only [Act.put, AP]
     refine tk 7 (v := ?_) rfl ?_ ?_
     rotate_left
     ·(intro w hSw; (try dsimp only at hSw); go_simp; try with_reducible rfl)
     simp only [Act.put, AP]
     refine tk 8 (v := ?_) rfl ?_ ?_
     rotate_left
     ·(intro w hSw; (try dsimp only at hSw); go_simp; try with_reducible rfl)
     simp only [Act.put, AP]
     refine tk 9 (v := ?_) rfl ?_ ?_
     rotate_left
     ·(intro w hSw; (try dsimp only at hSw); go_simp; try with_reducible rfl)
     simp only [Act.put, AP]
     refine tk 10 (v := ?_) rfl ?_ ?_
     rotate_left
     ·(intro w hSw; (try dsimp only at hSw); go_simp; try with_reducible rfl)
     simp only [Act.put, AP]
     refine tk 12 (v := ?_) rfl ?_ ?_
     rotate_left
     ·(intro w hSw; (try dsimp only at hSw); go_simp; try with_reducible rfl)
     simp only [Act.put, AP]
     refine tk 13 (v := ?_) rfl ?_ ?_
     rotate_left
     ·(intro w hSw; (try dsimp only at hSw); go_simp; try with_reducible rfl)
     simp only [Act.put, AP]
     refine tk 15 (v := ?_) rfl ?_ ?_
     rotate_left
     ·(intro w hSw; (try dsimp only at hSw); go_simp; try with_reducible rfl)
     simp only [Act.put, AP]
     refine tk 16 (v := ?_) rfl ?_ ?_
     rotate_left
     ·(intro w hSw; (try dsimp only at hSw); go_simp; try with_reducible rfl)
     simp only [Act.put, AP]
     refine wpAnyH_ready (rs := [11]) (by kernel_rfl) (by simp) ?_
     refine AllReadyH.cons rfl (fun K hK => ?_) AllReadyH.nil
     simp only [AP]
     go_simp
     refine hK.out _ _ ?_ (fun hHeld => ?_)
     ·exact hHeld
     clear hK K
     try simp only [Act.put, AP]
     refine wpAnyH_ready (rs := [14]) (by kernel_rfl) (by simp) ?_
     refine AllReadyH.cons rfl (fun K hK => ?_) AllReadyH.nil
     simp only [AP]
     go_simp
     refine Calls.mono H1.out ?_; rintro e w2 ⟨C, rfl, hk⟩
     go_wp2_with fail
     refine hK.out _ _ ?_ (fun hHeld => ?_)
     ·exact hk.touch.cell (p := ⟨pb, off, none⟩) HC.out HT.out.2.2.2.2.2
     clear hK K
     try simp only [Act.put, AP]
     refine tk 17 (v := ?_) rfl ?_ ?_
     rotate_left
     ·(intro w hSw; (try dsimp only at hSw); go_simp; try with_reducible rfl)
     simp only [Act.put, AP]
     have hB2 := hk.touch.blk (HB.out.drew) (nd_node HT.out.2.2.1).2.1
     have e0 := hB2.cell (i := 1) rfl
     have e1 := hB2.frozen 1
     have hF := out_right HT.out.1 HT.out.2.1 HT.out.2.2.1 ((Touch.refl [] w).drew) hk
     have d0 := hF.2.cell (i := 0) rfl
     have d1 := hF.2.cell (i := 1) rfl
     have d2 := hF.2.cell (i := 2) rfl
     have HF := toHid hF.1
     rw [ptr_ad C] at *
     rw [ptr_ad l] at d0
     clear hk hB2 hF
     generalize hca : adT C = ca at *
     generalize hsb : adT l = sb at *
     refine wpAnyH_ready (rs := [18]) (by kernel_rfl) (by simp) ?_
     refine AllReadyH.cons rfl (fun K hK => ?_) AllReadyH.nil
     simp only [AP]
     go_simp
     refine hK.out _ _ ?_ (fun _ => ?_)
     ·exact ((Touch.refl [b] w2).setCell ⟨b, 1, none⟩ _ (Or.inl (by simp))).cell hHeld (by simpa using HNE.out)
     clear hK K
     try simp only [Act.put, AP]
     refine wpAnyH_done (by kernel_rfl) ?_ _
     generalize hw3 : w2.setCell ⟨b, 1, none⟩ (Value.pointer ca) = w3 at *
     clear hw3 e0 e1 c0 c1 hc H1 hHeld HC HNE HB
     have HA : Hid (∃ hb : Bool, a.1 = hb) := ⟨a.1, rfl⟩
     generalize hab : a.1 = hb at d2
     have hq := eq82
     cases hb with
     | true =>
      have HG : Hid (OPost w (.node b 0 a l r) (true :: []) (.returned (.pointer (some ⟨b, 0, none⟩))) w3) := ⟨_, rfl, HF.out⟩
      clear HF HA hab hca hsb HT
      go_wp2
      go_ret
      exact HG.out
     | false =>
      cases ca with
      | some x =>
       have HG : Hid (OPost w (.node b 0 a l r) (true :: []) (.returned (.pointer (some ⟨b, 0, none⟩))) w3) := ⟨_, rfl, HF.out⟩
       clear HF HA hab hca hsb HT
       go_wp2
       go_ret
       exact HG.out
      | none =>
       cases sb with
       | some x =>
        have HG : Hid (OPost w (.node b 0 a l r) (true :: []) (.returned (.pointer (some ⟨b, 0, none⟩))) w3) := ⟨_, rfl, HF.out⟩
        clear HF HA hab hca hsb HT
        go_wp2
        go_ret
        exact HG.out
       | none =>
        have HG : Hid (OPost w (.node b 0 a l r) (true :: []) (.returned (.pointer none)) w3) := by
         have e1 := adT_nil hca
         have e2 := adT_nil hsb
         have hf := HF.out
         clear HF
         subst e1 e2
         exact ⟨.nil, rfl, out_prune hf hab⟩
        clear HF HA hab hca hsb HT
        go_wp2
        go_ret
        exact HG.out
    | x0 :: p, hp, ih, hin =>
     have H1 := toHid (ih r w.drew (some ⟨pb, off + 1, none⟩) (hT.2.2.2.touch hd (by simp)) hok.2.2 n4 (PathAt.still (hp.tail) hd) (fun b' off' e => by injection e with e; injection e with e1; subst e1; exact hpl.2) hin)
     show Calls Try.prog 98 #[.pointer (some ⟨b, 0, none⟩), .slice (some ⟨pb, off, none⟩) (p.length + 1 + 1) (p.length + 1 + 1)] w _
     simp only [List.length_cons] at H1
     have hc : w.cell? ⟨pb, off, none⟩ = some (.int .i64 1) := hc0
     have HC := toHid hc
     have hle : (1 : Int) ≤ (p.length : Int) + 1 + 1 := by omega
     rw [ptr_ad r] at H1 c1
     have HB := toHid hB
     have HNE : Hid (pb ≠ b) := fun e => hpb (by simp [bsT, e])
     clear hp hc0 hB hok hnd hT hrest ih hd n1 n2 n3 n4 n5 hpl hout hpb hin
     go_enter Try.func98, Try.ntmps98
     go_wp2_with fail
     refine wp_region_held_drew (S := fun w' => w'.cell? ⟨pb, off, none⟩ = some (.int .i64 1)) (by kernel_rfl) ?_ (fun hHeld => ?_)
     ·exact HC.out
     refine tk 0 (v := ?_) rfl ?_ ?_
     rotate_left
     ·(intro w hSw; (try dsimp only at hSw); go_simp; try with_reducible rfl)
     simp only [Act.put, AP]
     refine tk 1 (v := ?_) rfl ?_ ?_
     rotate_left
     ·(intro w hSw; (try dsimp only at hSw); go_simp; try with_reducible rfl)
     simp only [Act.put, AP]
     refine tk 2 (v := ?_) rfl ?_ ?_
     rotate_left
     ·(intro w hSw; (try dsimp only at hSw); go_simp; try with_reducible rfl)
     simp only [Act.put, AP]
     refine tk 3 (v := ?_) rfl ?_ ?_
     rotate_left
     ·(intro w hSw; (try dsimp only at hSw); go_simp; try with_reducible rfl)
     simp only [Act.put, AP]
     refine tk 4 (v := ?_) rfl ?_ ?_
     rotate_left
     ·(intro w hSw; (try dsimp only at hSw); go_simp; try with_reducible rfl)
     simp only [Act.put, AP]
     refine tk 5 (v := ?_) rfl ?_ ?_
     rotate_left
     ·(intro w hSw; (try dsimp only at hSw); go_simp; try with_reducible rfl)
     simp only [Act.put, AP]
     refine tk 6 (v := ?_) rfl ?_ ?_
     rotate_left
     ·(intro w hSw; (try dsimp only at hSw); go_simp; try with_reducible rfl)
     simp only [Act.put, AP]
     refine tk 7 (v := ?_) rfl ?_ ?_
     rotate_left
     ·(intro w hSw; (try dsimp only at hSw); go_simp; try with_reducible rfl)
     simp only [Act.put, AP]
     refine tk 8 (v := ?_) rfl ?_ ?_
     rotate_left
     ·(intro w hSw; (try dsimp only at hSw); go_simp; try with_reducible rfl)
     simp only [Act.put, AP]
     refine tk 9 (v := ?_) rfl ?_ ?_
     rotate_left
     ·(intro w hSw; (try dsimp only at hSw); go_simp; try with_reducible rfl)
     simp only [Act.put, AP]
     refine tk 10 (v := ?_) rfl ?_ ?_
     rotate_left
     ·(intro w hSw; (try dsimp only at hSw); go_simp; try with_reducible rfl)
     simp only [Act.put, AP]
     refine tk 12 (v := ?_) rfl ?_ ?_
     rotate_left
     ·(intro w hSw; (try dsimp only at hSw); go_simp; try with_reducible rfl)
     simp only [Act.put, AP]
     refine tk 13 (v := ?_) rfl ?_ ?_
     rotate_left
     ·(intro w hSw; (try dsimp only at hSw); go_simp; try with_reducible rfl)
     simp only [Act.put, AP]
     refine tk 15 (v := ?_) rfl ?_ ?_
     rotate_left
     ·(intro w hSw; (try dsimp only at hSw); go_simp; try with_reducible rfl)
     simp only [Act.put, AP]
     refine tk 16 (v := ?_) rfl ?_ ?_
     rotate_left
     ·(intro w hSw; (try dsimp only at hSw); go_simp; try with_reducible rfl)
     simp only [Act.put, AP]
     refine wpAnyH_ready (rs := [11]) (by kernel_rfl) (by simp) ?_
     refine AllReadyH.cons rfl (fun K hK => ?_) AllReadyH.nil
     simp only [AP]
     go_simp
     refine hK.out _ _ ?_ (fun hHeld => ?_)
     ·exact hHeld
     clear hK K
     try simp only [Act.put, AP]
     refine wpAnyH_ready (rs := [14]) (by kernel_rfl) (by simp) ?_
     refine AllReadyH.cons rfl (fun K hK => ?_) AllReadyH.nil
     simp only [AP]
     go_simp
     refine Calls.mono H1.out ?_; rintro e w2 ⟨C, rfl, hk⟩
     go_wp2_with fail
     refine hK.out _ _ ?_ (fun hHeld => ?_)
     ·exact hk.touch.cell (p := ⟨pb, off, none⟩) HC.out HT.out.2.2.2.2.2
     clear hK K
     try simp only [Act.put, AP]
     refine tk 17 (v := ?_) rfl ?_ ?_
     rotate_left
     ·(intro w hSw; (try dsimp only at hSw); go_simp; try with_reducible rfl)
     simp only [Act.put, AP]
     have hB2 := hk.touch.blk (HB.out.drew) (nd_node HT.out.2.2.1).2.1
     have e0 := hB2.cell (i := 1) rfl
     have e1 := hB2.frozen 1
     have hF := out_right HT.out.1 HT.out.2.1 HT.out.2.2.1 ((Touch.refl [] w).drew) hk
     have d0 := hF.2.cell (i := 0) rfl
     have d1 := hF.2.cell (i := 1) rfl
     have d2 := hF.2.cell (i := 2) rfl
     have HF := toHid hF.1
     rw [ptr_ad C] at *
     rw [ptr_ad l] at d0
     clear hk hB2 hF
     generalize hca : adT C = ca at *
     generalize hsb : adT l = sb at *
     refine wpAnyH_ready (rs := [18]) (by kernel_rfl) (by simp) ?_
     refine AllReadyH.cons rfl (fun K hK => ?_) AllReadyH.nil
     simp only [AP]
     go_simp
     refine hK.out _ _ ?_ (fun _ => ?_)
     ·exact ((Touch.refl [b] w2).setCell ⟨b, 1, none⟩ _ (Or.inl (by simp))).cell hHeld (by simpa using HNE.out)
     clear hK K
     try simp only [Act.put, AP]
     refine wpAnyH_done (by kernel_rfl) ?_ _
     generalize hw3 : w2.setCell ⟨b, 1, none⟩ (Value.pointer ca) = w3 at *
     clear hw3 e0 e1 c0 c1 hc H1 hHeld HC HNE HB
     have HA : Hid (∃ hb : Bool, a.1 = hb) := ⟨a.1, rfl⟩
     generalize hab : a.1 = hb at d2
     have hq := eq82
     cases hb with
     | true =>
      have HG : Hid (OPost w (.node b 0 a l r) (true :: (x0 :: p)) (.returned (.pointer (some ⟨b, 0, none⟩))) w3) := ⟨_, rfl, HF.out⟩
      clear HF HA hab hca hsb HT
      go_wp2
      go_ret
      exact HG.out
     | false =>
      cases ca with
      | some x =>
       have HG : Hid (OPost w (.node b 0 a l r) (true :: (x0 :: p)) (.returned (.pointer (some ⟨b, 0, none⟩))) w3) := ⟨_, rfl, HF.out⟩
       clear HF HA hab hca hsb HT
       go_wp2
       go_ret
       exact HG.out
      | none =>
       cases sb with
       | some x =>
        have HG : Hid (OPost w (.node b 0 a l r) (true :: (x0 :: p)) (.returned (.pointer (some ⟨b, 0, none⟩))) w3) := ⟨_, rfl, HF.out⟩
        clear HF HA hab hca hsb HT
        go_wp2
        go_ret
        exact HG.out
       | none =>
        have HG : Hid (OPost w (.node b 0 a l r) (true :: (x0 :: p)) (.returned (.pointer none)) w3) := by
         have e1 := adT_nil hca
         have e2 := adT_nil hsb
         have hf := HF.out
         clear HF
         subst e1 e2
         exact ⟨.nil, rfl, out_prune hf hab⟩
        clear HF HA hab hca hsb HT
        go_wp2
        go_ret
        exact HG.out
end Go.Proofs.Ytmhhahmjkopjhaa.Lpm
end
section
namespace Go.Proofs.Ytmhhahmjkopjhaa.Lpm
open Go.RowKit Go.Deep
structure Same (n : Nat) (w : World) (T T' : Tr) : Prop where
 at_ : TrAt w T'
 ok : okT T'
 nd : (bsT T').Nodup
 get : ∀ q, atT T' q = atT T q
 blocks : ∀ b ∈ bsT T', n ≤ b
 dep : depT T' ≤ depT T
def CPost (w : World) (T : Tr) (e : Ending) (w' : World) : Prop := ∃ T', e = .returned (.pointer (adT T')) ∧ Same w.heap.size w' T T' ∧ Touch [] w w'
def TW (w : World) (a : Bool × Nat) (l r : Tr) (k : Nat) (wr : World) : Prop := ∃ L R : Tr, Blk wr w.heap.size [L.ptr, R.ptr, .bool a.1, .int .i64 (a.2 : Int)] 153 ∧ Touch [] w wr ∧
 (if 1 ≤ k then Same (w.heap.size + 1) wr l L else L = l) ∧ (if 2 ≤ k then Same (w.heap.size + 1) wr r R ∧ ∀ x ∈ bsT L, x ∉ bsT R else R = r)
theorem idx82a (x y : Option Addr) (w : World) : (Instr.index 151 (.agg #[.pointer x, .pointer y]) (.int .i64 0)).run Try.prog w = .ok (.pointer x) w := by
 obtain ⟨i, hi, _, hs, _⟩ := info_of info56
 simp [Instr.index, run_underlying Try.underlying151, asIntOf, sizeOf, typeInfo, hi, hs, go_sem]
theorem idx82b (x y : Option Addr) (w : World) : (Instr.index 151 (.agg #[.pointer x, .pointer y]) (.int .i64 1)).run Try.prog w = .ok (.pointer y) w := by
 obtain ⟨i, hi, _, hs, _⟩ := info_of info56
 simp [Instr.index, run_underlying Try.underlying151, asIntOf, sizeOf, typeInfo, hi, hs, go_sem]
end Go.Proofs.Ytmhhahmjkopjhaa.Lpm
end
section
namespace Go.Proofs.Ytmhhahmjkopjhaa.Lpm
open Go.RowKit
theorem or_place (a x : Int) (k : Nat) (hk : k ≤ 3) (ha0 : 0 ≤ a) (ha1 : a < 256 ^ k) (hx0 : 0 ≤ x) (hx1 : x ≤ 255) :
  bits .or .u32 a (x * 2 ^ (8 * k) % 4294967296) = a + x * 256 ^ k := by
 obtain ⟨A, rfl⟩ := Int.eq_ofNat_of_zero_le ha0
 obtain ⟨X, rfl⟩ := Int.eq_ofNat_of_zero_le hx0
 have hp : (2 : Int) ^ (8 * k) = 256 ^ k := by rw [Int.pow_mul]; rfl
 have hA : A < 2 ^ (8 * k) := by
  have : ((A : Nat) : Int) < ((2 ^ (8 * k) : Nat) : Int) := by rw [Int.natCast_pow]; show (A : Int) < (2 : Int) ^ (8 * k); rw [hp]; exact ha1
  omega
 have hle : (2 : Nat) ^ (8 * k) ≤ 2 ^ 24 := Nat.pow_le_pow_right (by omega) (by omega)
 have hX : 2 ^ (8 * k) * X < 4294967296 := by
  have : 2 ^ (8 * k) * X ≤ 2 ^ 24 * 255 := Nat.mul_le_mul hle (by omega)
  omega
 have hc : (X : Int) * 2 ^ (8 * k) = ((2 ^ (8 * k) * X : Nat) : Int) := by rw [Int.natCast_mul, Int.natCast_pow, Int.mul_comm]; rfl
 rw [← hp, hc, Int.emod_eq_of_lt (by omega) (by omega), u32_or_nat A _ (by omega) hX, Nat.or_comm, ← Nat.two_pow_add_eq_or_of_lt hA]
 omega
theorem length_any (b off n c : Nat) (bs : Nat → Int) (w : World) (hn : n ≤ 4)
  (hc : ∀ j, j < n → w.cell? ⟨b, off + j, none⟩ = some (.int .u8 (bs j))) (hb : ∀ j, j < n → 0 ≤ bs j ∧ bs j ≤ 255) :
  Calls Try.prog 102 #[.slice (some ⟨b, off, none⟩) n c] w fun e w' => e = .returned (.int .u32 (num bs n)) ∧ w' = w := by
 have HC := toHid hc
 have HB := toHid hb
 clear hc hb
 go_enter Try.func102, Try.ntmps102
 go_wp2_with fail
 go_loop [3, 8] (fun x t => ∃ k : Nat, k ≤ n ∧ t = .int .i64 k ∧ x = .int .u32 (num bs k)) (fun _ t => n - (intOf t).toNat)
 case atStart => exact ⟨0, by omega, rfl, rfl⟩
 case round =>
  obtain ⟨k, hk, rfl, rfl⟩ := hrel
  by_cases hlt : k < n
  ·have c1 := HC.out k hlt
   have c2 := HB.out k hlt
   go_wp2
   refine ⟨⟨k + 1, by omega, by go_num, ?_⟩, by simp [intOf]; omega⟩
   have h1 := num_bd bs k (fun j hj => HB.out j (by omega))
   rw [or_place _ _ k (by omega) h1.1 h1.2 c2.1 c2.2]
   rfl
  ·obtain rfl : k = n := by omega
   go_wp2
   go_ret
   exact ⟨rfl, rfl⟩
theorem length_key {w : World} {sa : Option Addr} {sl : Nat} {bs : List Int} (h : KeyAt w sa sl bs) (h4 : 4 ≤ bs.length) (sc : Nat) :
  Calls Try.prog 102 #[.slice sa 4 sc] w fun e w' => e = .returned (.int .u32 (keyNum bs)) ∧ w' = w := by
 obtain ⟨b, off, rfl, _, hcell⟩ := h.cut4 h4
 exact length_any b off 4 sc (fun j => bs.getD j 0) w (by omega) (fun j hj => hcell j (by omega)) (fun j _ => getD_bd h.2.1 j)
def bitV (b : Bool) : Value := .int .i64 (bI b)
def OwnPath (w0 w : World) (v : Value) (p : List Bool) : Prop := ∃ g, v = .slice (some ⟨g, 0, none⟩) p.length p.length ∧ Blk w g (p.map bitV) 3 ∧ w0.heap.size ≤ g ∧ p.length ≤ 1000
theorem blk_path {w : World} {g : Nat} {p : List Bool} (h : Blk w g (p.map bitV) 3) (hp : p.length ≤ 1000) : PathAt w (some ⟨g, 0, none⟩) p := by
 refine ⟨hp, fun _ => ⟨g, 0, rfl, fun j hj => ?_⟩⟩
 rw [Nat.zero_add]
 refine h.cell ?_
 rw [List.getElem?_map, List.getD_eq_getElem?_getD, List.getElem?_eq_getElem hj]
 rfl
def fitsK (bs : List Int) (n : Nat) : Bool := decide (bs.length = n + 4) && decide (keyNum bs ≤ 8 * (n : Int))
def PathPost (w : World) (n : Nat) (bs : List Int) (e : Ending) (w' : World) : Prop :=
 if fitsK bs n = true then ∃ g, e = .returned (.tuple #[.slice (some ⟨g, 0, none⟩) (pathP bs).length (pathP bs).length, .bool true]) ∧ Blk w' g ((pathP bs).map bitV) 3 ∧ w.heap.size ≤ g ∧ (pathP bs).length ≤ 1000 ∧ Touch [] w w'
 else e = .returned (.tuple #[.slice none 0 0, .bool false]) ∧ w' = w
theorem PathPost.no {w : World} {n : Nat} {bs : List Int} (h : fitsK bs n = false) : PathPost w n bs (.returned (.tuple #[.slice none 0 0, .bool false])) w := by
 unfold PathPost
 rw [if_neg (by rw [h]; decide)]
 exact ⟨rfl, rfl⟩
def PathTo (w : World) (bs : List Int) (n k : Nat) (wr : World) : Prop := Blk wr w.heap.size (((pathP bs).take k).map bitV ++ List.replicate (n - k) (.int .i64 0)) 3 ∧ Touch [] w wr
theorem PathTo.next {w wr : World} {bs : List Int} {n k : Nat} (h : PathTo w bs n k wr) (hk : k < n) (hn : (pathP bs).length = n) : PathTo w bs n (k + 1) (wr.setCell ⟨w.heap.size, k, none⟩ (.int .i64 (bitP bs k))) := by
 refine ⟨?_, h.2.setCell _ _ (Or.inr (Nat.le_refl _))⟩
 have h1 := h.1.setCell k (.int .i64 (bitP bs k))
 have hl : (((pathP bs).take k).map bitV).length = k := by simp; omega
 rw [List.set_append_right _ _ (by omega), hl, Nat.sub_self] at h1
 obtain ⟨q, hq⟩ : ∃ q, n - k = q + 1 := ⟨n - k - 1, by omega⟩
 rw [hq, List.replicate_succ, List.set_cons_zero] at h1
 rw [show n - (k + 1) = q by omega, List.take_add_one, List.map_append]
 have e : (pathP bs)[k]?.toList.map bitV = [.int .i64 (bitP bs k)] := by
  have hg : (pathP bs)[k]? = some (decide (bitP bs k = 1)) := by
   have := pathP_len bs
   unfold pathP
   rw [List.getElem?_map, List.getElem?_range (by omega)]
   rfl
  rw [hg]
  show [bitV (decide (bitP bs k = 1))] = _
  unfold bitV
  rw [bI_of (bitP_bd bs k)]
 rw [e, List.append_assoc]
 exact h1
theorem PathTo.cell {w wr : World} {bs : List Int} {n k : Nat} (h : PathTo w bs n k wr) (hk : k < n) (hn : (pathP bs).length = n) : ∃ v, wr.cell? ⟨w.heap.size, k, none⟩ = some v :=
 ⟨_, h.1.cellN (i := k) (by simp; omega)⟩
theorem wrap64_id {x : Int} (h0 : 0 ≤ x) (h1 : x ≤ 255) : wrap64 x = x := by
 unfold wrap64
 omega
theorem i64_and1 (n : Int) : bits .and .i64 n 1 = n % 2 := by
 have h1 : (BitVec.ofInt 64 1).toNat = 2 ^ 1 - 1 := by decide
 have key : (BitVec.ofInt 64 n &&& BitVec.ofInt 64 1).toNat = (n % ((2 ^ 64 : Nat) : Int)).toNat % 2 ^ 1 := by
  rw [BitVec.toNat_and, BitVec.toNat_ofInt, h1, Nat.and_two_pow_sub_one_eq_mod]
 show IntKind.i64.wrap ((BitVec.ofInt 64 n &&& BitVec.ofInt 64 1).toNat : Nat) = n % 2
 rw [key, IntKind.wrap_i64]
 omega
theorem pathOf_any {w : World} {sa : Option Addr} {sl : Nat} {bs : List Int} (h : KeyAt w sa sl bs) (n : Nat) (hn : n ≤ 12) (sc : Nat) (hsc : sl ≤ sc) :
  Calls Try.prog 96 #[.slice sa sl sc, .int .i64 (n : Int)] w (PathPost w n bs) := by
 have hl := h.1
 have hb := h.2.2.1
 by_cases h4 : bs.length = n + 4
 ·have hs : ((sl : Int) != 4 + n) = false := by simp; omega
  have hsc4 : (4 : Int) ≤ sc := by omega
  have hsl4 : (4 : Int) ≤ sl := by omega
  have hw : IntKind.u32.wrap (8 * (n : Int)) = 8 * n := by rw [IntKind.wrap_u32]; omega
  have H1 := toHid (length_key h (by omega) sc)
  have HL := toHid (length_key h (by omega) 4)
  have hkb := keyNum_bd h.2.1
  obtain ⟨kb, off, rfl, _, hcell⟩ := h.cut4 (by omega)
  by_cases hk : keyNum bs ≤ 8 * (n : Int)
  ·have HW : Hid (∀ e w', ((∃ g, e = .returned (.tuple #[.slice (some ⟨g, 0, none⟩) (pathP bs).length (pathP bs).length, .bool true]) ∧ Blk w' g ((pathP bs).map bitV) 3 ∧ w.heap.size ≤ g ∧ (pathP bs).length ≤ 1000 ∧ Touch [] w w')) → PathPost w n bs e w') := by
    intro e w' h9
    unfold PathPost
    rw [if_pos (by simp [fitsK, h4, hk])]
    exact h9
   have hpl := pathP_len bs
   obtain ⟨q, hq⟩ : ∃ q : Nat, keyNum bs = q := ⟨(keyNum bs).toNat, by omega⟩
   rw [hq] at H1 HL hk hkb hpl
   rw [Int.toNat_natCast] at hpl
   have HPL := toHid hpl
   have HKA := toHid (And.intro h (And.intro hcell h4))
   have hmk := @run_make_blk Try.prog 100 3 (.int .i64 0) 8 Try.underlying100 info3 rfl q (by omega) (by omega) .u32 w
   have HI0 : Hid (PathTo w bs q 0 (w.alloc (.cells (List.replicate q (.int .i64 0)).toArray 3))) := ⟨by simpa using Blk.newA w (List.replicate q (Value.int .i64 0)).toArray _ 3 rfl, (Touch.refl [] w).alloc _⟩
   clear h hb hl hcell hq hpl h4
   go_enter Try.func96, Try.ntmps96
   go_wp2_with fail
   refine Calls.mono H1.out ?_
   rintro e w ⟨rfl, rfl⟩
   go_wp2_with fail
   clear H1 HL
   go_loopw [26] (fun t wr => ∃ k : Nat, k ≤ q ∧ t = .int .i64 k ∧ Hid (PathTo w bs q k wr)) (fun t _ => q - (intOf t).toNat)
   case atStart => exact ⟨0, by omega, rfl, HI0⟩
   case round =>
    clear HI0 hmk
    obtain ⟨k, hkq, rfl, HI⟩ := hrel
    by_cases hlt : k < q
    ·have c1 := HI.out.2.cell (HKA.out.2.1 (4 + k / 8) (by have := HKA.out.2.2; omega)) (by simp)
     have hbd := getD_bd HKA.out.1.2.1 (4 + k / 8)
     have hsl : 4 + k / 8 < sl := by have := HKA.out.2.2; have := HKA.out.1.1; omega
     have HV : Hid (bitP bs k = bs.getD (4 + k / 8) 0 / 2 ^ (7 - k % 8) % 2) := rfl
     have HN := toHid (HI.out.next hlt HPL.out)
     obtain ⟨old, d1⟩ := HI.out.cell hlt HPL.out
     have d2 := HI.out.1.frozen k
     generalize bs.getD (4 + k / 8) 0 = v at *
     generalize bitP bs k = r at *
     have e1 : ((k : Int) / 8) = ((k / 8 : Nat) : Int) := by omega
     have e2 : ((k : Int) % 8) = ((k % 8 : Nat) : Int) := by omega
     have hm8 : k % 8 < 8 := Nat.mod_lt _ (by omega)
     generalize hd : k / 8 = d at *
     generalize hm : k % 8 = m at *
     clear HI
     have HB1 : Hid (bits .and .i64 (wrap64 (v / 2 ^ (7 - m))) 1 = r) := by
      have q0 : 0 ≤ v / 2 ^ (7 - m) := Int.ediv_nonneg hbd.1 (Int.pow_nonneg (by omega))
      have q1 : v / 2 ^ (7 - m) ≤ v := Int.ediv_le_self _ hbd.1
      show bits .and .i64 (wrap64 (v / 2 ^ (7 - m))) 1 = r
      rw [HV.out, i64_and1]
      rw [show wrap64 (v / 2 ^ (7 - m)) = v / 2 ^ (7 - m) from wrap64_id q0 (by omega)]
     go_wp2
     refine ⟨⟨k + 1, by omega, by go_num, ?_⟩, by simp [intOf]; omega⟩
     rw [HB1.out]
     exact HN
    ·obtain rfl : k = q := by omega
     have HF := toHid (HW.out _ _ ⟨w.heap.size, rfl, by
      have := HI.out.1
      rw [Nat.sub_self, List.take_of_length_le (by have := HPL.out; omega)] at this
      simpa using this, Nat.le_refl _, by have := HPL.out; omega, HI.out.2⟩)
     rw [HPL.out] at HF
     go_wp2
     go_ret2
     exact HF.out
  ·have HF := toHid (PathPost.no (w := w) (n := n) (bs := bs) (by simp [fitsK]; intro _; omega))
   have hk' : 8 * (n : Int) < keyNum bs := by omega
   generalize keyNum bs = kn at *
   clear h hb hl h4 hcell hk
   go_enter Try.func96, Try.ntmps96
   go_wp2_with fail
   refine Calls.mono H1.out ?_
   rintro e w ⟨rfl, rfl⟩
   go_wp2
   go_ret2
   exact HF.out
 ·have hs : ((sl : Int) != 4 + n) = true := by simp; omega
  have HF := toHid (PathPost.no (w := w) (n := n) (bs := bs) (by simp [fitsK, h4]))
  clear h hb hl h4
  go_enter Try.func96, Try.ntmps96
  go_wp2
  go_ret2
  exact HF.out
end Go.Proofs.Ytmhhahmjkopjhaa.Lpm
end
section
namespace Go.Proofs.Ytmhhahmjkopjhaa.Lpm
open Go.RowKit
def LenTo (w : World) (p : List Bool) (n k : Nat) (wr : World) : Prop := Blk wr w.heap.size (((le4 (p.length : Int)).take k).map (Value.int .u8) ++ List.replicate (n + 4 - k) (.int .u8 0)) 5 ∧ Touch [] w wr
def KeyTo (w : World) (p : List Bool) (n k : Nat) (wr : World) : Prop := Blk wr w.heap.size ((le4 (p.length : Int) ++ bytesP (p.take k) n).map (Value.int .u8)) 5 ∧ Touch [] w wr
def KeyOfPost (w : World) (p : List Bool) (n : Nat) (e : Ending) (w' : World) : Prop := e = .returned (.slice (some ⟨w.heap.size, 0, none⟩) (n + 4) (n + 4)) ∧ Blk w' w.heap.size ((keyP p n).map (Value.int .u8)) 5 ∧ Touch [] w w'
end Go.Proofs.Ytmhhahmjkopjhaa.Lpm
end
section
namespace Go.Proofs.Ytmhhahmjkopjhaa.Lpm
open Go.RowKit Go.Deep
theorem RowAt.shorter {w : World} {e : TypeId} {g : Option Nat} {n cap : Nat} {cs : List Value} {v : Value} (h : RowAt w e 1 g (n + 1) cap (cs ++ [v])) : RowAt w e 1 g n cap cs := by
 obtain ⟨h1, h2, h3, h4⟩ := h
 refine ⟨by simp at h1; omega, by omega, h3, ?_⟩
 cases g with
 | none => exact h4
 | some b =>
  obtain ⟨rest, hB, hc⟩ := h4
  exact ⟨v :: rest, by simpa using hB, by simpa using hc⟩
theorem run_append_keep {P : Program} (w : World) (t ty e : TypeId) (i : TypeInfo) (z : Value) (ht : P.underlying t = some (.slice e)) (hi : P.info? e = some i) (hz : i.zero = some z)
  (hsz : i.size = 1) (hzs : z.cells.size = 1) (g : Option Nat) (n cap : Nat) (cs : List Value) (h : RowAt w e 1 g n cap cs)
  (a : Addr) (c : Nat) (v : Value) (hnews : w.cell? a = some v) (h1 : v.oneCell' = true)
  (hbig : (n + 1) * i.bytes ≤ 140737488355328) (hmax : n + 1 ≤ 140737488355328) :
  ∃ g' cap' w', (Builtin.append_ #[t, t] ty #[slV g n cap, .slice (some a) 1 c]).run P w = .ok (slV g' (n + 1) cap') w' ∧ RowAt w' e 1 g' (n + 1) cap' (cs ++ [v]) ∧ RowAt w' e 1 g n cap cs ∧ Touch g.toList w w' ∧
   ((g' = g ∧ cap' = cap) ∨ g' = some w.heap.size) := by
 have hrow := h
 obtain ⟨hcl, hnc, hcm, hg⟩ := h
 have hspot : a.spot = none := by
  obtain ⟨b, off, spot⟩ := a
  exact World.cell?_spot hnews
 have hnews' : ∀ j u, [v][j]? = some u → w.cell? (a.add j) = some u := fun j u hj => by
  have : j = 0 := by have := (List.getElem?_eq_some_iff.1 hj).1; simp at this; exact this
  subst this
  injection hj with hj
  subst hj
  obtain ⟨b, off, spot⟩ := a
  have : spot = none := hspot
  subst this
  rw [Addr.add_lit]
  exact hnews
 have hlen : (cs ++ [v]).length = (n + 1) * 1 := by rw [List.length_append, hcl]; simp
 have hgrow : ∀ old, old < n + 1 → RowAt (w.drew.alloc (.cells (cs.toArray ++ [v].toArray ++ Builtin.zeroCells z.cells (grownCap w (n + 1) old e - (n + 1))) e)) e 1 (some w.heap.size) (n + 1) (grownCap w (n + 1) old e) (cs ++ [v]) := by
  intro old ho
  have hge := grownCap_ge w (n + 1) old e
  have hle := grownCap_le_maxLen w (n + 1) old e (by unfold maxLen; omega)
  refine ⟨hlen, hge, hle, (Builtin.zeroCells z.cells (grownCap w (n + 1) old e - (n + 1))).toList, ?_, ?_⟩
  ·exact Blk.newA w.drew _ _ e (by simp)
  ·rw [List.length_append, hlen, Array.length_toList, size_zeroCells, hzs]
   omega
 cases g with
 | none =>
  have hg : cap = 0 := hg
  subst hg
  obtain rfl : n = 0 := by omega
  obtain rfl : cs = [] := List.eq_nil_of_length_eq_zero (by simpa using hcl)
  have hr := run_append_nil (P := P) w t ty e i z ht hi hz a 1 c [v] (by rw [hsz]; rfl) hnews' (by omega) (by omega) (by simp only [Nat.zero_add] at hbig; omega)
  have hgr := hgrow 0 (by omega)
  simp only [Nat.zero_add, List.nil_append, Array.empty_append] at hgr ⊢
  exact ⟨some w.heap.size, _, _, hr, hgr, ⟨rfl, Nat.le_refl _, hcm, rfl⟩, (Touch.refl _ w).drew.alloc _, Or.inr rfl⟩
 | some b =>
  obtain ⟨rest, hb, hcap⟩ := hg
  by_cases hroom : n + 1 ≤ cap
  ·have hfit : n * i.size + [v].length ≤ (cs ++ rest).toArray.size := by
    rw [hsz]
    simp at hcap hcl ⊢
    omega
   have hr := run_append_room (P := P) w t ty e i ht hi b n cap _ hb a 1 c [v] (by rw [hsz]; rfl) hnews' (fun u hu => by simp at hu; rw [hu]; exact h1) hroom hfit
   refine ⟨some b, cap, _, hr, ?_, RowAt.shorter (v := v) ?_, (Touch.refl _ w).setRow _ _ (Or.inl (by simp)), Or.inl ⟨rfl, rfl⟩⟩
   all_goals
    refine ⟨hlen, hroom, hcm, rest.drop [v].length, ?_, ?_⟩
    ·rw [splice_rest cs rest [v] (n * i.size) (by rw [hsz]; exact hcl)]
     exact hb.setRow _
    ·simp only [List.length_append, List.length_drop] at hcap ⊢
     rw [hsz] at hfit
     simp at hfit hcap hcl ⊢
     omega
  ·have hold : ∀ j u, cs[j]? = some u → w.cell? ((⟨b, 0, none⟩ : Addr).add j) = some u := fun j u hj => by
    have hadd : (⟨b, 0, none⟩ : Addr).add j = ⟨b, j, none⟩ := by unfold Addr.add; split <;> simp_all
    rw [hadd]
    exact hb.cell (by rw [List.getElem?_append_left (List.getElem?_eq_some_iff.1 hj).1]; exact hj)
   have hr := run_append_grow (P := P) w t ty e i z ht hi hz ⟨b, 0, none⟩ n cap cs (by rw [hsz]; exact hcl) hold a 1 c [v] (by rw [hsz]; rfl) hnews' (by omega) (by omega) (growslice_fits (by omega) hbig)
   have ht0 : Touch [] w (w.drew.alloc (.cells (cs.toArray ++ [v].toArray ++ Builtin.zeroCells z.cells (grownCap w (n + 1) cap e - (n + 1))) e)) := (Touch.refl _ w).drew.alloc _
   exact ⟨some w.heap.size, _, _, hr, hgrow cap (by omega), hrow.touch ht0 (by simp), Touch.nil ht0, Or.inr rfl⟩
def allT : Tr → List Bool → List (List Bool × Nat)
 | .nil, _ => []
 | .node _ _ a l r, pre => (if a.1 = true then [(pre, a.2)] else []) ++ (allT l (pre ++ [false]) ++ allT r (pre ++ [true]))
theorem mem_allT : ∀ (T : Tr) (pre : List Bool) (x : List Bool × Nat), x ∈ allT T pre ↔ ∃ q, x.1 = pre ++ q ∧ atT T q = some x.2
 | .nil, pre, x => by simp [allT, atT]
 | .node b o a l r, pre, x => by
  simp only [allT, List.mem_append, mem_allT l, mem_allT r]
  constructor
  ·rintro (h | ⟨q, h1, h2⟩ | ⟨q, h1, h2⟩)
   ·split at h
    ·rename_i ha
     simp at h
     exact ⟨[], by rw [h]; simp, by rw [h]; simp [atT, heldT, ha]⟩
    ·simp at h
   ·exact ⟨false :: q, by rw [h1]; simp, h2⟩
   ·exact ⟨true :: q, by rw [h1]; simp, h2⟩
  ·rintro ⟨q, h1, h2⟩
   match q with
   | [] =>
    simp only [atT, heldT] at h2
    split at h2
    ·rename_i ha
     injection h2 with h2
     refine Or.inl ?_
     rw [if_pos ha]
     simp only [List.mem_singleton, List.append_nil] at h1 ⊢
     rw [h2, ← h1]
    ·cases h2
   | false :: q => exact Or.inr (Or.inl ⟨q, by rw [h1]; simp, h2⟩)
   | true :: q => exact Or.inr (Or.inr ⟨q, by rw [h1]; simp, h2⟩)
def PRow (w : World) (g : Option Nat) (cap : Nat) (p : List Bool) : Prop := RowAt w 3 1 g p.length cap (p.map bitV)
theorem PRow.path {w : World} {g : Option Nat} {cap : Nat} {p : List Bool} (h : PRow w g cap p) (hp : p.length ≤ 1000) : PathAt w (g.map fun b => ⟨b, 0, none⟩) p := by
 refine ⟨hp, fun h1 => ?_⟩
 obtain ⟨_, h2, _, h4⟩ := h
 cases g with
 | none =>
  have h4 : cap = 0 := h4
  omega
 | some b =>
  obtain ⟨rest, hB, _⟩ := h4
  refine ⟨b, 0, rfl, fun j hj => ?_⟩
  rw [Nat.zero_add]
  refine hB.cell ?_
  rw [List.getElem?_append_left (by simpa using hj), List.getElem?_map, List.getD_eq_getElem?_getD, List.getElem?_eq_getElem hj]
  rfl
theorem PRow.lt {w : World} {b cap : Nat} {p : List Bool} (h : PRow w (some b) cap p) : b < w.heap.size := by
 obtain ⟨_, _, _, rest, hB, _⟩ := h
 exact hB.lt
structure Teller (S : List Nat) (ok : List Bool → Nat → Prop) (I : List (List Bool × Nat) → List Nat → World → Prop) (C : Value → Value → World → (Ending → World → Prop) → Prop) : Prop where
 call : ∀ L K pre s sa cap w, I L K w → PathAt w sa pre → ok pre s → C (.slice sa pre.length cap) (.int .i64 (s : Int)) w (fun e w' => e = .returned (.tuple #[]) ∧ ∃ K', I (L ++ [(pre, s)]) K' w' ∧ (∀ x ∈ K', x ∈ K ∨ w.heap.size ≤ x) ∧ Touch S w w')
 still : ∀ L K w w' G, I L K w → Touch G w w' → (∀ x ∈ G, x ∉ K) → I L K w'
 lt : ∀ L K w, I L K w → ∀ x ∈ K, x < w.heap.size
def ETo (S : List Nat) (I : List (List Bool × Nat) → List Nat → World → Prop) (w : World) (g : Option Nat) (cap : Nat) (pre : List Bool) (L : List (List Bool × Nat)) (K : List Nat) (w' : World) : Prop :=
 ∃ K', I L K' w' ∧ (∀ x ∈ K', x ∈ K ∨ w.heap.size ≤ x) ∧ PRow w' g cap pre ∧ Touch (S ++ g.toList) w w'
theorem each_push {w : World} {g : Option Nat} {cap : Nat} {pre : List Bool} (h : PRow w g cap pre) (c : Bool) (hp : pre.length ≤ 1000) :
  ∃ g' cap' w', (Builtin.append_ #[100, 100] 100 #[slV g pre.length cap, .slice (some ⟨w.heap.size, 0, none⟩) 1 1]).run Try.prog (w.alloc (.cells #[bitV c] 3)) = .ok (slV g' (pre.length + 1) cap') w' ∧ PRow w' g' cap' (pre ++ [c]) ∧ PRow w' g cap pre ∧ Touch g.toList w w' ∧
   ((g' = g ∧ cap' = cap) ∨ ∃ b, g' = some b ∧ w.heap.size ≤ b) := by
 have hta : Touch [] w (w.alloc (.cells #[bitV c] 3)) := (Touch.refl _ w).alloc _
 have hN := Blk.newA w #[bitV c] _ 3 rfl
 obtain ⟨i, hi, hz, hs, hb⟩ := info_of info3
 obtain ⟨g', cap', w', hr, h2, h3, h4, h5⟩ := run_append_keep (P := Try.prog) (w.alloc (.cells #[bitV c] 3)) 100 100 3 i (.int .i64 0) Try.underlying100 hi hz hs rfl g pre.length cap _ (RowAt.touch h hta (by simp)) ⟨w.heap.size, 0, none⟩ 1 (bitV c) (hN.cell rfl) rfl (by rw [hb]; omega) (by omega)
 refine ⟨g', cap', w', hr, ?_, h3, (Touch.nil hta).trans h4 (fun y hy => Or.inl hy), ?_⟩
 ·unfold PRow
  rw [List.length_append, List.map_append]
  exact h2
 ·rcases h5 with h5 | h5
  ·exact Or.inl h5
  ·exact Or.inr ⟨_, h5, by rw [World.size_alloc]; omega⟩
theorem each_ready {S : List Nat} {ok : List Bool → Nat → Prop} {I : List (List Bool × Nat) → List Nat → World → Prop} {C : Value → Value → World → (Ending → World → Prop) → Prop} (hT : Teller S ok I C)
  {w wr w2 : World} {g g' : Option Nat} {cap cap' : Nat} {L : List (List Bool × Nat)} {K K' : List Nat} {T : Tr}
  (hK : I L K' wr) (hKK : ∀ x ∈ K', x ∈ K ∨ w.heap.size ≤ x) (ht : Touch (S ++ g.toList) w wr) (ht2 : Touch g.toList wr w2) (hg' : (g' = g ∧ cap' = cap) ∨ ∃ b, g' = some b ∧ wr.heap.size ≤ b)
  (hA : TrAt w T) (hgT : ∀ b, g = some b → b ∉ bsT T ∧ b ∉ K ∧ b ∉ S ∧ b < w.heap.size) (hST : ∀ x ∈ S, x ∉ bsT T) (hSw : ∀ x ∈ S, x < w.heap.size) :
  TrAt w2 T ∧ I L K' w2 ∧ (∀ b, g' = some b → b ∉ bsT T ∧ b ∉ K' ∧ b ∉ S) := by
 have hdis : ∀ x ∈ bsT T, x ∉ S ++ g.toList := fun x hx hy => by
  rcases List.mem_append.1 hy with hy | hy
  ·exact hST x hy hx
  ·cases g with
   | none => cases hy
   | some b => simp at hy; subst hy; exact (hgT _ rfl).1 hx
 have hgK : ∀ b, g = some b → b ∉ K' := fun b hb hx => by
  rcases hKK b hx with h | h
  ·exact (hgT b hb).2.1 h
  ·have := (hgT b hb).2.2.2
   omega
 have hsz := ht.size
 refine ⟨(hA.touch ht hdis).touch ht2 (fun x hx hy => hdis x hx (List.mem_append_right _ hy)), hT.still _ _ _ _ _ hK ht2 (fun x hx => ?_), fun b hb => ?_⟩
 ·cases g with
  | none => cases hx
  | some b => simp at hx; subst hx; exact hgK _ rfl
 ·rcases hg' with ⟨e, _⟩ | ⟨b', e, hb'⟩
  ·rw [e] at hb
   exact ⟨(hgT b hb).1, hgK b hb, (hgT b hb).2.2.1⟩
  ·rw [e] at hb
   injection hb with hb
   subst hb
   refine ⟨fun hx => ?_, fun hx => ?_, fun hx => ?_⟩
   ·have := hA.lt _ hx
    omega
   ·have := hT.lt _ _ _ hK _ hx
    omega
   ·have := hSw _ hx
    omega
theorem each_next {S : List Nat} {I : List (List Bool × Nat) → List Nat → World → Prop}
  {w wr w2 w3 : World} {g g' : Option Nat} {cap cap' : Nat} {pre : List Bool} {c : Bool} {L : List (List Bool × Nat)} {K K' : List Nat}
  (hKK : ∀ x ∈ K', x ∈ K ∨ w.heap.size ≤ x) (ht : Touch (S ++ g.toList) w wr) (ht2 : Touch g.toList wr w2) (hg' : (g' = g ∧ cap' = cap) ∨ ∃ b, g' = some b ∧ wr.heap.size ≤ b) (hr2 : PRow w2 g cap pre) (hgS : ∀ b, g = some b → b ∉ S ∧ b < w.heap.size)
  (h : ETo S I w2 g' cap' (pre ++ [c]) L K' w3) : ETo S I w g cap pre L K w3 := by
 obtain ⟨K2, hI, hK2, hR, ht3⟩ := h
 have hsz := ht.size
 have hsz2 := ht2.size
 refine ⟨K2, hI, fun x hx => ?_, ?_, ?_⟩
 ·rcases hK2 x hx with h | h
  ·exact hKK x h
  ·exact Or.inr (by omega)
 ·rcases hg' with ⟨e1, e2⟩ | ⟨b, e1, e2⟩
  ·rw [e1, e2] at hR
   unfold PRow at hR
   rw [List.length_append, List.map_append] at hR
   exact RowAt.shorter hR
  ·refine RowAt.touch hr2 ht3 (fun x hx hy => ?_)
   rw [e1] at hy
   rcases List.mem_append.1 hy with hy | hy
   ·exact (hgS x hx).1 hy
   ·simp at hy
    have := (hgS x hx).2
    omega
 ·refine ((ht.trans ht2 (fun y hy => Or.inl (List.mem_append_right _ hy)))).trans ht3 (fun y hy => ?_)
  rcases List.mem_append.1 hy with hy | hy
  ·exact Or.inl (List.mem_append_left _ hy)
  ·rcases hg' with ⟨e1, _⟩ | ⟨b, e1, e2⟩
   ·rw [e1] at hy
    exact Or.inl (List.mem_append_right _ hy)
   ·rw [e1] at hy
    simp at hy
    exact Or.inr (by omega)
def EPost (S : List Nat) (I : List (List Bool × Nat) → List Nat → World → Prop) (w : World) (g : Option Nat) (cap : Nat) (pre : List Bool) (L : List (List Bool × Nat)) (K : List Nat) (e : Ending) (w' : World) : Prop := e = .returned (.tuple #[]) ∧ ETo S I w g cap pre L K w'
def toldK (L : List (List Bool × Nat)) (a : Bool × Nat) (l r : Tr) (pre : List Bool) (k : Nat) : List (List Bool × Nat) := L ++ (if a.1 = true then [(pre, a.2)] else []) ++ (if 1 ≤ k then allT l (pre ++ [false]) else []) ++ (if 2 ≤ k then allT r (pre ++ [true]) else [])
theorem told0 (L : List (List Bool × Nat)) (a : Bool × Nat) (l r : Tr) (pre : List Bool) : toldK L a l r pre 0 = L ++ (if a.1 = true then [(pre, a.2)] else []) := by simp [toldK]
theorem told1 (L : List (List Bool × Nat)) (a : Bool × Nat) (l r : Tr) (pre : List Bool) : toldK L a l r pre 1 = toldK L a l r pre 0 ++ allT l (pre ++ [false]) := by simp [toldK]
theorem told2 (L : List (List Bool × Nat)) (a : Bool × Nat) (l r : Tr) (pre : List Bool) : toldK L a l r pre 2 = toldK L a l r pre 1 ++ allT r (pre ++ [true]) := by simp [toldK]
theorem toldE (L : List (List Bool × Nat)) (b o : Nat) (a : Bool × Nat) (l r : Tr) (pre : List Bool) : toldK L a l r pre 2 = L ++ allT (.node b o a l r) pre := by simp [toldK, allT]
theorem each_free (tb : Nat) {S : List Nat} {ok : List Bool → Nat → Prop} {I : List (List Bool × Nat) → List Nat → World → Prop}
  (hT : Teller S ok I (fun a b w Q => Calls Try.prog 105 #[a, b, .pointer (some ⟨tb, 0, none⟩)] w Q)) : ∀ (T : Tr) (w : World) (g : Option Nat) (cap : Nat) (pre : List Bool) (L : List (List Bool × Nat)) (K : List Nat), TrAt w T → (∀ x ∈ allT T pre, ok x.1 x.2) → I L K w → PRow w g cap pre →
   (∀ b, g = some b → b ∉ bsT T ∧ b ∉ K ∧ b ∉ S) → (∀ x ∈ S, x ∉ bsT T) → (∀ x ∈ S, x < w.heap.size) → pre.length + depT T ≤ 200 →
   Calls Try.prog 104 #[T.ptr, slV g pre.length cap, .func (.func 105) #[] #[.pointer (some ⟨tb, 0, none⟩)]] w (EPost S I w g cap pre (L ++ allT T pre) K) := by
 intro T
 induction T with
 | nil =>
  intro w g cap pre L K hA hok hI hP hg hS _ hd
  show Calls Try.prog 104 #[.pointer none, slV g pre.length cap, .func (.func 105) #[] #[.pointer (some ⟨tb, 0, none⟩)]] w _
  have HF : Hid (ETo S I w g cap pre (L ++ allT .nil pre) K w) := ⟨K, by simpa [allT] using hI, fun x hx => Or.inl hx, hP, Touch.refl _ _⟩
  clear hA hok hI hP hg hS hd hT
  unfold slV
  generalize (g.map fun b => (⟨b, 0, none⟩ : Addr)) = sg
  go_enter Try.func104, Try.ntmps104
  go_wp2
  exact bodyPost_ret (v := .tuple #[]) (by simp [results, Try.results104]) rfl ⟨rfl, HF.out⟩
 | node b o a l r ihl ihr =>
  intro w g cap pre L K hA hok hI hP hg hS hSw hd
  obtain ⟨rfl, hB, hAl, hAr⟩ := hA
  have hdl : depT (.node b 0 a l r) = 1 + max (depT l) (depT r) := rfl
  have c0 := hB.cell (i := 0) rfl
  have c1 := hB.cell (i := 1) rfl
  have c2 := hB.cell (i := 2) rfl
  have c3 := hB.cell (i := 3) rfl
  have hxa := idx82a
  have hxb := idx82b
  have HTT := toHid (And.intro hAl (And.intro hAr hB))
  have HG : Hid (∀ b, g = some b → b ∉ bsT l ∧ b ∉ bsT r ∧ b ∉ K ∧ b ∉ S ∧ b < w.heap.size) := fun b hb => by
   have h1 := hg b hb
   refine ⟨fun hx => h1.1 (by simp [bsT, hx]), fun hx => h1.1 (by simp [bsT, hx]), h1.2.1, h1.2.2, ?_⟩
   rw [hb] at hP
   exact hP.lt
  have HSS : Hid (∀ x ∈ S, x ∉ bsT l ∧ x ∉ bsT r ∧ x < w.heap.size) := fun x hx => ⟨fun hy => hS x hx (by simp [bsT, hy]), fun hy => hS x hx (by simp [bsT, hy]), hSw x hx⟩
  have HBS : Hid (b ∉ S) := fun hx => hS b hx (by simp [bsT])
  have HBG : Hid (∀ x, g = some x → b ≠ x) := fun x hx e => (hg x hx).1 (by simp [bsT, e])
  have HOK : Hid ((∀ x ∈ allT l (pre ++ [false]), ok x.1 x.2) ∧ (∀ x ∈ allT r (pre ++ [true]), ok x.1 x.2)) := ⟨fun x hx => hok x (by simp [allT, hx]), fun x hx => hok x (by simp [allT, hx])⟩
  have HIL := toHid ihl
  have HIR := toHid ihr
  rw [ptr_ad l] at c0
  rw [ptr_ad r] at c1
  have HPI := toHid (And.intro hI hP)
  show Calls Try.prog 104 #[.pointer (some ⟨b, 0, none⟩), slV g pre.length cap, .func (.func 105) #[] #[.pointer (some ⟨tb, 0, none⟩)]] w _
  unfold slV
  have HG0 : Hid (∃ sg, (g.map fun b => (⟨b, 0, none⟩ : Addr)) = sg) := ⟨_, rfl⟩
  generalize hsg0 : (g.map fun b => (⟨b, 0, none⟩ : Addr)) = sg at *
  clear HG0
  have HG0 := toHid hsg0
  obtain ⟨hb, s⟩ := a
  cases hb with
  | false =>
   have HI0 : Hid (ETo S I w g cap pre (toldK L (false, s) l r pre 0) K w) := by
    rw [told0]
    exact ⟨K, by simpa using HPI.out.1, fun x hx => Or.inl hx, HPI.out.2, Touch.refl _ _⟩
   clear hB hAl hAr hok hI hP hg hS hsg0 ihl ihr hSw
   go_enter Try.func104, Try.ntmps104
   go_wp2_with fail
   clear c0 c1 c2 c3
   go_loopw [25] (fun t wr => ∃ k : Nat, k ≤ 2 ∧ t = .int .i64 k ∧ Hid (ETo S I w g cap pre (toldK L (false, s) l r pre k) K wr)) (fun t _ => 2 - (intOf t).toNat)
   case atStart => exact ⟨0, by omega, rfl, HI0⟩
   case round =>
    clear HI0
    obtain ⟨k, hk, rfl, HI⟩ := hrel
    have : k = 0 ∨ k = 1 ∨ k = 2 := by omega
    rcases this with rfl | rfl | rfl
    ·obtain ⟨K1, hI1, hK1, hR1, ht1⟩ := HI.out
     obtain ⟨g', cap', w2, hr, hP2, hPo, ht2, hg'⟩ := each_push hR1 false (by omega)
     have hrd := each_ready hT hI1 hK1 ht1 ht2 hg' HTT.out.1 (fun b hb => ⟨(HG.out b hb).1, (HG.out b hb).2.2⟩) (fun x hx => (HSS.out x hx).1) (fun x hx => (HSS.out x hx).2.2)
     have H1 := toHid ((HIL.out w2 g' cap' (pre ++ [false]) (toldK L (false, s) l r pre 0) K1 hrd.1 HOK.out.1 hrd.2.1 hP2 hrd.2.2 (fun x hx => (HSS.out x hx).1) (fun x hx => by have := (HSS.out x hx).2.2; have := ht1.size; have := ht2.size; omega) (by simp; omega)).mono (fun e w' h => (⟨h.1, by
      have h9 := each_next (w := w) hK1 ht1 ht2 hg' hPo (fun b hb => ⟨(HG.out b hb).2.2.2.1, (HG.out b hb).2.2.2.2⟩) h.2
      rw [← told1] at h9
      exact h9⟩ : e = .returned (.tuple #[]) ∧ ETo S I w g cap pre (toldK L (false, s) l r pre 1) K w')))
     have HRR := toHid hr
     rw [List.length_append] at H1
     unfold slV at HRR H1
     unfold bitV bI at HRR
     simp only [List.length_cons, List.length_nil, Nat.zero_add, ↓reduceIte, Bool.false_eq_true] at HRR H1
     clear hr hP2 hPo ht2 hg' hrd hI1 hK1 hR1 ht1
     rw [ptr_ad l] at H1
     generalize hsg : (g'.map fun b => (⟨b, 0, none⟩ : Addr)) = sg' at *
     rw [HG0.out] at HRR
     clear hsg
     go_wp2_with (at_builtin; refine Lib.wpList_append_run _ rfl _ _ _ _ rfl _ _ rfl rfl _ _ HRR.out ?_)
     refine Calls.mono H1.out ?_
     rintro e w3 ⟨rfl, hE⟩
     have HN := toHid hE
     clear hE H1 HRR
     go_wp2
     go_roundw
     case rel => exact ⟨1, by omega, rfl, HN⟩
     case measure => simp [intOf]
    ·obtain ⟨K1, hI1, hK1, hR1, ht1⟩ := HI.out
     obtain ⟨g', cap', w2, hr, hP2, hPo, ht2, hg'⟩ := each_push hR1 true (by omega)
     have hrd := each_ready hT hI1 hK1 ht1 ht2 hg' HTT.out.2.1 (fun b hb => ⟨(HG.out b hb).2.1, (HG.out b hb).2.2⟩) (fun x hx => (HSS.out x hx).2.1) (fun x hx => (HSS.out x hx).2.2)
     have H1 := toHid ((HIR.out w2 g' cap' (pre ++ [true]) (toldK L (false, s) l r pre 1) K1 hrd.1 HOK.out.2 hrd.2.1 hP2 hrd.2.2 (fun x hx => (HSS.out x hx).2.1) (fun x hx => by have := (HSS.out x hx).2.2; have := ht1.size; have := ht2.size; omega) (by simp; omega)).mono (fun e w' h => (⟨h.1, by
      have h9 := each_next (w := w) hK1 ht1 ht2 hg' hPo (fun b hb => ⟨(HG.out b hb).2.2.2.1, (HG.out b hb).2.2.2.2⟩) h.2
      rw [← told2] at h9
      exact h9⟩ : e = .returned (.tuple #[]) ∧ ETo S I w g cap pre (toldK L (false, s) l r pre 2) K w')))
     have HRR := toHid hr
     rw [List.length_append] at H1
     unfold slV at HRR H1
     unfold bitV bI at HRR
     simp only [List.length_cons, List.length_nil, Nat.zero_add, ↓reduceIte] at HRR H1
     clear hr hP2 hPo ht2 hg' hrd hI1 hK1 hR1 ht1
     rw [ptr_ad r] at H1
     generalize hsg : (g'.map fun b => (⟨b, 0, none⟩ : Addr)) = sg' at *
     rw [HG0.out] at HRR
     clear hsg
     go_wp2_with (at_builtin; refine Lib.wpList_append_run _ rfl _ _ _ _ rfl _ _ rfl rfl _ _ HRR.out ?_)
     refine Calls.mono H1.out ?_
     rintro e w3 ⟨rfl, hE⟩
     have HN := toHid hE
     clear hE H1 HRR
     go_wp2
     go_roundw
     case rel => exact ⟨2, by omega, rfl, HN⟩
     case measure => simp [intOf]
    ·have HF : Hid (ETo S I w g cap pre (L ++ allT (.node b 0 (false, s) l r) pre) K wr) := by
      have := HI.out
      rw [toldE L b 0] at this
      exact this
     go_wp2
     exact bodyPost_ret (v := .tuple #[]) (by simp [results, Try.results104]) rfl ⟨rfl, HF.out⟩
  | true =>
   have hcl := hT.call L K pre s sg cap w hI (by rw [← hsg0]; exact hP.path (by omega)) (hok (pre, s) (by simp [allT]))
   have H0 := toHid hcl
   clear hcl hB hAl hAr hok hI hP hg hS hsg0 ihl ihr hSw
   go_enter Try.func104, Try.ntmps104
   go_wp2_with fail
   refine Calls.mono H0.out ?_
   rintro e w1 ⟨rfl, K1, hI1, hK1, ht1⟩
   have hB1 := ht1.blk HTT.out.2.2 HBS.out
   have d0 := hB1.cell (i := 0) rfl
   have d1 := hB1.cell (i := 1) rfl
   rw [ptr_ad l] at d0
   rw [ptr_ad r] at d1
   have HI0 : Hid (ETo S I w g cap pre (toldK L (true, s) l r pre 0) K w1) := by
    rw [told0]
    exact ⟨K1, hI1, hK1, RowAt.touch HPI.out.2 ht1 (fun x hx => (HG.out x hx).2.2.2.1), ht1.mono (fun x hx => Or.inl (List.mem_append_left _ hx))⟩
   clear hI1 hK1 ht1 hB1 H0
   go_wp2_with fail
   clear c0 c1 c2 c3 d0 d1
   go_loopw [25] (fun t wr => ∃ k : Nat, k ≤ 2 ∧ t = .int .i64 k ∧ Hid (ETo S I w g cap pre (toldK L (true, s) l r pre k) K wr)) (fun t _ => 2 - (intOf t).toNat)
   case atStart => exact ⟨0, by omega, rfl, HI0⟩
   case round =>
    clear HI0
    obtain ⟨k, hk, rfl, HI⟩ := hrel
    have : k = 0 ∨ k = 1 ∨ k = 2 := by omega
    rcases this with rfl | rfl | rfl
    ·obtain ⟨K1, hI1, hK1, hR1, ht1⟩ := HI.out
     obtain ⟨g', cap', w2, hr, hP2, hPo, ht2, hg'⟩ := each_push hR1 false (by omega)
     have hrd := each_ready hT hI1 hK1 ht1 ht2 hg' HTT.out.1 (fun b hb => ⟨(HG.out b hb).1, (HG.out b hb).2.2⟩) (fun x hx => (HSS.out x hx).1) (fun x hx => (HSS.out x hx).2.2)
     have H1 := toHid ((HIL.out w2 g' cap' (pre ++ [false]) (toldK L (true, s) l r pre 0) K1 hrd.1 HOK.out.1 hrd.2.1 hP2 hrd.2.2 (fun x hx => (HSS.out x hx).1) (fun x hx => by have := (HSS.out x hx).2.2; have := ht1.size; have := ht2.size; omega) (by simp; omega)).mono (fun e w' h => (⟨h.1, by
      have h9 := each_next (w := w) hK1 ht1 ht2 hg' hPo (fun b hb => ⟨(HG.out b hb).2.2.2.1, (HG.out b hb).2.2.2.2⟩) h.2
      rw [← told1] at h9
      exact h9⟩ : e = .returned (.tuple #[]) ∧ ETo S I w g cap pre (toldK L (true, s) l r pre 1) K w')))
     have HRR := toHid hr
     rw [List.length_append] at H1
     unfold slV at HRR H1
     unfold bitV bI at HRR
     simp only [List.length_cons, List.length_nil, Nat.zero_add, ↓reduceIte, Bool.false_eq_true] at HRR H1
     clear hr hP2 hPo ht2 hg' hrd hI1 hK1 hR1 ht1
     rw [ptr_ad l] at H1
     generalize hsg : (g'.map fun b => (⟨b, 0, none⟩ : Addr)) = sg' at *
     rw [HG0.out] at HRR
     clear hsg
     go_wp2_with (at_builtin; refine Lib.wpList_append_run _ rfl _ _ _ _ rfl _ _ rfl rfl _ _ HRR.out ?_)
     refine Calls.mono H1.out ?_
     rintro e w3 ⟨rfl, hE⟩
     have HN := toHid hE
     clear hE H1 HRR
     go_wp2
     go_roundw
     case rel => exact ⟨1, by omega, rfl, HN⟩
     case measure => simp [intOf]
    ·obtain ⟨K1, hI1, hK1, hR1, ht1⟩ := HI.out
     obtain ⟨g', cap', w2, hr, hP2, hPo, ht2, hg'⟩ := each_push hR1 true (by omega)
     have hrd := each_ready hT hI1 hK1 ht1 ht2 hg' HTT.out.2.1 (fun b hb => ⟨(HG.out b hb).2.1, (HG.out b hb).2.2⟩) (fun x hx => (HSS.out x hx).2.1) (fun x hx => (HSS.out x hx).2.2)
     have H1 := toHid ((HIR.out w2 g' cap' (pre ++ [true]) (toldK L (true, s) l r pre 1) K1 hrd.1 HOK.out.2 hrd.2.1 hP2 hrd.2.2 (fun x hx => (HSS.out x hx).2.1) (fun x hx => by have := (HSS.out x hx).2.2; have := ht1.size; have := ht2.size; omega) (by simp; omega)).mono (fun e w' h => (⟨h.1, by
      have h9 := each_next (w := w) hK1 ht1 ht2 hg' hPo (fun b hb => ⟨(HG.out b hb).2.2.2.1, (HG.out b hb).2.2.2.2⟩) h.2
      rw [← told2] at h9
      exact h9⟩ : e = .returned (.tuple #[]) ∧ ETo S I w g cap pre (toldK L (true, s) l r pre 2) K w')))
     have HRR := toHid hr
     rw [List.length_append] at H1
     unfold slV at HRR H1
     unfold bitV bI at HRR
     simp only [List.length_cons, List.length_nil, Nat.zero_add, ↓reduceIte] at HRR H1
     clear hr hP2 hPo ht2 hg' hrd hI1 hK1 hR1 ht1
     rw [ptr_ad r] at H1
     generalize hsg : (g'.map fun b => (⟨b, 0, none⟩ : Addr)) = sg' at *
     rw [HG0.out] at HRR
     clear hsg
     go_wp2_with (at_builtin; refine Lib.wpList_append_run _ rfl _ _ _ _ rfl _ _ rfl rfl _ _ HRR.out ?_)
     refine Calls.mono H1.out ?_
     rintro e w3 ⟨rfl, hE⟩
     have HN := toHid hE
     clear hE H1 HRR
     go_wp2
     go_roundw
     case rel => exact ⟨2, by omega, rfl, HN⟩
     case measure => simp [intOf]
    ·have HF : Hid (ETo S I w g cap pre (L ++ allT (.node b 0 (true, s) l r) pre) K wr) := by
      have := HI.out
      rw [toldE L b 0] at this
      exact this
     go_wp2
     exact bodyPost_ret (v := .tuple #[]) (by simp [results, Try.results104]) rfl ⟨rfl, HF.out⟩
end Go.Proofs.Ytmhhahmjkopjhaa.Lpm
end
section
namespace Go.Proofs.Ytmhhahmjkopjhaa.Lpm
open Go.RowKit Go.Deep
structure TiedT (n : Nat) (T : Tr) (l : List (Option (List Int))) : Prop where
 at_ : ∀ p s, atT T p = some s ↔ p.length ≤ 8 * n ∧ l[s]? = some (some (keyP p n))
 form : ∀ bs, some bs ∈ l → ∃ p : List Bool, p.length ≤ 8 * n ∧ bs = keyP p n
theorem TiedT.lt {n : Nat} {T : Tr} {l : List (Option (List Int))} (h : TiedT n T l) {p : List Bool} {s : Nat} (hs : atT T p = some s) : s < l.length := by
 have := ((h.at_ p s).1 hs).2
 exact (List.getElem?_eq_some_iff.1 this).1
theorem TiedT.len {n : Nat} {T : Tr} {l : List (Option (List Int))} (h : TiedT n T l) {p : List Bool} {s : Nat} (hs : atT T p = some s) : p.length ≤ 8 * n := ((h.at_ p s).1 hs).1
theorem TiedT.start (n m : Nat) : TiedT n .nil (List.replicate m none) := by
 refine ⟨fun p s => ?_, fun bs hb => ?_⟩
 ·simp only [atT, reduceCtorEq, false_iff, not_and]
  intro _ h
  rw [List.getElem?_replicate] at h
  split at h
  ·cases h
  ·cases h
 ·rw [List.mem_replicate] at hb
  cases hb.2
theorem TiedT.same {n : Nat} {T : Tr} {l : List (Option (List Int))} (h : TiedT n T l) (_hn : n ≤ 100) {p : List Bool} (hp : p.length ≤ 8 * n) : sameP l (keyP p n) = atT T p := by
 cases ha : atT T p with
 | none =>
  unfold sameP
  rw [List.findIdx?_eq_none_iff]
  intro x hx
  obtain ⟨j, hj, rfl⟩ := List.getElem_of_mem hx
  by_cases he : l[j] = some (keyP p n)
  ·have := (h.at_ p j).2 ⟨hp, by rw [List.getElem?_eq_getElem hj, he]⟩
   rw [ha] at this
   cases this
  ·simpa using he
 | some s =>
  have hs := ((h.at_ p s).1 ha).2
  unfold sameP
  rw [List.findIdx?_eq_some_iff_getElem]
  obtain ⟨hlt, hv⟩ := List.getElem?_eq_some_iff.1 hs
  refine ⟨hlt, by rw [hv]; simp, fun j hj => ?_⟩
  have hjl : j < l.length := by omega
  by_cases he : l[j]'hjl = some (keyP p n)
  ·have := (h.at_ p j).2 ⟨hp, by rw [List.getElem?_eq_getElem hjl, he]⟩
   rw [ha] at this
   injection this with this
   omega
  ·simpa using he
theorem TiedT.put {n : Nat} {T T' : Tr} {l : List (Option (List Int))} (h : TiedT n T l) (hn : n ≤ 100) {p : List Bool} (hp : p.length ≤ 8 * n) (ha : atT T p = none) {f : Nat} (hf : l[f]? = some none)
  (hT : ∀ q, atT T' q = if q = p then some f else atT T q) : TiedT n T' (l.set f (some (keyP p n))) := by
 have hfl : f < l.length := (List.getElem?_eq_some_iff.1 hf).1
 refine ⟨fun q s => ?_, fun bs hb => ?_⟩
 ·rw [hT q, List.getElem?_set]
  by_cases hq : q = p
  ·rw [if_pos hq, hq]
   by_cases hs : f = s
   ·rw [if_pos hs, if_pos hfl, hs]
    exact ⟨fun _ => ⟨hp, rfl⟩, fun _ => rfl⟩
   ·rw [if_neg hs]
    refine ⟨fun e => by injection e with e; exact absurd e hs, fun e => ?_⟩
    have := (h.at_ p s).2 e
    rw [ha] at this
    cases this
  ·rw [if_neg hq]
   by_cases hs : f = s
   ·rw [if_pos hs, if_pos hfl]
    refine ⟨fun e => ?_, fun e => ?_⟩
    ·have := ((h.at_ q s).1 e).2
     rw [← hs, hf] at this
     cases this
    ·obtain ⟨e1, e2⟩ := e
     injection e2 with e2
     injection e2 with e2
     exact absurd (keyP_inj hp e1 hn e2).symm hq
   ·rw [if_neg hs]
    exact h.at_ q s
 ·rcases List.mem_or_eq_of_mem_set hb with hb | hb
  ·exact h.form bs hb
  ·injection hb with hb
   exact ⟨p, hp, hb⟩
theorem TiedT.inj {n : Nat} {T : Tr} {l : List (Option (List Int))} (h : TiedT n T l) (hn : n ≤ 100) {p q : List Bool} {s : Nat} (hp : atT T p = some s) (hq : atT T q = some s) : p = q := by
 obtain ⟨a1, a2⟩ := (h.at_ p s).1 hp
 obtain ⟨b1, b2⟩ := (h.at_ q s).1 hq
 rw [a2] at b2
 injection b2 with b2
 injection b2 with b2
 exact keyP_inj a1 b1 hn b2
theorem TiedT.del {n : Nat} {T T' : Tr} {l : List (Option (List Int))} (h : TiedT n T l) (hn : n ≤ 100) {p : List Bool} {f : Nat} (ha : atT T p = some f)
  (hT : ∀ q, atT T' q = if q = p then none else atT T q) : TiedT n T' (l.set f none) := by
 have hfl : f < l.length := h.lt ha
 refine ⟨fun q s => ?_, fun bs hb => ?_⟩
 ·rw [hT q, List.getElem?_set]
  by_cases hq : q = p
  ·rw [if_pos hq, hq]
   by_cases hs : f = s
   ·rw [if_pos hs, if_pos hfl]
    exact ⟨fun e => (by cases e), fun e => (by cases e.2)⟩
   ·rw [if_neg hs]
    refine ⟨fun e => (by cases e), fun e => ?_⟩
    have := (h.at_ p s).2 e
    rw [ha] at this
    injection this with this
    exact absurd this hs
  ·rw [if_neg hq]
   by_cases hs : f = s
   ·rw [if_pos hs, if_pos hfl]
    refine ⟨fun e => ?_, fun e => (by cases e.2)⟩
    rw [← hs] at e
    exact absurd (h.inj hn e ha) hq
   ·rw [if_neg hs]
    exact h.at_ q s
 ·rcases List.mem_or_eq_of_mem_set hb with hb | hb
  ·exact h.form bs hb
  ·cases hb
theorem longT_get : ∀ (p : List Bool) (T : Tr), (longT T p = none ∧ ∀ j, atT T (p.take j) = none) ∨ (∃ s k, longT T p = some s ∧ k ≤ p.length ∧ atT T (p.take k) = some s ∧ ∀ j, k < j → j ≤ p.length → atT T (p.take j) = none)
 | [], .nil => Or.inl ⟨rfl, fun _ => by simp [atT]⟩
 | c :: p, .nil => Or.inl ⟨rfl, fun _ => rfl⟩
 | [], .node b o a l r => by
  cases ha : heldT a with
  | none => exact Or.inl ⟨ha, fun j => by simpa [atT] using ha⟩
  | some s => exact Or.inr ⟨s, 0, ha, Nat.le_refl _, by simpa [atT] using ha, fun j h1 h2 => by simp at h2; omega⟩
 | c :: p, .node b o a l r => by
  have key : ∀ C : Tr, (∀ q, atT (.node b o a l r) (c :: q) = atT C q) → longT (.node b o a l r) (c :: p) = (longT C p).or (heldT a) →
    (longT (.node b o a l r) (c :: p) = none ∧ ∀ j, atT (.node b o a l r) ((c :: p).take j) = none) ∨ (∃ s k, longT (.node b o a l r) (c :: p) = some s ∧ k ≤ (c :: p).length ∧ atT (.node b o a l r) ((c :: p).take k) = some s ∧ ∀ j, k < j → j ≤ (c :: p).length → atT (.node b o a l r) ((c :: p).take j) = none) := by
   intro C hC hL
   have h0 : atT (.node b o a l r) [] = heldT a := rfl
   rcases longT_get p C with ⟨h1, h2⟩ | ⟨s, k, h1, h2, h3, h4⟩
   ·rw [h1, Option.none_or] at hL
    cases ha : heldT a with
    | none =>
     refine Or.inl ⟨by rw [hL, ha], fun j => ?_⟩
     cases j with
     | zero => exact ha
     | succ j => rw [List.take_succ_cons, hC]; exact h2 j
    | some s =>
     refine Or.inr ⟨s, 0, by rw [hL, ha], Nat.zero_le _, ha, fun j h5 h6 => ?_⟩
     obtain ⟨i, rfl⟩ : ∃ i, j = i + 1 := ⟨j - 1, by omega⟩
     rw [List.take_succ_cons, hC]
     exact h2 i
   ·rw [h1, Option.some_or] at hL
    refine Or.inr ⟨s, k + 1, hL, by simp; omega, by rw [List.take_succ_cons, hC]; exact h3, fun j h5 h6 => ?_⟩
    obtain ⟨i, rfl⟩ : ∃ i, j = i + 1 := ⟨j - 1, by omega⟩
    rw [List.take_succ_cons, hC]
    exact h4 i (by omega) (by simp at h6; omega)
  cases c with
  | false => exact key l (fun _ => rfl) rfl
  | true => exact key r (fun _ => rfl) rfl
def Begins (n : Nat) (l : List (Option (List Int))) (bs : List Int) (i : Nat) (p : List Bool) : Prop := p.length ≤ 8 * n ∧ l[i]? = some (some (keyP p n)) ∧ p.length ≤ (keyNum bs).toNat ∧ p = (pathP bs).take p.length
theorem longTo_get {n : Nat} {T : Tr} {l : List (Option (List Int))} (h : TiedT n T l) (hn : n ≤ 100) {bs : List Int} (hl : bs.length = n + 4) (hb : ∀ x ∈ bs, 0 ≤ x ∧ x ≤ 255) (hk : keyNum bs ≤ 8 * (n : Int)) :
  ∀ k, k ≤ l.length → (longTo l bs k = none ∧ ∀ i p, i < k → ¬ Begins n l bs i p) ∨ (∃ s p, longTo l bs k = some s ∧ s < k ∧ Begins n l bs s p ∧ ∀ i q, i < k → Begins n l bs i q → q.length ≤ p.length)
 | 0, _ => Or.inl ⟨rfl, fun i p hi => by omega⟩
 | k + 1, hkl => by
  have hkb := keyNum_bd hb
  have hlt : k < l.length := by omega
  have hst : longTo l bs (k + 1) = longStep l bs (longTo l bs k) k := rfl
  have hgk : l.getD k none = l[k] := by rw [List.getD_eq_getElem?_getD, List.getElem?_eq_getElem hlt]; rfl
  have ih := longTo_get h hn hl hb hk k (by omega)
  cases hv : l[k] with
  | none =>
   have hs : longTo l bs (k + 1) = longTo l bs k := by
    rw [hst]
    unfold longStep
    rw [hgk, hv]
    exact if_pos rfl
   have hno : ∀ p, ¬ Begins n l bs k p := fun p hp => by
    have := hp.2.1
    rw [List.getElem?_eq_getElem hlt, hv] at this
    cases this
   rw [hs]
   rcases ih with ⟨h1, h2⟩ | ⟨s, p, h1, h2, h3, h4⟩
   ·refine Or.inl ⟨h1, fun i p hi hp => ?_⟩
    by_cases e : i = k
    ·exact hno p (e ▸ hp)
    ·exact h2 i p (by omega) hp
   ·refine Or.inr ⟨s, p, h1, by omega, h3, fun i q hi hq => ?_⟩
    by_cases e : i = k
    ·exact absurd (e ▸ hq) (hno q)
    ·exact h4 i q (by omega) hq
  | some y =>
   obtain ⟨p, hp, rfl⟩ := h.form y (by rw [← hv]; exact List.getElem_mem hlt)
   have hky : keyNum (keyP p n) = p.length := keyNum_key p n (by omega)
   have hvk : l[k]? = some (some (keyP p n)) := by rw [List.getElem?_eq_getElem hlt, hv]
   have huni : ∀ q, Begins n l bs k q → q = p := fun q hq => by
    have := hq.2.1
    rw [hvk] at this
    injection this with this
    injection this with this
    exact (keyP_inj hp hq.1 hn this).symm
   by_cases hlong : keyNum bs < keyNum (keyP p n)
   ·have hs : longTo l bs (k + 1) = longTo l bs k := by
     rw [hst]
     unfold longStep
     rw [hgk, hv, if_pos (by simp [skipP, hlong])]
    have hno : ∀ q, ¬ Begins n l bs k q := fun q hq => by
     have := huni q hq
     subst this
     have := hq.2.2.1
     omega
    rw [hs]
    rcases ih with ⟨h1, h2⟩ | ⟨s, p', h1, h2, h3, h4⟩
    ·refine Or.inl ⟨h1, fun i q hi hq => ?_⟩
     by_cases e : i = k
     ·exact hno q (e ▸ hq)
     ·exact h2 i q (by omega) hq
    ·refine Or.inr ⟨s, p', h1, by omega, h3, fun i q hi hq => ?_⟩
     by_cases e : i = k
     ·exact absurd (e ▸ hq) (hno q)
     ·exact h4 i q (by omega) hq
   ·have hpl : p.length ≤ (keyNum bs).toNat := by omega
    have hbeg := begins_iff hl hb hpl hn hk
    rcases ih with ⟨h1, h2⟩ | ⟨s, p', h1, h2, h3, h4⟩
    ·have hsk : skipP l bs none (some (keyP p n)) = false := by simp [skipP]; omega
     by_cases hc : cutP ((keyP p n).take 4 ++ bs.drop 4) = keyP p n
     ·have hs : longTo l bs (k + 1) = some k := by
       rw [hst, h1]
       unfold longStep
       rw [hgk, hv, if_neg (by rw [hsk]; decide)]
       exact if_pos hc
      refine Or.inr ⟨k, p, hs, by omega, ⟨hp, hvk, hpl, hbeg.1 hc⟩, fun i q hi hq => ?_⟩
      by_cases e : i = k
      ·rw [huni q (e ▸ hq)]; exact Nat.le_refl _
      ·exact absurd hq (h2 i q (by omega))
     ·have hs : longTo l bs (k + 1) = none := by
       rw [hst, h1]
       unfold longStep
       rw [hgk, hv, if_neg (by rw [hsk]; decide)]
       exact if_neg hc
      refine Or.inl ⟨hs, fun i q hi hq => ?_⟩
      by_cases e : i = k
      ·have e2 := huni q (e ▸ hq)
       subst e2
       exact hc (hbeg.2 hq.2.2.2)
      ·exact h2 i q (by omega) hq
    ·have hgs : (l.getD s none).getD [] = keyP p' n := by
      rw [List.getD_eq_getElem?_getD, h3.2.1]
      rfl
     have hks : keyNum (keyP p' n) = p'.length := keyNum_key p' n (by have := h3.1; omega)
     have hskv : skipP l bs (some s) (some (keyP p n)) = decide (p.length ≤ p'.length) := by
      simp only [skipP, hgs, hky, hks]
      rw [decide_eq_false (by omega), Bool.false_or]
      by_cases e : p.length ≤ p'.length
      ·rw [decide_eq_true e, decide_eq_true (by omega)]
      ·rw [decide_eq_false e, decide_eq_false (by omega)]
     by_cases hle : p.length ≤ p'.length
     ·have hs : longTo l bs (k + 1) = some s := by
       rw [hst, h1]
       unfold longStep
       rw [hgk, hv, if_pos (by rw [hskv]; exact decide_eq_true hle)]
      refine Or.inr ⟨s, p', hs, by omega, h3, fun i q hi hq => ?_⟩
      by_cases e : i = k
      ·rw [huni q (e ▸ hq)]; exact hle
      ·exact h4 i q (by omega) hq
     ·by_cases hc : cutP ((keyP p n).take 4 ++ bs.drop 4) = keyP p n
      ·have hs : longTo l bs (k + 1) = some k := by
        rw [hst, h1]
        unfold longStep
        rw [hgk, hv, if_neg (by rw [hskv, decide_eq_false hle]; decide)]
        exact if_pos hc
       refine Or.inr ⟨k, p, hs, by omega, ⟨hp, hvk, hpl, hbeg.1 hc⟩, fun i q hi hq => ?_⟩
       by_cases e : i = k
       ·rw [huni q (e ▸ hq)]; exact Nat.le_refl _
       ·have := h4 i q (by omega) hq
        omega
      ·have hs : longTo l bs (k + 1) = some s := by
        rw [hst, h1]
        unfold longStep
        rw [hgk, hv, if_neg (by rw [hskv, decide_eq_false hle]; decide)]
        exact if_neg hc
       refine Or.inr ⟨s, p', hs, by omega, h3, fun i q hi hq => ?_⟩
       by_cases e : i = k
       ·have e2 := huni q (e ▸ hq)
        subst e2
        exact absurd (hbeg.2 hq.2.2.2) hc
       ·exact h4 i q (by omega) hq
theorem long_eq {n : Nat} {T : Tr} {l : List (Option (List Int))} (h : TiedT n T l) (hn : n ≤ 100) {bs : List Int} (hl : bs.length = n + 4) (hb : ∀ x ∈ bs, 0 ≤ x ∧ x ≤ 255) (hk : keyNum bs ≤ 8 * (n : Int)) :
  longTo l bs l.length = longT T (pathP bs) := by
 have hpl := pathP_len bs
 have htk : ∀ k, k ≤ (pathP bs).length → ((pathP bs).take k).length = k := fun k hk => by rw [List.length_take]; omega
 rcases longT_get (pathP bs) T with ⟨h1, h2⟩ | ⟨s, k, h1, h2, h3, h4⟩
 ·rw [h1]
  rcases longTo_get h hn hl hb hk l.length (Nat.le_refl _) with ⟨q1, _⟩ | ⟨s, p, q1, _, q3, _⟩
  ·exact q1
  ·have := (h.at_ p s).2 ⟨q3.1, q3.2.1⟩
   rw [q3.2.2.2, h2] at this
   cases this
 ·rw [h1]
  have hkey := (h.at_ _ s).1 h3
  have hbg : Begins n l bs s ((pathP bs).take k) := ⟨hkey.1, hkey.2, by rw [htk k h2]; omega, by rw [htk k h2]⟩
  rcases longTo_get h hn hl hb hk l.length (Nat.le_refl _) with ⟨_, q2⟩ | ⟨s', p, q1, _, q3, q4⟩
  ·exact absurd hbg (q2 s _ (h.lt h3))
  ·rw [q1]
   have hle := q4 s _ (h.lt h3) hbg
   rw [htk k h2] at hle
   have hat := (h.at_ p s').2 ⟨q3.1, q3.2.1⟩
   have hpk : p.length = k := by
    by_cases e : k < p.length
    ·have := h4 p.length e (by have := q3.2.2.1; omega)
     rw [← q3.2.2.2, hat] at this
     cases this
    ·omega
   rw [q3.2.2.2, hpk, h3] at hat
   injection hat with hat
   rw [hat]
end Go.Proofs.Ytmhhahmjkopjhaa.Lpm
end
section
namespace Go.Proofs.Ytmhhahmjkopjhaa.Lpm
open Go.RowKit Go.Deep
structure TX where
 X : Nat
 n : Nat
 m : Nat
 T : Tr
 l : List (Option (List Int))
structure IAt (w : World) (x : TX) : Prop where
 self : Blk w x.X [.int .i64 (x.n : Int), .int .i64 (x.m : Int), x.T.ptr] 105
 tree : TrAt w x.T
 ok : okT x.T
 nd : (bsT x.T).Nodup
 out : x.X ∉ bsT x.T
 dep : depT x.T ≤ 8 * x.n + 1
 n1 : 1 ≤ x.n
 n12 : x.n ≤ 12
 m1 : 1 ≤ x.m
 m64 : x.m ≤ 64
 len : x.l.length = x.m
 tied : TiedT x.n x.T x.l
def TX.own (x : TX) : List Nat := x.X :: bsT x.T
theorem IAt.touch {S : List Nat} {w w' : World} {x : TX} (h : IAt w x) (ht : Touch S w w') (hn : ∀ y ∈ x.own, y ∉ S) : IAt w' x :=
 ⟨ht.blk h.self (hn _ (by simp [TX.own])), h.tree.touch ht (fun y hy => hn y (by simp [TX.own, hy])), h.ok, h.nd, h.out, h.dep, h.n1, h.n12, h.m1, h.m64, h.len, h.tied⟩
theorem IAt.still {w w' : World} {x : TX} (h : IAt w x) (ht : Touch [] w w') : IAt w' x := h.touch ht (by simp)
theorem IAt.lt {w : World} {x : TX} (h : IAt w x) : ∀ y ∈ x.own, y < w.heap.size := fun y hy => by
 simp only [TX.own, List.mem_cons] at hy
 rcases hy with rfl | hy
 ·exact h.self.lt
 ·exact h.tree.lt y hy
theorem IAt.c0 {w : World} {x : TX} (h : IAt w x) : w.cell? ⟨x.X, 0, none⟩ = some (.int .i64 (x.n : Int)) := h.self.cell rfl
theorem IAt.c1 {w : World} {x : TX} (h : IAt w x) : w.cell? ⟨x.X, 1, none⟩ = some (.int .i64 (x.m : Int)) := h.self.cell rfl
theorem IAt.c2 {w : World} {x : TX} (h : IAt w x) : w.cell? ⟨x.X, 2, none⟩ = some (.pointer (adT x.T)) := by rw [← ptr_ad]; exact h.self.cell rfl
theorem IAt.slot {w : World} {x : TX} (h : IAt w x) {p : List Bool} {s : Nat} (hs : atT x.T p = some s) : s < 64 ∧ p.length ≤ 8 * x.n := by
 have h1 := h.tied.lt hs
 have h2 := h.len
 have h3 := h.m64
 exact ⟨by omega, h.tied.len hs⟩
def takenL (L : List (List Bool × Nat)) (i : Nat) : Bool := L.any fun x => x.2 == i
def takenRow (L : List (List Bool × Nat)) : List Value := (List.range 64).map fun i => .bool (takenL L i)
def FreeI (tb : Nat) (L : List (List Bool × Nat)) (K : List Nat) (w : World) : Prop := K = [tb] ∧ Blk w tb (takenRow L) 155
theorem taken_set (L : List (List Bool × Nat)) (pre : List Bool) {s : Nat} (hs : s < 64) : takenRow (L ++ [(pre, s)]) = (takenRow L).set s (.bool true) := by
 refine List.ext_getElem? fun i => ?_
 rw [List.getElem?_set]
 unfold takenRow
 rw [List.length_map, List.length_range, List.getElem?_map, List.getElem?_map]
 by_cases hi : s = i
 ·rw [if_pos hi, if_pos hs, ← hi, List.getElem?_range hs]
  simp [takenL]
 ·rw [if_neg hi]
  by_cases h64 : i < 64
  ·rw [List.getElem?_range h64]
   have : (s == i) = false := by simpa using hi
   simp [takenL, this]
  ·rw [List.getElem?_eq_none (by simpa using h64)]
   rfl
theorem taken_cell {w : World} {tb : Nat} {L : List (List Bool × Nat)} {t : TypeId} (h : Blk w tb (takenRow L) t) {s : Nat} (hs : s < 64) : w.cell? ⟨tb, s, none⟩ = some (.bool (takenL L s)) := by
 refine h.cell ?_
 unfold takenRow
 rw [List.getElem?_map, List.getElem?_range hs]
 rfl
theorem free_teller (tb : Nat) : Teller [tb] (fun _ s => s < 64) (FreeI tb) (fun a b w Q => Calls Try.prog 105 #[a, b, .pointer (some ⟨tb, 0, none⟩)] w Q) where
 call := by
  intro L K pre s sa cap w hI hP hs
  obtain ⟨rfl, hB⟩ := hI
  have hs : s < 64 := hs
  have c0 := taken_cell hB hs
  have f0 := hB.frozen s
  have hs2 : (s : Int) < 64 := by omega
  have HF : Hid (∃ K', FreeI tb (L ++ [(pre, s)]) K' (w.setCell ⟨tb, s, none⟩ (.bool true)) ∧ (∀ x ∈ K', x ∈ [tb] ∨ w.heap.size ≤ x) ∧ Touch [tb] w (w.setCell ⟨tb, s, none⟩ (.bool true))) :=
   ⟨[tb], ⟨rfl, by rw [taken_set L pre hs]; exact hB.setCell s (.bool true)⟩, fun x hx => Or.inl hx, (Touch.refl _ w).setCell _ _ (Or.inl (by simp))⟩
  generalize takenL L s = ts at *
  clear hB hP
  show Calls Try.prog 105 #[.slice sa pre.length cap, .int .i64 (s : Int), .pointer (some ⟨tb, 0, none⟩)] w _
  go_enter Try.func105, Try.ntmps105
  go_wp2
  go_end0
  exact ⟨rfl, HF.out⟩
 still := by
  intro L K w w' G hI ht hG
  obtain ⟨rfl, hB⟩ := hI
  exact ⟨rfl, ht.blk hB (fun hx => hG tb hx (by simp))⟩
 lt := by
  intro L K w hI x hx
  obtain ⟨rfl, hB⟩ := hI
  simp at hx
  subst hx
  exact hB.lt
theorem free_from {l : List (Option (List Int))} {k : Nat} (h1 : ∀ j, j < k → l.getD j none ≠ none) (hk : k < l.length) (h2 : l.getD k none = none) : freeP l = some k := by
 unfold freeP
 rw [List.findIdx?_eq_some_iff_getElem]
 refine ⟨hk, ?_, fun j hj => ?_⟩
 ·rw [List.getD_eq_getElem?_getD, List.getElem?_eq_getElem hk] at h2
  simpa using h2
 ·have := h1 j hj
  rw [List.getD_eq_getElem?_getD, List.getElem?_eq_getElem (by omega)] at this
  simpa using this
theorem free_none {l : List (Option (List Int))} (h1 : ∀ j, j < l.length → l.getD j none ≠ none) : freeP l = none := by
 unfold freeP
 rw [List.findIdx?_eq_none_iff]
 intro x hx
 obtain ⟨j, hj, rfl⟩ := List.getElem_of_mem hx
 have := h1 j hj
 rw [List.getD_eq_getElem?_getD, List.getElem?_eq_getElem hj] at this
 cases hv : l[j] with
 | none => rw [hv] at this; exact absurd rfl this
 | some y => rfl
theorem IAt.taken {w : World} {x : TX} (h : IAt w x) {j : Nat} (hj : j < x.m) : takenL (allT x.T []) j = true ↔ x.l.getD j none ≠ none := by
 have hjl : j < x.l.length := by rw [h.len]; exact hj
 rw [List.getD_eq_getElem?_getD, List.getElem?_eq_getElem hjl]
 unfold takenL
 rw [List.any_eq_true]
 constructor
 ·rintro ⟨y, hy, he⟩ hn
  obtain ⟨q, _, h2⟩ := (mem_allT x.T [] y).1 hy
  have he : y.2 = j := by simpa using he
  rw [he] at h2
  have h3 := ((h.tied.at_ q j).1 h2).2
  rw [List.getElem?_eq_getElem hjl] at h3
  simp only [Option.getD_some] at hn
  rw [hn] at h3
  cases h3
 ·intro hn
  cases hv : x.l[j] with
  | none => rw [hv] at hn; exact absurd rfl hn
  | some bs =>
   obtain ⟨p, hp, rfl⟩ := h.tied.form bs (by rw [← hv]; exact List.getElem_mem hjl)
   have h2 := (h.tied.at_ p j).2 ⟨hp, by rw [List.getElem?_eq_getElem hjl, hv]⟩
   exact ⟨(p, j), (mem_allT x.T [] (p, j)).2 ⟨p, rfl, h2⟩, by simp⟩
theorem free_any {w : World} {x : TX} (h : IAt w x) : Calls Try.prog 95 #[.pointer (some ⟨x.X, 0, none⟩)] w fun e w' => e = .returned (fV (freeP x.l)) ∧ Touch [] w w' := by
 have HTA : Hid (∀ o, Touch [] w (w.alloc o)) := fun o => (Touch.refl [] w).alloc o
 have HH := toHid h
 have c2 : ∀ o, (w.alloc o).cell? ⟨x.X, 2, none⟩ = some (.pointer (adT x.T)) := fun o => (h.still ((Touch.refl [] w).alloc o)).c2
 clear h
 go_enter Try.func95, Try.ntmps95
 go_wp2_with fail
 generalize hw1 : w.alloc _ = w1
 have hB : Blk w1 w.heap.size (takenRow []) 155 := by rw [← hw1]; exact Blk.newA w _ _ 155 (by rfl)
 have ht1 : Touch [] w w1 := by rw [← hw1]; exact HTA.out _
 have hx1 := HH.out.still ht1
 have hXN : w.heap.size ∉ bsT x.T := fun hx => by have := HH.out.tree.lt _ hx; omega
 have H1 := each_free w.heap.size (free_teller w.heap.size) x.T w1 none 0 [] [] [w.heap.size] hx1.tree (fun y hy => by
   obtain ⟨q, _, h2⟩ := (mem_allT x.T [] y).1 hy
   exact (hx1.slot h2).1) ⟨rfl, hB⟩ ⟨rfl, Nat.le_refl _, by unfold maxLen; omega, rfl⟩ (fun b hb => by cases hb) (fun y hy => by simp at hy; subst hy; exact hXN) (fun y hy => by simp at hy; subst hy; exact hB.lt) (by have := hx1.dep; have := hx1.n12; simp; omega)
 rw [ptr_ad x.T, List.nil_append] at H1
 have H2 := toHid H1
 have HX := toHid hx1
 clear hw1 c2 HTA hB H1 hx1
 refine Calls.mono H2.out ?_
 rintro e w2 ⟨rfl, K', hI, _, _, ht2⟩
 have hx2 := HX.out.touch ht2 (fun y hy hx => by
  simp at hx
  subst hx
  simp only [TX.own, List.mem_cons] at hy
  rcases hy with hy | hy
  ·have := HH.out.self.lt; omega
  ·exact hXN hy)
 have c1 := hx2.c1
 have HB := toHid hI.2
 have HT2 : Hid (Touch [] w w2) := ht1.trans ht2 (fun y hy => Or.inr (by simp at hy; omega))
 have hmx := HH.out.m64
 have hml := HH.out.len
 generalize hM : x.m = M at *
 have HX2 := toHid hx2
 clear hx2 hI ht2 ht1 HX H2
 go_wp2_with fail
 clear c1
 go_loop [16] (fun t => ∃ k : Nat, k ≤ M ∧ t = .int .i64 k ∧ Hid (∀ j, j < k → x.l.getD j none ≠ none)) (fun t => M - (intOf t).toNat)
 case atStart => exact ⟨0, by omega, rfl, fun j hj => absurd hj (by omega)⟩
 case round =>
  obtain ⟨k, hk, rfl, HI⟩ := hrel
  by_cases hlt : k < M
  ·have hk64 : k < 64 := by omega
   have hki : (k : Int) < 64 := by omega
   have c0 := taken_cell HB.out hk64
   have htk := HX2.out.taken (j := k) (by rw [hM]; exact hlt)
   cases htv : takenL (allT x.T []) k with
   | false =>
    have hnone : x.l.getD k none = none := by
     cases hv : x.l.getD k none with
     | none => rfl
     | some y =>
      have := htk.2 (by rw [hv]; simp)
      rw [htv] at this
      cases this
    have HR := toHid (free_from HI.out (by rw [hml]; exact hlt) hnone)
    rw [htv] at c0
    clear htk htv hnone
    go_wp2
    go_ret2
    refine ⟨?_, HT2.out⟩
    rw [HR.out]
    rfl
   | true =>
    have HN : Hid (∀ j, j < k + 1 → x.l.getD j none ≠ none) := fun j hj => by
     by_cases hjk : j < k
     ·exact HI.out j hjk
     ·obtain rfl : j = k := by omega
      exact htk.1 htv
    rw [htv] at c0
    clear htk htv
    go_wp2
    exact ⟨⟨k + 1, by omega, by go_num, HN⟩, by simp [intOf]; omega⟩
  ·obtain rfl : k = M := by omega
   have HR := toHid (free_none (fun j hj => HI.out j (by rw [← hml]; exact hj)))
   go_wp2
   go_ret2
   refine ⟨?_, HT2.out⟩
   rw [HR.out]
   rfl
end Go.Proofs.Ytmhhahmjkopjhaa.Lpm
end
section
namespace Go.Proofs.Ytmhhahmjkopjhaa.Lpm
open Go.RowKit Go.Deep
def TX.find (x : TX) (bs : List Int) : Option Nat := if fitsK bs x.n = true then longTo x.l bs x.l.length else none
theorem fitsK_len {bs : List Int} {n : Nat} (h : fitsK bs n = true) : bs.length = n + 4 ∧ keyNum bs ≤ 8 * (n : Int) := by
 unfold fitsK at h
 simpa using h
theorem pathP_fits {bs : List Int} {n : Nat} (h : fitsK bs n = true) : (pathP bs).length ≤ 8 * n := by
 have := (fitsK_len h).2
 rw [pathP_len]
 omega
theorem pathOf_no {w : World} {sa : Option Addr} {sl : Nat} {bs : List Int} (h : KeyAt w sa sl bs) {n : Nat} (hn : n ≤ 12) (sc : Nat) (hsc : sl ≤ sc) (hf : fitsK bs n = false) :
  Calls Try.prog 96 #[.slice sa sl sc, .int .i64 (n : Int)] w fun e w' => e = .returned (.tuple #[.slice none 0 0, .bool false]) ∧ w' = w :=
 (pathOf_any h n hn sc hsc).mono fun e w' hp => by
  unfold PathPost at hp
  rw [if_neg (by rw [hf]; decide)] at hp
  exact hp
theorem pathOf_yes {w : World} {sa : Option Addr} {sl : Nat} {bs : List Int} (h : KeyAt w sa sl bs) {n : Nat} (hn : n ≤ 12) (sc : Nat) (hsc : sl ≤ sc) (hf : fitsK bs n = true) :
  Calls Try.prog 96 #[.slice sa sl sc, .int .i64 (n : Int)] w fun e w' => ∃ g, e = .returned (.tuple #[.slice (some ⟨g, 0, none⟩) (pathP bs).length (pathP bs).length, .bool true]) ∧ Blk w' g ((pathP bs).map bitV) 3 ∧ w.heap.size ≤ g ∧ (pathP bs).length ≤ 1000 ∧ Touch [] w w' :=
 (pathOf_any h n hn sc hsc).mono fun e w' hp => by
  unfold PathPost at hp
  rw [if_pos hf] at hp
  exact hp
theorem ifind_any {w : World} {x : TX} (h : IAt w x) {sa : Option Addr} {sl : Nat} {bs : List Int} (hk : KeyAt w sa sl bs) (sc : Nat) (hsc : sl ≤ sc) :
  Calls Try.prog 92 #[.pointer (some ⟨x.X, 0, none⟩), .slice sa sl sc] w fun e w' => e = .returned (fV (x.find bs)) ∧ Touch [] w w' := by
 have c0 := h.c0
 unfold TX.find
 cases hf : fitsK bs x.n with
 | false =>
  rw [if_neg (by decide)]
  have H1 := toHid (pathOf_no hk h.n12 sc hsc hf)
  clear h hk hf
  go_enter Try.func92, Try.ntmps92
  go_wp2_with fail
  refine Calls.mono H1.out ?_
  rintro e w2 ⟨rfl, rfl⟩
  go_wp2
  go_ret2
  exact ⟨rfl, Touch.refl _ _⟩
 | true =>
  rw [if_pos rfl]
  have H1 := toHid (pathOf_yes hk h.n12 sc hsc hf)
  have hl := fitsK_len hf
  rw [long_eq h.tied (by have := h.n12; omega) hl.1 hk.2.1 hl.2]
  have HH := toHid h
  generalize hfo : longT x.T (pathP bs) = fo at *
  have HFO := toHid hfo
  unfold fV
  clear h hk hf hl hfo
  go_enter Try.func92, Try.ntmps92
  go_wp2_with fail
  refine Calls.mono H1.out ?_
  rintro e w2 ⟨g, rfl, hB, hg, hpl, ht2⟩
  have hx2 := HH.out.still ht2
  have c2 := hx2.c2
  have H2 := toHid (longest_any (pathP bs) x.T w2 (some ⟨g, 0, none⟩) hx2.tree hx2.ok (blk_path hB hpl))
  rw [ptr_ad, HFO.out] at H2
  have HT2 := toHid ht2
  clear hB hg hpl ht2 hx2 H1
  unfold fV at H2
  go_wp2_with fail
  refine Calls.mono H2.out ?_
  rintro e w3 ⟨rfl, n, rfl⟩
  go_wp2
  go_ret2
  exact ⟨rfl, HT2.out.drewN n⟩
def IStep (w : World) (x : TX) (l : List (Option (List Int))) (w' : World) : Prop := ∃ T' : Tr, IAt w' { x with T := T', l := l } ∧ Touch x.own w w' ∧ ∀ y ∈ bsT T', y ∈ x.own ∨ w.heap.size ≤ y
theorem IStep.same {w w' : World} {x : TX} (h : IAt w x) (ht : Touch [] w w') : IStep w x x.l w' := ⟨x.T, h.still ht, Touch.nil ht, fun y hy => Or.inl (by simp [TX.own, hy])⟩
theorem again_no (w : World) (s : Nat) : Calls Try.prog 100 #[.int .i64 (s : Int), .int .u64 1] w fun e w' => e = .returned (.tuple #[.int .i64 0, .bool false, .int .i64 70]) ∧ w' = w := by
 go_enter Try.func100, Try.ntmps100
 go_wp2
 go_ret3
 exact ⟨rfl, rfl⟩
theorem again_yes (w : World) (s : Nat) {fl : Int} (h : ¬ fl = 1) : Calls Try.prog 100 #[.int .i64 (s : Int), .int .u64 fl] w fun e w' => e = .returned (.tuple #[.int .i64 (s : Int), .bool false, .int .i64 0]) ∧ w' = w := by
 have h1 : (fl == 1) = false := by simpa using h
 clear h
 go_enter Try.func100, Try.ntmps100
 go_wp2
 go_ret3
 exact ⟨rfl, rfl⟩
theorem IAt.root {w w2 : World} {x : TX} {T' : Tr} {l' : List (Option (List Int))} (h : IAt w x) (ht : Touch (bsT x.T) w w2) (hA : TrAt w2 T') (ok : okT T') (nd : (bsT T').Nodup) (hb : ∀ b ∈ bsT T', b ∈ bsT x.T ∨ w.heap.size ≤ b)
  (dep : depT T' ≤ 8 * x.n + 1) (len : l'.length = x.m) (tied : TiedT x.n T' l') : IStep w x l' (w2.setCell ⟨x.X, 2, none⟩ T'.ptr) ∧ (∃ v, w2.cell? ⟨x.X, 2, none⟩ = some (.pointer v)) ∧ w2.frozen? ⟨x.X, 2, none⟩ = false := by
 have hB := ht.blk h.self h.out
 have hX : x.X ∉ bsT T' := fun hx => by
  rcases hb _ hx with hx | hx
  ·exact h.out hx
  ·have := h.self.lt
   omega
 have hts : Touch [x.X] w2 (w2.setCell ⟨x.X, 2, none⟩ T'.ptr) := (Touch.refl _ w2).setCell _ _ (Or.inl (by simp))
 refine ⟨⟨T', ⟨hB.setCell 2 T'.ptr, hA.touch hts (fun y hy hz => by simp at hz; subst hz; exact hX hy), ok, nd, hX, dep, h.n1, h.n12, h.m1, h.m64, len, tied⟩, (ht.mono (S' := x.own) (fun y hy => Or.inl (by simp [TX.own, hy]))).trans hts (fun y hy => Or.inl (by simp at hy; simp [TX.own, hy])), fun y hy => ?_⟩, ⟨adT x.T, by rw [← ptr_ad]; exact hB.cell rfl⟩, hB.frozen 2⟩
 rcases hb y hy with hy | hy
 ·exact Or.inl (by simp [TX.own, hy])
 ·exact Or.inr hy
def AddV (a : Int × Bool × Int) : Value := .tuple #[.int .i64 a.1, .bool a.2.1, .int .i64 a.2.2]
def TX.add (x : TX) (p : List Bool) (fl : Int) : (Int × Bool × Int) × List (Option (List Int)) :=
 if fl = 2 then ((0, false, 14), x.l) else match freeP x.l with
  | some f => (((f : Int), true, 0), x.l.set f (some (keyP p x.n)))
  | none => ((0, false, 71), x.l)
theorem add_any {w : World} {x : TX} (h : IAt w x) {g : Nat} {p : List Bool} (hB : Blk w g (p.map bitV) 3) (hp : p.length ≤ 8 * x.n) (hg : g ∉ x.own) (hno : atT x.T p = none) (fl : Int) :
  Calls Try.prog 101 #[.pointer (some ⟨x.X, 0, none⟩), .slice (some ⟨g, 0, none⟩) p.length p.length, .int .u64 fl] w fun e w' => e = .returned (AddV (x.add p fl).1) ∧ IStep w x (x.add p fl).2 w' := by
 have hn12 := h.n12
 unfold TX.add AddV
 by_cases h2 : fl = 2
 ·rw [if_pos h2]
  subst h2
  have HF := toHid (IStep.same h (Touch.refl [] w))
  clear h hB hp hg hno
  go_enter Try.func101, Try.ntmps101
  go_wp2
  go_ret3
  exact ⟨rfl, HF.out⟩
 ·rw [if_neg h2]
  have h21 : (fl == 2) = false := by simpa using h2
  have H1 := toHid (free_any h)
  have HH := toHid (And.intro h (And.intro hB (And.intro hp (And.intro hg hno))))
  have hpl : p.length ≤ 1000 := by omega
  cases hf : freeP x.l with
  | none =>
   rw [hf] at H1
   unfold fV Option.getD Option.isSome at H1
   clear h hB hp hg hno h2 hf hpl
   go_enter Try.func101, Try.ntmps101
   go_wp2_with fail
   refine Calls.mono H1.out ?_
   rintro e w2 ⟨rfl, ht2⟩
   have HF := toHid (IStep.same HH.out.1 ht2)
   clear ht2
   go_wp2
   go_ret3
   exact ⟨rfl, HF.out⟩
  | some f =>
   rw [hf] at H1
   unfold fV Option.getD Option.isSome at H1
   have hfl : x.l[f]? = some none := by
    have h9 := hf
    unfold freeP at h9
    rw [List.findIdx?_eq_some_iff_getElem] at h9
    obtain ⟨h9, h10, _⟩ := h9
    rw [List.getElem?_eq_getElem h9]
    cases hv : x.l[f] with
    | none => rfl
    | some y => rw [hv] at h10; cases h10
   have HFL := toHid hfl
   clear h hB hp hg hno h2 hf hfl
   go_enter Try.func101, Try.ntmps101
   go_wp2_with fail
   refine Calls.mono H1.out ?_
   rintro e w2 ⟨rfl, ht2⟩
   have hx2 := HH.out.1.still ht2
   have c2 := hx2.c2
   have hB2 := ht2.blk HH.out.2.1 (by simp)
   have H2 := toHid (with_any f p x.T w2 (some ⟨g, 0, none⟩) hx2.tree hx2.ok hx2.nd (blk_path hB2 hpl) (fun b off e => by injection e with e; injection e with e1; subst e1; exact fun hx => HH.out.2.2.2.1 (by simp [TX.own, hx])))
   rw [ptr_ad] at H2
   have HX2 := toHid (And.intro hx2 ht2)
   clear ht2 hx2 hB2 H1
   go_wp2_with fail
   refine Calls.mono H2.out ?_
   rintro e w3 ⟨T', rfl, hk⟩
   have hr := HX2.out.1.root (l' := x.l.set f (some (keyP p x.n))) hk.touch hk.at_ hk.ok hk.nd hk.blocks (by have := hk.dep; have := HX2.out.1.dep; have := HH.out.2.2.1; omega) (by rw [List.length_set]; exact HX2.out.1.len) (HX2.out.1.tied.put (by omega) HH.out.2.2.1 HH.out.2.2.2.2 HFL.out hk.get)
   obtain ⟨hr1, ⟨v, d1⟩, d2⟩ := hr
   have HF : Hid (IStep w x (x.l.set f (some (keyP p x.n))) (w3.setCell ⟨x.X, 2, none⟩ T'.ptr)) := by
    obtain ⟨T2, q1, q2, q3⟩ := hr1
    exact ⟨T2, q1, (Touch.nil HX2.out.2).trans q2 (fun y hy => Or.inl hy), fun y hy => by
     rcases q3 y hy with h | h
     ·exact Or.inl h
     ·exact Or.inr (by have := HX2.out.2.size; omega)⟩
   rw [ptr_ad] at *
   clear hk hr1 H2 HX2
   generalize adT T' = ta at *
   go_wp2
   go_ret3
   exact ⟨rfl, HF.out⟩
def TX.put (x : TX) (bs : List Int) (fl : Int) : (Int × Bool × Int) × List (Option (List Int)) :=
 if fitsK bs x.n = true then
  if 2 < fl then ((0, false, 72), x.l)
  else match sameP x.l (keyP (pathP bs) x.n) with
   | some i => if fl = 1 then ((0, false, 70), x.l) else (((i : Int), false, 0), x.l)
   | none => x.add (pathP bs) fl
 else ((0, false, 2), x.l)
def IPutPost (w : World) (x : TX) (a : (Int × Bool × Int) × List (Option (List Int))) (e : Ending) (w' : World) : Prop := e = .returned (AddV a.1) ∧ IStep w x a.2 w'
theorem TX.own_new {w w2 : World} {x : TX} (h : IAt w x) {g : Nat} (hg : w.heap.size ≤ g) (_ : Touch [] w w2) : g ∉ x.own := fun hx => by
 have := h.lt g hx
 omega
theorem iput_any {w : World} {x : TX} (h : IAt w x) {sa : Option Addr} {sl : Nat} {bs : List Int} (hk : KeyAt w sa sl bs) (sc : Nat) (hsc : sl ≤ sc) (fl : Int) (f0 : 0 ≤ fl) :
  Calls Try.prog 94 #[.pointer (some ⟨x.X, 0, none⟩), .slice sa sl sc, .int .u64 fl] w (IPutPost w x (x.put bs fl)) := by
 have c0 := h.c0
 unfold TX.put
 cases hf : fitsK bs x.n with
 | false =>
  rw [if_neg (by decide)]
  have H1 := toHid (pathOf_no hk h.n12 sc hsc hf)
  have HF : Hid (IPutPost w x ((0, false, 2), x.l) (.returned (.tuple #[.int .i64 0, .bool false, .int .i64 2])) w) := ⟨rfl, IStep.same h (Touch.refl _ _)⟩
  clear h hk hf
  go_enter Try.func94, Try.ntmps94
  go_wp2_with fail
  refine Calls.mono H1.out ?_
  rintro e w2 ⟨rfl, rfl⟩
  go_wp2
  go_ret3
  exact HF.out
 | true =>
  rw [if_pos rfl]
  have H1 := toHid (pathOf_yes hk h.n12 sc hsc hf)
  have hl := pathP_fits hf
  have HH := toHid (And.intro h hl)
  by_cases h2 : 2 < fl
  ·rw [if_pos h2]
   clear h hk hf hl
   go_enter Try.func94, Try.ntmps94
   go_wp2_with fail
   refine Calls.mono H1.out ?_
   rintro e w2 ⟨g, rfl, hB, hg, hpl, ht2⟩
   have HF : Hid (IPutPost w x ((0, false, 72), x.l) (.returned (.tuple #[.int .i64 0, .bool false, .int .i64 72])) w2) := ⟨rfl, IStep.same HH.out.1 ht2⟩
   clear hB hg hpl ht2 H1
   go_wp2
   go_ret3
   exact HF.out
  ·rw [if_neg h2]
   have hsm := h.tied.same (by have := h.n12; omega) hl
   rw [hsm]
   cases hat : atT x.T (pathP bs) with
   | some s =>
    dsimp only
    by_cases h1 : fl = 1
    ·rw [if_pos h1]
     subst h1
     have HA := toHid (fun w => again_no w s)
     have HAT := toHid hat
     clear hk hf hl hsm hat
     have HF : Hid (∀ w', Touch [] w w' → IPutPost w x ((0, false, 70), x.l) (.returned (AddV (0, false, 70))) w') := fun w' ht => ⟨rfl, IStep.same h ht⟩
     clear h
     go_enter Try.func94, Try.ntmps94
     go_wp2_with fail
     refine Calls.mono H1.out ?_
     rintro e w2 ⟨g, rfl, hB, hg, hpl, ht2⟩
     have hx2 := HH.out.1.still ht2
     have c2 := hx2.c2
     have H2 := toHid (at_any (pathP bs) x.T w2 (some ⟨g, 0, none⟩) hx2.tree hx2.ok (blk_path hB hpl))
     rw [ptr_ad, HAT.out] at H2
     unfold fV Option.getD Option.isSome at H2
     have HT2 := toHid ht2
     clear hB hg hpl ht2 hx2 H1
     go_wp2_with fail
     refine Calls.mono H2.out ?_
     rintro e w3 ⟨rfl, n, rfl⟩
     go_wp2_with fail
     refine Calls.mono (HA.out _) ?_
     rintro e w4 ⟨rfl, rfl⟩
     have HG := toHid (HF.out _ (HT2.out.drewN n))
     unfold AddV at HG
     clear H2 HA HF
     go_wp2
     go_ret3
     exact HG.out
    ·rw [if_neg h1]
     have HA := toHid (fun w => again_yes w s h1)
     clear h1
     have HAT := toHid hat
     clear hk hf hl hsm hat
     have HF : Hid (∀ w', Touch [] w w' → IPutPost w x (((s : Int), false, 0), x.l) (.returned (AddV ((s : Int), false, 0))) w') := fun w' ht => ⟨rfl, IStep.same h ht⟩
     clear h
     go_enter Try.func94, Try.ntmps94
     go_wp2_with fail
     refine Calls.mono H1.out ?_
     rintro e w2 ⟨g, rfl, hB, hg, hpl, ht2⟩
     have hx2 := HH.out.1.still ht2
     have c2 := hx2.c2
     have H2 := toHid (at_any (pathP bs) x.T w2 (some ⟨g, 0, none⟩) hx2.tree hx2.ok (blk_path hB hpl))
     rw [ptr_ad, HAT.out] at H2
     unfold fV Option.getD Option.isSome at H2
     have HT2 := toHid ht2
     clear hB hg hpl ht2 hx2 H1
     go_wp2_with fail
     refine Calls.mono H2.out ?_
     rintro e w3 ⟨rfl, n, rfl⟩
     go_wp2_with fail
     refine Calls.mono (HA.out _) ?_
     rintro e w4 ⟨rfl, rfl⟩
     have HG := toHid (HF.out _ (HT2.out.drewN n))
     unfold AddV at HG
     clear H2 HA HF
     go_wp2
     go_ret3
     exact HG.out
   | none =>
    have HAT := toHid hat
    dsimp only
    have HAD : Hid (∃ ad, x.add (pathP bs) fl = ad) := ⟨_, rfl⟩
    generalize hadd : x.add (pathP bs) fl = ad at *
    have HADD := toHid hadd
    clear h hk hf hl hsm hat hadd HAD
    go_enter Try.func94, Try.ntmps94
    go_wp2_with fail
    refine Calls.mono H1.out ?_
    rintro e w2 ⟨g, rfl, hB, hg, hpl, ht2⟩
    have hx2 := HH.out.1.still ht2
    have c2 := hx2.c2
    have H2 := toHid (at_any (pathP bs) x.T w2 (some ⟨g, 0, none⟩) hx2.tree hx2.ok (blk_path hB hpl))
    rw [ptr_ad, HAT.out] at H2
    unfold fV Option.getD Option.isSome at H2
    have HT2 := toHid ht2
    have H3 : Hid (∀ n, Calls Try.prog 101 #[.pointer (some ⟨x.X, 0, none⟩), .slice (some ⟨g, 0, none⟩) (pathP bs).length (pathP bs).length, .int .u64 fl] (w2.drewN n) fun e w' => e = .returned (AddV (x.add (pathP bs) fl).1) ∧ IStep (w2.drewN n) x (x.add (pathP bs) fl).2 w') :=
     fun n => add_any (hx2.still ((Touch.refl [] w2).drewN n)) (hB.drewN n) HH.out.2 (TX.own_new HH.out.1 hg ht2) HAT.out fl
    rw [HADD.out] at H3
    clear hB hg hpl ht2 hx2 H1
    go_wp2_with fail
    refine Calls.mono H2.out ?_
    rintro e w3 ⟨rfl, n, rfl⟩
    go_wp2_with fail
    refine Calls.mono (H3.out n) ?_
    rintro e w4 ⟨rfl, hS⟩
    have HF : Hid (IPutPost w x ad (.returned (AddV ad.1)) w4) := by
     refine ⟨rfl, ?_⟩
     obtain ⟨T', q1, q2, q3⟩ := hS
     have ht := HT2.out.drewN n
     exact ⟨T', q1, (Touch.nil ht).trans q2 (fun y hy => Or.inl hy), fun y hy => by
      rcases q3 y hy with h | h
      ·exact Or.inl h
      ·exact Or.inr (by have := ht.size; omega)⟩
    unfold AddV at *
    clear hS H2 H3
    go_wp2
    go_ret3
    exact HF.out
end Go.Proofs.Ytmhhahmjkopjhaa.Lpm
end
section
namespace Go.Proofs.Ytmhhahmjkopjhaa.Lpm
open Go.RowKit Go.Deep
def TX.del (x : TX) (bs : List Int) : (Int × Int) × List (Option (List Int)) :=
 if fitsK bs x.n = true then match sameP x.l (keyP (pathP bs) x.n) with
  | some i => (((i : Int), 0), x.l.set i none)
  | none => ((0, 14), x.l)
 else ((0, 2), x.l)
def DelV (a : Int × Int) : Value := .tuple #[.int .i64 a.1, .int .i64 a.2]
def IDelPost (w : World) (x : TX) (a : (Int × Int) × List (Option (List Int))) (e : Ending) (w' : World) : Prop := e = .returned (DelV a.1) ∧ IStep w x a.2 w'
theorem idel_any {w : World} {x : TX} (h : IAt w x) {sa : Option Addr} {sl : Nat} {bs : List Int} (hk : KeyAt w sa sl bs) (sc : Nat) (hsc : sl ≤ sc) :
  Calls Try.prog 91 #[.pointer (some ⟨x.X, 0, none⟩), .slice sa sl sc] w (IDelPost w x (x.del bs)) := by
 have c0 := h.c0
 unfold TX.del
 cases hf : fitsK bs x.n with
 | false =>
  rw [if_neg (by decide)]
  have H1 := toHid (pathOf_no hk h.n12 sc hsc hf)
  have HF : Hid (IDelPost w x ((0, 2), x.l) (.returned (.tuple #[.int .i64 0, .int .i64 2])) w) := ⟨rfl, IStep.same h (Touch.refl _ _)⟩
  clear h hk hf
  go_enter Try.func91, Try.ntmps91
  go_wp2_with fail
  refine Calls.mono H1.out ?_
  rintro e w2 ⟨rfl, rfl⟩
  go_wp2
  go_ret2
  exact HF.out
 | true =>
  rw [if_pos rfl]
  have H1 := toHid (pathOf_yes hk h.n12 sc hsc hf)
  have hl := pathP_fits hf
  have HH := toHid (And.intro h hl)
  have hsm := h.tied.same (by have := h.n12; omega) hl
  rw [hsm]
  cases hat : atT x.T (pathP bs) with
  | none =>
   dsimp only
   have HAT := toHid hat
   clear h hk hf hl hsm hat
   go_enter Try.func91, Try.ntmps91
   go_wp2_with fail
   refine Calls.mono H1.out ?_
   rintro e w2 ⟨g, rfl, hB, hg, hpl, ht2⟩
   have hx2 := HH.out.1.still ht2
   have c2 := hx2.c2
   have H2 := toHid (at_any (pathP bs) x.T w2 (some ⟨g, 0, none⟩) hx2.tree hx2.ok (blk_path hB hpl))
   rw [ptr_ad, HAT.out] at H2
   unfold fV Option.getD Option.isSome at H2
   have HT2 := toHid ht2
   clear hB hg hpl ht2 hx2 H1
   go_wp2_with fail
   refine Calls.mono H2.out ?_
   rintro e w3 ⟨rfl, n, rfl⟩
   have HF : Hid (IDelPost w x ((0, 14), x.l) (.returned (.tuple #[.int .i64 0, .int .i64 14])) (w2.drewN n)) := ⟨rfl, IStep.same HH.out.1 (HT2.out.drewN n)⟩
   clear H2 c2
   go_wp2
   go_ret2
   exact HF.out
  | some s =>
   dsimp only
   have HAT := toHid hat
   clear h hk hf hl hsm hat
   go_enter Try.func91, Try.ntmps91
   go_wp2_with fail
   refine Calls.mono H1.out ?_
   rintro e w2 ⟨g, rfl, hB, hg, hpl, ht2⟩
   have hx2 := HH.out.1.still ht2
   have c2 := hx2.c2
   have H2 := toHid (at_any (pathP bs) x.T w2 (some ⟨g, 0, none⟩) hx2.tree hx2.ok (blk_path hB hpl))
   rw [ptr_ad, HAT.out] at H2
   unfold fV Option.getD Option.isSome at H2
   have HT2 := toHid (And.intro ht2 (And.intro hB (And.intro hg hpl)))
   clear hB hg hpl ht2 hx2 H1
   go_wp2_with fail
   refine Calls.mono H2.out ?_
   rintro e w3 ⟨rfl, n, rfl⟩
   have ht3 := HT2.out.1.drewN n
   have hB3 := HT2.out.2.1.drewN n
   generalize w2.drewN n = w4 at *
   have hx4 := HH.out.1.still ht3
   have d2 := hx4.c2
   have H3 := toHid (without_any (pathP bs) x.T w4 (some ⟨g, 0, none⟩) hx4.tree hx4.ok hx4.nd (blk_path hB3 HT2.out.2.2.2) (fun b off e => by injection e with e; injection e with e1; subst e1; exact fun hx => TX.own_new HH.out.1 HT2.out.2.2.1 HT2.out.1 (by simp [TX.own, hx])) ⟨s, HAT.out⟩)
   rw [ptr_ad] at H3
   have HX4 := toHid (And.intro hx4 ht3)
   clear hx4 ht3 hB3 H2 c2
   go_wp2_with fail
   refine Calls.mono H3.out ?_
   rintro e w5 ⟨T', rfl, hk⟩
   have hr := HX4.out.1.root (l' := x.l.set s none) hk.touch hk.at_ hk.ok hk.nd (fun b hb => Or.inl (hk.blocks b hb)) (by have := hk.dep; have := HX4.out.1.dep; omega) (by rw [List.length_set]; exact HX4.out.1.len) (HX4.out.1.tied.del (by have := HX4.out.1.n12; omega) HAT.out hk.get)
   obtain ⟨hr1, ⟨v, e1⟩, e2⟩ := hr
   have HF : Hid (IDelPost w x (((s : Int), 0), x.l.set s none) (.returned (.tuple #[.int .i64 (s : Int), .int .i64 0])) (w5.setCell ⟨x.X, 2, none⟩ T'.ptr)) := by
    obtain ⟨T2, q1, q2, q3⟩ := hr1
    exact ⟨rfl, T2, q1, (Touch.nil HX4.out.2).trans q2 (fun y hy => Or.inl hy), fun y hy => by
     rcases q3 y hy with h | h
     ·exact Or.inl h
     ·exact Or.inr (by have := HX4.out.2.size; omega)⟩
   rw [ptr_ad] at *
   clear hk hr1 H3 HX4 d2
   generalize adT T' = ta at *
   go_wp2
   go_ret2
   exact HF.out
def INewPost (w : World) (n m : Nat) (e : Ending) (w' : World) : Prop := ∃ X, e = .returned (.tuple #[.pointer (some ⟨X, 0, none⟩), .int .i64 0]) ∧ IAt w' ⟨X, n, m, .nil, List.replicate m none⟩ ∧ w.heap.size ≤ X ∧ Touch [] w w'
theorem inew_any (w : World) (n m : Nat) (s1 : 1 ≤ n) (s2 : n ≤ 12) (h1 : 1 ≤ m) (h2 : m ≤ 64) : Calls Try.prog 25 #[.int .i64 ((n : Int) + 4), .int .i64 (m : Int)] w (INewPost w n m) := by
 have b2 := Blk.newA w #[.int .i64 (n : Int), .int .i64 (m : Int), .pointer none] _ 105 rfl
 have HF : Hid (INewPost w n m (.returned (.tuple #[.pointer (some ⟨w.heap.size, 0, none⟩), .int .i64 0])) (w.alloc (.cells #[.int .i64 (n : Int), .int .i64 (m : Int), .pointer none] 105))) :=
  ⟨_, rfl, ⟨b2, trivial, trivial, List.nodup_nil, by simp [bsT], by simp [depT], s1, s2, h1, h2, by simp, TiedT.start n m⟩, Nat.le_refl _, (Touch.refl [] w).alloc _⟩
 clear b2
 go_enter Try.func25, Try.ntmps25
 go_wp2
 go_ret2
 exact HF.out
theorem inew_bad (w : World) (size m : Int) (h1 : ¬ (1 ≤ m ∧ m ≤ 64 ∧ 5 ≤ size ∧ size ≤ 16)) : Calls Try.prog 25 #[.int .i64 size, .int .i64 m] w fun e w' => e = .returned (.tuple #[.pointer none, .int .i64 2]) ∧ w' = w := by
 by_cases a3 : size ≤ 4
 ·clear h1
  go_enter Try.func25, Try.ntmps25
  go_wp2
  go_ret2
  exact ⟨rfl, rfl⟩
 ·by_cases a4 : 16 < size
  ·clear h1
   go_enter Try.func25, Try.ntmps25
   go_wp2
   go_ret2
   exact ⟨rfl, rfl⟩
  ·by_cases a1 : m < 1
   ·clear h1
    go_enter Try.func25, Try.ntmps25
    go_wp2
    go_ret2
    exact ⟨rfl, rfl⟩
   ·have a2 : 64 < m := by omega
    clear h1
    go_enter Try.func25, Try.ntmps25
    go_wp2
    go_ret2
    exact ⟨rfl, rfl⟩
def ICopyPost (w : World) (x : TX) (e : Ending) (w' : World) : Prop := ∃ C : Nat, ∃ T' : Tr, e = .returned (.pointer (some ⟨C, 0, none⟩)) ∧ IAt w' ⟨C, x.n, x.m, T', x.l⟩ ∧ (∀ y ∈ (⟨C, x.n, x.m, T', x.l⟩ : TX).own, w.heap.size ≤ y) ∧ Touch [] w w'
end Go.Proofs.Ytmhhahmjkopjhaa.Lpm
end
section
namespace Go.Proofs.Ytmhhahmjkopjhaa.Lpm
open Go.RowKit Go.Deep
def keysP (l : List (Option (List Int))) : List (List Int) := l.filterMap id
end Go.Proofs.Ytmhhahmjkopjhaa.Lpm
end
section
namespace Go.Proofs.Ytmhhahmjkopjhaa
open Go.RowKit
def KIs (w : World) (X : Nat) (bl : List Nat) (q : PX) : Prop :=
 (q.kind = 0 ∧ bl = [X] ∧ q.size = 4 ∧ ∃ m, Arr.IdxAt w X m ∧ q.slots = (allKeys m).map some) ∨
 (q.kind = 1 ∧ ∃ b n : Nat, q.size = n ∧ bl = [X, b] ∧ HAt w ⟨X, b, n, q.slots⟩) ∨
 (q.kind = 2 ∧ ∃ x : LX, q.size = x.size ∧ bl = x.own ∧ x.X = X ∧ x.l = q.slots ∧ LAt w x ∧ Tied x.l x.ord q) ∨
 (q.kind = 3 ∧ ∃ x : Lpm.TX, q.size = (x.n : Int) + 4 ∧ bl = x.own ∧ x.X = X ∧ x.l = q.slots ∧ Lpm.IAt w x)
structure KAt (w : World) (X : Nat) (bl : List Nat) (q : PX) : Prop where
 good : PGood q
 is : KIs w X bl q
theorem KAt.touch {S : List Nat} {w w' : World} {X : Nat} {bl : List Nat} {q : PX} (h : KAt w X bl q) (ht : Touch S w w') (hS : ∀ b ∈ bl, b ∉ S) : KAt w' X bl q := by
 refine ⟨h.good, ?_⟩
 rcases h.is with ⟨a1, rfl, a3, m, a4, a5⟩ | ⟨a1, b, n, a2, rfl, a4⟩ | ⟨a1, x, a2, rfl, a4, a5, a6, a7⟩ | ⟨a1, x, a2, rfl, a4, a5, a6⟩
 ·exact Or.inl ⟨a1, rfl, a3, m, a4.touch ht (hS _ (by simp)), a5⟩
 ·exact Or.inr (Or.inl ⟨a1, b, n, a2, rfl, a4.touch ht (hS _ (by simp)) (hS _ (by simp))⟩)
 ·exact Or.inr (Or.inr (Or.inl ⟨a1, x, a2, rfl, a4, a5, a6.touch ht hS, a7⟩))
 ·exact Or.inr (Or.inr (Or.inr ⟨a1, x, a2, rfl, a4, a5, a6.touch ht hS⟩))
theorem KAt.still {w w' : World} {X : Nat} {bl : List Nat} {q : PX} (h : KAt w X bl q) (ht : Touch [] w w') : KAt w' X bl q := h.touch ht (by simp)
theorem KAt.lt {w : World} {X : Nat} {bl : List Nat} {q : PX} (h : KAt w X bl q) : ∀ b ∈ bl, b < w.heap.size := by
 rcases h.is with ⟨a1, rfl, a3, m, a4, a5⟩ | ⟨a1, b, n, a2, rfl, a4⟩ | ⟨a1, x, a2, rfl, a4, a5, a6, a7⟩ | ⟨a1, x, a2, rfl, a4, a5, a6⟩
 ·intro y hy
  simp at hy
  rw [hy]
  exact a4.1.lt
 ·intro y hy
  simp at hy
  rcases hy with rfl | rfl
  ·exact a4.lt.1
  ·exact a4.lt.2
 ·exact a6.lt
 ·exact a6.lt
def KStep (w w' : World) (X : Nat) (bl : List Nat) (q : PX) : Prop := ∃ bl', KAt w' X bl' q ∧ Touch bl w w' ∧ ∀ b ∈ bl', b ∈ bl ∨ w.heap.size ≤ b
theorem KeyAt.over {w w' : World} {S : List Nat} {sa : Option Addr} {sl : Nat} {bs : List Int} (h : KeyAt w sa sl bs) (ht : Touch S w w') (hS : ∀ b off, sa = some ⟨b, off, none⟩ → 1 ≤ bs.length → b ∉ S) : KeyAt w' sa sl bs := by
 obtain ⟨h1, h2, h3, h4⟩ := h
 refine ⟨h1, h2, h3, fun hp => ?_⟩
 obtain ⟨b, off, ha, hb⟩ := h4 hp
 exact ⟨b, off, ha, fun j hj => ht.cell (hb j hj) (hS b off ha hp)⟩
theorem num_le4 (n : Int) (h0 : 0 ≤ n) (h1 : n ≤ 4294967295) : keyNum (le4 n) = n := by
 show 0 + byteOf n 0 * 1 + byteOf n 1 * 256 + byteOf n 2 * 65536 + byteOf n 3 * 16777216 = n
 show 0 + n / 1 % 256 * 1 + n / 256 % 256 * 256 + n / 65536 % 256 * 65536 + n / 16777216 % 256 * 16777216 = n
 omega
theorem le4_numA {bs : List Int} (h : ∀ x ∈ bs, 0 ≤ x ∧ x ≤ 255) (h4 : bs.length = 4) : le4 (keyNum bs) = bs := by
 match bs, h4 with
 | [a, b, c, d], _ =>
  have ha := h a (by simp)
  have hb := h b (by simp)
  have hc := h c (by simp)
  have hd := h d (by simp)
  have hn : keyNum [a, b, c, d] = 0 + a * 1 + b * 256 + c * 65536 + d * 16777216 := rfl
  rw [le4_eq, hn]
  show [(0 + a * 1 + b * 256 + c * 65536 + d * 16777216) / 1 % 256, (0 + a * 1 + b * 256 + c * 65536 + d * 16777216) / 256 % 256, (0 + a * 1 + b * 256 + c * 65536 + d * 16777216) / 65536 % 256, (0 + a * 1 + b * 256 + c * 65536 + d * 16777216) / 16777216 % 256] = [a, b, c, d]
  simp only [List.cons.injEq, and_true]
  omega
theorem sameP_get {l : List (Option (List Int))} {bs : List Int} {i : Nat} (h : sameP l bs = some i) : l[i]? = some (some bs) := by
 unfold sameP at h
 rw [List.findIdx?_eq_some_iff_getElem] at h
 obtain ⟨hi, h1, _⟩ := h
 rw [List.getElem?_eq_getElem hi]
 simpa using h1
theorem sameP_all {m : Nat} (hm : m ≤ 64) {bs : List Int} (h : ∀ x ∈ bs, 0 ≤ x ∧ x ≤ 255) (h4 : bs.length = 4) (h0 : 0 ≤ keyNum bs) : sameP ((allKeys m).map some) bs = if keyNum bs < m then some (keyNum bs).toNat else none := by
 have hget : ∀ j : Nat, j < m → ((allKeys m).map some)[j]? = some (some (le4 (j : Int))) := fun j hj => by
  rw [allKeys, List.map_map, List.getElem?_map, List.getElem?_range hj]
  rfl
 have hlen : ((allKeys m).map some).length = m := by simp [allKeys]
 cases hs : sameP ((allKeys m).map some) bs with
 | some i =>
  have h1 := sameP_get hs
  have hi : i < m := by
   have := (List.getElem?_eq_some_iff.1 h1).1
   omega
  rw [hget i hi] at h1
  injection h1 with h1
  injection h1 with h1
  have h2 : keyNum bs = i := by rw [← h1, num_le4 _ (by omega) (by omega)]
  rw [if_pos (by omega)]
  congr 1
  omega
 | none =>
  by_cases hk : keyNum bs < m
  ·exfalso
   unfold sameP at hs
   rw [List.findIdx?_eq_none_iff] at hs
   have h1 := hget (keyNum bs).toNat (by omega)
   have h2 := hs _ (List.mem_of_getElem? h1)
   rw [show (((keyNum bs).toNat : Nat) : Int) = keyNum bs by omega, le4_numA h h4] at h2
   simp at h2
  ·rw [if_neg hk]
def findF (k : Int) : Nat := if k = 0 then 67 else if k = 1 then 73 else if k = 2 then 81 else 92
def putF (k : Int) : Nat := if k = 0 then 69 else if k = 1 then 75 else if k = 2 then 83 else 94
def delF (k : Int) : Nat := if k = 0 then 66 else if k = 1 then 72 else if k = 2 then 80 else 91
def typF (k : Int) : Nat := if k = 0 then 69 else if k = 1 then 72 else if k = 2 then 75 else 78
theorem pfind_ne {q : PX} (hk : ¬ q.kind = 3) (bs : List Int) : q.findA bs = q.find bs := by unfold PX.findA; rw [if_neg hk]
theorem pput_ne {q : PX} (hk : ¬ q.kind = 3) (bs : List Int) (fl : Int) : q.putA bs fl = q.put bs fl := by unfold PX.putA; rw [if_neg hk]
theorem pdel_ne {q : PX} (hk : ¬ q.kind = 3) (bs : List Int) : q.delA bs = q.del bs := by unfold PX.delA; rw [if_neg hk]
theorem pfind_slots (q : PX) (bs : List Int) : (q.findA bs).2.slots = q.slots := by
 unfold PX.findA PX.find3 PX.find
 repeat' split
 all_goals rfl
def KFindPost (w : World) (X : Nat) (bl : List Nat) (a : Option Nat × PX) (e : Ending) (w' : World) : Prop := e = .returned (foundV a.1) ∧ KStep w w' X bl a.2
theorem fV_found (o : Option Nat) : Lpm.fV o = foundV o := by cases o <;> rfl
theorem pfits {q : PX} {n : Nat} (h : q.size = (n : Int) + 4) (bs : List Int) : q.fits3 bs = Lpm.fitsK bs n := by
 unfold PX.fits3 Lpm.fitsK
 rw [h]
 congr 1
 ·by_cases e : bs.length = n + 4
  ·rw [decide_eq_true e, decide_eq_true (by omega)]
  ·rw [decide_eq_false e, decide_eq_false (by omega)]
 ·by_cases e : keyNum bs ≤ 8 * (n : Int)
  ·rw [decide_eq_true e, decide_eq_true (by omega)]
  ·rw [decide_eq_false e, decide_eq_false (by omega)]
theorem kfind_any {w : World} {X : Nat} {bl : List Nat} {q : PX} (h : KAt w X bl q) {sa : Option Addr} {sl : Nat} {bs : List Int} (hk : KeyAt w sa sl bs) (sc : Nat) (hsc : sl ≤ sc) :
  Calls Try.prog (findF q.kind) #[.pointer (some ⟨X, 0, none⟩), .slice sa sl sc] w (KFindPost w X bl (q.findA bs)) := by
 have hg := h.good.findA bs
 have hsl := pfind_slots q bs
 have hk1 := hg.2.kind
 have hk2 := hg.2.size
 rcases h.is with ⟨a1, rfl, a3, m, a4, a5⟩ | ⟨a1, b, n, a2, rfl, a4⟩ | ⟨a1, x, a2, rfl, rfl, a5, a6, a7⟩ | ⟨a1, x, a2, rfl, rfl, a5, a6⟩
 ·rw [show findF q.kind = 67 by rw [a1]; rfl]
  refine (Arr.find_any a4 hk sc).mono fun e w' ⟨he, hw⟩ => ?_
  subst hw
  refine ⟨?_, [X], ⟨hg.1, Or.inl ⟨by rw [hk1, a1], rfl, by rw [hk2, a3], m, a4, by rw [hsl, a5]⟩⟩, Touch.refl _ _, fun b hb => Or.inl hb⟩
  rw [he, pfind_ne (by rw [a1]; decide)]
  congr 1
  unfold PX.find Arr.findI
  rw [a3, a5]
  by_cases h4 : bs.length = 4
  ·rw [if_pos h4, if_pos (show ((bs.length : Nat) : Int) = 4 by omega), sameP_all a4.2.2 hk.2.1 h4 hk.num4.1]
   unfold Arr.slotI
   have h0 := hk.num4.1
   by_cases hlt : keyNum bs < m
   ·rw [if_pos hlt, if_pos hlt]
    show Value.tuple #[.int .i64 (keyNum bs), .bool true] = .tuple #[.int .i64 (((keyNum bs).toNat : Nat) : Int), .bool true]
    rw [Int.toNat_of_nonneg h0]
   ·rw [if_neg hlt, if_neg hlt]
    rfl
  ·rw [if_neg h4, if_neg (show ¬ ((bs.length : Nat) : Int) = 4 by omega)]
   rfl
 ·rw [show findF q.kind = 73 by rw [a1]; rfl]
  refine (find_any a4 hk sc).mono fun e w' ⟨he, ht⟩ => ?_
  refine ⟨?_, [X, b], ⟨hg.1, Or.inr (Or.inl ⟨by rw [hk1, a1], b, n, by rw [hk2, a2], rfl, by rw [hsl]; exact a4.touch ht (by simp) (by simp)⟩)⟩, ht.mono (by simp), fun b hb => Or.inl hb⟩
  rw [he, pfind_ne (by rw [a1]; decide)]
  unfold PX.find HX.find
  by_cases e1 : bs.length = n
  ·rw [if_pos e1, if_pos (by rw [a2, e1])]
  ·rw [if_neg e1, if_neg (by rw [a2]; omega)]
 ·rw [show findF q.kind = 81 by rw [a1]; rfl]
  obtain ⟨t1, t2, _⟩ := a7.find a2 bs
  refine (lfind_any a6 a7.ok hk sc).mono fun e w' ⟨he, hs⟩ => ?_
  obtain ⟨g, cap, hA, ht, hb⟩ := hs
  refine ⟨?_, ({ x with g := g, cap := cap, ord := (x.find bs).2 } : LX).own, ⟨hg.1, Or.inr (Or.inr (Or.inl ⟨by rw [hk1, a1], _, by rw [hk2, a2], rfl, rfl, by rw [hsl]; exact a5, hA, by rw [pfind_ne (by rw [a1]; decide)]; exact t2⟩))⟩, ht, fun b hx => ?_⟩
  ·rw [he, pfind_ne (by rw [a1]; decide), t1]
  ·simp only [LX.own, List.mem_cons, Option.mem_toList] at hx ⊢
   rcases hx with rfl | rfl | hx
   ·exact Or.inl (Or.inl rfl)
   ·exact Or.inl (Or.inr (Or.inl rfl))
   ·have := hb b hx
    simpa [LX.own] using this
 ·rw [show findF q.kind = 92 by rw [a1]; rfl]
  refine (Lpm.ifind_any a6 hk sc hsc).mono fun e w' ⟨he, ht⟩ => ?_
  refine ⟨?_, x.own, ⟨hg.1, Or.inr (Or.inr (Or.inr ⟨by rw [hk1, a1], x, by rw [hk2, a2], rfl, rfl, by rw [hsl]; exact a5, a6.still ht⟩))⟩, ht.mono (by simp), fun b hb => Or.inl hb⟩
  rw [he, fV_found]
  congr 2
  unfold PX.findA
  rw [if_pos a1]
  unfold PX.find3 Lpm.TX.find
  rw [pfits a2, a5]
  split <;> rfl
end Go.Proofs.Ytmhhahmjkopjhaa
end
section
namespace Go.Proofs.Ytmhhahmjkopjhaa
open Go.RowKit
def KPutPost (w : World) (X : Nat) (bl : List Nat) (a : (Int × Bool × Int) × PX) (e : Ending) (w' : World) : Prop := e = .returned (.tuple #[.int .i64 a.1.1, .bool a.1.2.1, .int .i64 a.1.2.2]) ∧ KStep w w' X bl a.2
def KDelPost (w : World) (X : Nat) (bl : List Nat) (a : (Int × Int) × PX) (e : Ending) (w' : World) : Prop := e = .returned (.tuple #[.int .i64 a.1.1, .int .i64 a.1.2]) ∧ KStep w w' X bl a.2
theorem put0_slots {q : PX} (a1 : q.kind = 0) (bs : List Int) (fl : Int) : (q.put bs fl).2.slots = q.slots := by
 unfold PX.put
 split
 ·split
  ·rfl
  ·cases sameP q.slots bs with
   | some i =>
    dsimp only
    split <;> rfl
   | none => simp only []
 ·rfl
theorem put1_tie {x : HX} {q : PX} (hkd : q.kind = 1) (hs : q.size = x.size) (hk : q.slots = x.l) (bs : List Int) (fl : Int) : (q.put bs fl).1 = (x.put bs fl).1 ∧ (q.put bs fl).2.slots = (x.put bs fl).2 := by
 unfold PX.put HX.put
 by_cases e : bs.length = x.size
 ·rw [if_pos e, if_pos (by rw [hs, e])]
  by_cases h2 : 2 < fl
  ·rw [if_pos h2, if_pos h2]
   exact ⟨rfl, hk⟩
  ·rw [if_neg h2, if_neg h2, hk]
   cases hsm : sameP x.l bs with
   | some i =>
    by_cases h1 : fl = 1
    ·simp only [if_pos h1]
     exact ⟨by trivial, hk⟩
    ·simp only [if_neg h1]
     exact ⟨by trivial, hk⟩
   | none =>
    have hk0 : ¬ q.kind = 0 := by rw [hkd]; decide
    have hk2 : ¬ q.kind = 2 := by rw [hkd]; decide
    simp only [if_neg hk0]
    by_cases h1 : fl = 2
    ·simp only [if_pos h1]
     exact ⟨by trivial, hk⟩
    ·simp only [if_neg h1]
     unfold PX.room
     rw [hk]
     cases hf : freeP x.l with
     | none =>
      simp only [if_neg hk2]
      exact ⟨by trivial, hk⟩
     | some f =>
      refine ⟨rfl, ?_⟩
      show q.slots.set f (some bs) = _
      rw [hk]
 ·rw [if_neg e, if_neg (by rw [hs]; omega)]
  exact ⟨rfl, hk⟩
theorem del1_tie {x : HX} {q : PX} (hkd : q.kind = 1) (hs : q.size = x.size) (hk : q.slots = x.l) (bs : List Int) : (q.del bs).1 = (x.del bs).1 ∧ (q.del bs).2.slots = (x.del bs).2 := by
 unfold PX.del HX.del
 rw [if_neg (show ¬ q.kind = 0 by rw [hkd]; decide)]
 by_cases e : bs.length = x.size
 ·rw [if_pos e, if_pos (by rw [hs, e]), hk]
  cases hsm : sameP x.l bs with
  | none => exact ⟨rfl, hk⟩
  | some i => exact ⟨rfl, rfl⟩
 ·rw [if_neg e, if_neg (by rw [hs]; omega)]
  exact ⟨rfl, hk⟩
theorem put3_tie {x : Lpm.TX} {q : PX} (hs : q.size = (x.n : Int) + 4) (hk : q.slots = x.l) {bs : List Int} (hb : ∀ y ∈ bs, 0 ≤ y ∧ y ≤ 255) (fl : Int) : (q.put3 bs fl).1 = (x.put bs fl).1 ∧ (q.put3 bs fl).2.slots = (x.put bs fl).2 := by
 have hf := pfits hs bs
 unfold PX.put3 Lpm.TX.put Lpm.TX.add
 rw [hf, hk]
 cases hfk : Lpm.fitsK bs x.n with
 | false => exact ⟨rfl, hk⟩
 | true =>
  have hl := (Lpm.fitsK_len hfk).1
  have hc := Lpm.cutP_key (by omega) hb
  rw [hl, Nat.add_sub_cancel] at hc
  rw [if_pos rfl, if_pos rfl, hc]
  split
  ·exact ⟨rfl, hk⟩
  ·cases sameP x.l (Lpm.keyP (Lpm.pathP bs) x.n) with
   | some i =>
    dsimp only
    split
    ·exact ⟨rfl, hk⟩
    ·exact ⟨rfl, hk⟩
   | none =>
    dsimp only
    split
    ·exact ⟨rfl, hk⟩
    ·cases freeP x.l with
     | none => exact ⟨rfl, hk⟩
     | some f =>
      refine ⟨rfl, ?_⟩
      show q.slots.set f _ = _
      rw [hk]
theorem del3_tie {x : Lpm.TX} {q : PX} (hs : q.size = (x.n : Int) + 4) (hk : q.slots = x.l) {bs : List Int} (hb : ∀ y ∈ bs, 0 ≤ y ∧ y ≤ 255) : (q.del3 bs).1 = (x.del bs).1 ∧ (q.del3 bs).2.slots = (x.del bs).2 := by
 have hf := pfits hs bs
 unfold PX.del3 Lpm.TX.del
 rw [hf, hk]
 cases hfk : Lpm.fitsK bs x.n with
 | false => exact ⟨rfl, hk⟩
 | true =>
  have hl := (Lpm.fitsK_len hfk).1
  have hc := Lpm.cutP_key (by omega) hb
  rw [hl, Nat.add_sub_cancel] at hc
  rw [if_pos rfl, if_pos rfl, hc]
  cases sameP x.l (Lpm.keyP (Lpm.pathP bs) x.n) with
  | some i => exact ⟨rfl, rfl⟩
  | none => exact ⟨rfl, hk⟩
theorem kput_any {w : World} {X : Nat} {bl : List Nat} {q : PX} (h : KAt w X bl q) {sa : Option Addr} {sl : Nat} {bs : List Int} (hk : KeyAt w sa sl bs) (hout : ∀ b off, sa = some ⟨b, off, none⟩ → 1 ≤ bs.length → b ∉ bl) (sc : Nat) (hsc : sl ≤ sc) (fl : Int) (f0 : 0 ≤ fl) :
  Calls Try.prog (putF q.kind) #[.pointer (some ⟨X, 0, none⟩), .slice sa sl sc, .int .u64 fl] w (KPutPost w X bl (q.putA bs fl)) := by
 have hg := h.good.putA bs fl
 have hk1 := hg.2.kind
 have hk2 := hg.2.size
 rcases h.is with ⟨a1, rfl, a3, m, a4, a5⟩ | ⟨a1, b, n, a2, rfl, a4⟩ | ⟨a1, x, a2, rfl, rfl, a5, a6, a7⟩ | ⟨a1, x, a2, rfl, rfl, a5, a6⟩
 ·rw [show putF q.kind = 69 by rw [a1]; rfl]
  refine (Arr.put_any a4 hk sc fl f0).mono fun e w' ⟨he, hw⟩ => ?_
  subst hw
  rw [pput_ne (by rw [a1]; decide)] at *
  have hsl := put0_slots a1 bs fl
  refine ⟨?_, [X], ⟨hg.1, Or.inl ⟨by rw [hk1, a1], rfl, by rw [hk2, a3], m, a4, by rw [hsl, a5]⟩⟩, Touch.refl _ _, fun b hb => Or.inl hb⟩
  have hv : (q.put bs fl).1 = ((Arr.putI m bs fl).1, false, (Arr.putI m bs fl).2) := by
   unfold PX.put Arr.putI
   rw [a3]
   by_cases h4 : bs.length = 4
   ·rw [if_pos h4, if_pos (show ((bs.length : Nat) : Int) = 4 by omega), a5, sameP_all a4.2.2 hk.2.1 h4 hk.num4.1]
    by_cases h2 : 2 < fl
    ·rw [if_pos h2, if_pos h2]
    ·rw [if_neg h2, if_neg h2]
     have h0 := hk.num4.1
     by_cases hlt : keyNum bs < m
     ·simp only [if_pos hlt]
      by_cases h1 : fl = 1
      ·simp only [if_pos h1]
      ·simp only [if_neg h1]
       rw [Int.toNat_of_nonneg h0]
     ·simp only [if_neg hlt, if_pos a1]
   ·rw [if_neg h4, if_neg (show ¬ ((bs.length : Nat) : Int) = 4 by omega)]
  rw [he, hv]
 ·rw [show putF q.kind = 75 by rw [a1]; rfl]
  refine (put_any a4 hk sc fl f0).mono fun e w' ⟨he, hA, ht⟩ => ?_
  rw [pput_ne (by rw [a1]; decide)] at *
  obtain ⟨t1, t2⟩ := put1_tie (x := ⟨X, b, n, q.slots⟩) a1 a2 rfl bs fl
  refine ⟨by rw [he, t1], [X, b], ⟨hg.1, Or.inr (Or.inl ⟨by rw [hk1, a1], b, n, by rw [hk2, a2], rfl, by rw [t2]; exact hA⟩)⟩, ht.mono (fun y hy => Or.inl (List.mem_cons_of_mem _ hy)), fun b hb => Or.inl hb⟩
 ·rw [show putF q.kind = 83 by rw [a1]; rfl]
  obtain ⟨t1, t2, _⟩ := a7.put a2 a6.m1 bs fl
  refine (lput_any a6 a7.ok (fun w' ht => hk.over ht hout) sc fl f0).mono fun e w' ⟨he, hs⟩ => ?_
  rw [pput_ne (by rw [a1]; decide)] at *
  obtain ⟨g, cap, hA, ht, hb⟩ := hs
  refine ⟨by rw [he, t1], ({ x with l := (x.put bs fl).2.1, g := g, cap := cap, ord := (x.put bs fl).2.2 } : LX).own, ⟨hg.1, Or.inr (Or.inr (Or.inl ⟨by rw [hk1, a1], _, by rw [hk2, a2], rfl, rfl, t2.slots.symm, hA, t2⟩))⟩, ht, fun b hx => ?_⟩
  simp only [LX.own, List.mem_cons, Option.mem_toList] at hx ⊢
  rcases hx with rfl | rfl | hx
  ·exact Or.inl (Or.inl rfl)
  ·exact Or.inl (Or.inr (Or.inl rfl))
  ·have := hb b hx
   simpa [LX.own] using this
 ·rw [show putF q.kind = 94 by rw [a1]; rfl]
  refine (Lpm.iput_any a6 hk sc hsc fl f0).mono fun e w' ⟨he, hs⟩ => ?_
  rw [show q.putA bs fl = q.put3 bs fl by unfold PX.putA; rw [if_pos a1]] at *
  obtain ⟨t1, t2⟩ := put3_tie a2 a5.symm hk.2.1 fl
  obtain ⟨T', hA, ht, hb⟩ := hs
  refine ⟨by rw [he, t1]; rfl, ({ x with T := T', l := (x.put bs fl).2 } : Lpm.TX).own, ⟨hg.1, Or.inr (Or.inr (Or.inr ⟨by rw [hk1, a1], _, by rw [hk2, a2], rfl, rfl, t2.symm, hA⟩))⟩, ht, fun b hx => ?_⟩
  simp only [Lpm.TX.own, List.mem_cons] at hx
  rcases hx with rfl | hx
  ·exact Or.inl (by simp [Lpm.TX.own])
  ·exact hb b hx
theorem kdel_any {w : World} {X : Nat} {bl : List Nat} {q : PX} (h : KAt w X bl q) {sa : Option Addr} {sl : Nat} {bs : List Int} (hk : KeyAt w sa sl bs) (sc : Nat) (hsc : sl ≤ sc) :
  Calls Try.prog (delF q.kind) #[.pointer (some ⟨X, 0, none⟩), .slice sa sl sc] w (KDelPost w X bl (q.delA bs)) := by
 have hg := h.good.delA bs
 have hk1 := hg.2.kind
 have hk2 := hg.2.size
 rcases h.is with ⟨a1, rfl, a3, m, a4, a5⟩ | ⟨a1, b, n, a2, rfl, a4⟩ | ⟨a1, x, a2, rfl, rfl, a5, a6, a7⟩ | ⟨a1, x, a2, rfl, rfl, a5, a6⟩
 ·rw [show delF q.kind = 66 by rw [a1]; rfl]
  refine (Arr.del_any w X sa sl sc).mono fun e w' ⟨he, hw⟩ => ?_
  subst hw
  have hd : q.delA bs = ((0, 2), q) := by
   rw [pdel_ne (by rw [a1]; decide)]
   unfold PX.del
   rw [if_pos a1]
  rw [hd]
  exact ⟨he, [X], h, Touch.refl _ _, fun b hb => Or.inl hb⟩
 ·rw [show delF q.kind = 72 by rw [a1]; rfl]
  refine (del_any a4 hk sc).mono fun e w' ⟨he, hA, ht⟩ => ?_
  rw [pdel_ne (by rw [a1]; decide)] at *
  obtain ⟨t1, t2⟩ := del1_tie (x := ⟨X, b, n, q.slots⟩) a1 a2 rfl bs
  refine ⟨by rw [he, t1], [X, b], ⟨hg.1, Or.inr (Or.inl ⟨by rw [hk1, a1], b, n, by rw [hk2, a2], rfl, by rw [t2]; exact hA⟩)⟩, ht.mono (fun y hy => Or.inl (List.mem_cons_of_mem _ hy)), fun b hb => Or.inl hb⟩
 ·rw [show delF q.kind = 80 by rw [a1]; rfl]
  obtain ⟨t1, t2, _⟩ := a7.del a2 bs
  refine (ldel_any a6 hk sc).mono fun e w' ⟨he, hs⟩ => ?_
  rw [pdel_ne (by rw [a1]; decide)] at *
  obtain ⟨g, cap, hA, ht, hb⟩ := hs
  refine ⟨by rw [he, t1], ({ x with l := (x.del bs).2.1, g := g, cap := cap, ord := (x.del bs).2.2 } : LX).own, ⟨hg.1, Or.inr (Or.inr (Or.inl ⟨by rw [hk1, a1], _, by rw [hk2, a2], rfl, rfl, t2.slots.symm, hA, t2⟩))⟩, ht, fun b hx => ?_⟩
  simp only [LX.own, List.mem_cons, Option.mem_toList] at hx ⊢
  rcases hx with rfl | rfl | hx
  ·exact Or.inl (Or.inl rfl)
  ·exact Or.inl (Or.inr (Or.inl rfl))
  ·have := hb b hx
   simpa [LX.own] using this
 ·rw [show delF q.kind = 91 by rw [a1]; rfl]
  refine (Lpm.idel_any a6 hk sc hsc).mono fun e w' ⟨he, hs⟩ => ?_
  rw [show q.delA bs = q.del3 bs by unfold PX.delA; rw [if_pos a1]] at *
  obtain ⟨t1, t2⟩ := del3_tie a2 a5.symm hk.2.1
  obtain ⟨T', hA, ht, hb⟩ := hs
  refine ⟨by rw [he, t1]; rfl, ({ x with T := T', l := (x.del bs).2 } : Lpm.TX).own, ⟨hg.1, Or.inr (Or.inr (Or.inr ⟨by rw [hk1, a1], _, by rw [hk2, a2], rfl, rfl, t2.symm, hA⟩))⟩, ht, fun b hx => ?_⟩
  simp only [Lpm.TX.own, List.mem_cons] at hx
  rcases hx with rfl | hx
  ·exact Or.inl (by simp [Lpm.TX.own])
  ·exact hb b hx
end Go.Proofs.Ytmhhahmjkopjhaa
end
section
namespace Go.Proofs.Ytmhhahmjkopjhaa
open Go.RowKit
def KCopyPost (w : World) (q : PX) (e : Ending) (w' : World) : Prop := ∃ C bl, e = .returned (.pointer (some ⟨C, 0, none⟩)) ∧ KAt w' C bl q ∧ (∀ b ∈ bl, w.heap.size ≤ b) ∧ Touch [] w w'
def KNewPost (w : World) (q : PX) (e : Ending) (w' : World) : Prop := ∃ X bl, e = .returned (.tuple #[.pointer (some ⟨X, 0, none⟩), .int .i64 0]) ∧ KAt w' X bl q ∧ (∀ b ∈ bl, w.heap.size ≤ b) ∧ Touch [] w w'
theorem knew0_any (w : World) (m : Nat) (h : newOk 0 4 m) : Calls Try.prog 22 #[.int .i64 (m : Int)] w (KNewPost w (PX.new 0 4 m)) :=
 (Arr.new_any w m (by have := h.1; omega) (by have := h.2.1; omega)).mono fun _ _ ⟨he, hA, ht⟩ => ⟨_, [w.heap.size], he, ⟨PGood.new (by omega) (by omega) h, Or.inl ⟨rfl, rfl, rfl, m, hA, rfl⟩⟩, by simp, ht⟩
theorem knew1_any (w : World) (n m : Nat) (h : newOk 1 n m) : Calls Try.prog 23 #[.int .i64 (n : Int), .int .i64 (m : Int)] w (KNewPost w (PX.new 1 n m)) := by
 have h1 := h.1
 have h2 := h.2.1
 have h3 := h.2.2.1
 have h4 := h.2.2.2
 simp at h3 h4
 exact (new_any w n m (by omega) (by omega) (by omega) (by omega)).mono fun _ _ ⟨X, b, he, hA, hx, hb, ht⟩ => ⟨X, [X, b], he, ⟨PGood.new (by omega) (by omega) h, Or.inr (Or.inl ⟨rfl, b, n, rfl, rfl, hA⟩)⟩, by simp [hx, hb], ht⟩
theorem knew2_any (w : World) (n m : Nat) (h : newOk 2 n m) : Calls Try.prog 24 #[.int .i64 (n : Int), .int .i64 (m : Int)] w (KNewPost w (PX.new 2 n m)) := by
 have h1 := h.1
 have h2 := h.2.1
 have h3 := h.2.2.1
 have h4 := h.2.2.2
 simp at h3 h4
 exact (lnew_any w n m (by omega) (by omega) (by omega) (by omega)).mono fun _ _ ⟨X, b, he, hA, hx, hb, ht⟩ => ⟨X, _, he, ⟨PGood.new (by omega) (by omega) h, Or.inr (Or.inr (Or.inl ⟨rfl, ⟨X, b, n, List.replicate m none, none, 0, []⟩, rfl, rfl, rfl, rfl, hA, ⟨rfl, rfl, by simp [PX.new], fun i => by
  show (List.replicate m (0 : Int)).getD i 0 ≤ 0
  rw [List.getD_eq_getElem?_getD, List.getElem?_replicate]
  split <;> simp, List.Pairwise.nil, OrdOk.start m⟩⟩))⟩, by simp [LX.own, hx, hb], ht⟩
theorem knew3_any (w : World) (n m : Nat) (h : newOk 3 ((n : Int) + 4) m) : Calls Try.prog 25 #[.int .i64 ((n : Int) + 4), .int .i64 (m : Int)] w (KNewPost w (PX.new 3 ((n : Int) + 4) m)) := by
 have h1 := h.1
 have h2 := h.2.1
 have h3 := h.2.2.1
 have h4 := h.2.2.2
 simp at h3 h4
 exact (Lpm.inew_any w n m (by omega) (by omega) (by omega) (by omega)).mono fun _ _ ⟨X, he, hA, hx, ht⟩ => ⟨X, _, he, ⟨PGood.new (by omega) (by omega) h, Or.inr (Or.inr (Or.inr ⟨rfl, ⟨X, n, m, .nil, List.replicate m none⟩, rfl, rfl, rfl, rfl, hA⟩))⟩, by simp [Lpm.TX.own, Lpm.bsT, hx], ht⟩
end Go.Proofs.Ytmhhahmjkopjhaa
end
section
namespace Go.Proofs.Ytmhhahmjkopjhaa.Mem
open Go.RowKit
theorem info5 : (Try.prog.info? 5).map (fun i => (i.zero, i.size, i.bytes)) = some (some (.int .u8 0), 1, 1) := by kernel_rfl
theorem info4 : (Try.prog.info? 4).map (fun i => (i.zero, i.size, i.bytes)) = some (some (.bool false), 1, 1) := by kernel_rfl
theorem new_any (w : World) :
  Calls Try.prog 5 #[] w fun e w' => e = .returned (.pointer (some ⟨w.heap.size, 0, none⟩)) ∧ w' = w.alloc (.cells #[.slice none 0 0, .int .i64 0] 46) := by
 go_enter Try.func5, Try.ntmps5
 go_wp2
 go_ret
 exact ⟨rfl, rfl⟩
theorem holds_any (p bb n c : Nat) (addr base : Int) (w : World)
  (h1 : w.cell? ⟨p, 1, none⟩ = some (.int .u64 base)) (h3 : w.cell? ⟨p, 3, none⟩ = some (.slice (some ⟨bb, 0, none⟩) n c)) :
  Calls Try.prog 44 #[.pointer (some ⟨p, 0, none⟩), .int .u64 addr] w fun e w' => e = .returned (.bool (decide (IntKind.u64.wrap (addr - base) < IntKind.u64.wrap ↑n))) ∧ ∃ k, w' = w.drewN k := by
 go_enter Try.func44, Try.ntmps44
 go_wp2
 go_quiet (fail)
 go_wp2
 go_ret
 exact ⟨rfl, _, rfl⟩
theorem isWord_any (n : Int) (w : World) :
  Calls Try.prog 19 #[.int .i64 n] w fun e w' => e = .returned (.bool (n == 1 || n == 2 || n == 4 || n == 8)) ∧ w' = w := by
 go_enter Try.func19, Try.ntmps19
 go_wp2
 all_goals
  go_ret
  refine ⟨?_, rfl⟩
  first | rfl | (subst_vars; rfl)
theorem reaches_any (p bb n c : Nat) (at_ k : Int) (w : World) (_hn : n ≤ 65536) (_hk : 0 ≤ k) (_hk2 : k ≤ 9223372036854775807)
  (h3 : w.cell? ⟨p, 3, none⟩ = some (.slice (some ⟨bb, 0, none⟩) n c)) :
  Calls Try.prog 42 #[.pointer (some ⟨p, 0, none⟩), .int .i64 at_, .int .i64 k] w fun e w' => e = .returned (.bool (decide (at_ ≤ n - k))) ∧ w' = w := by
 go_enter Try.func42, Try.ntmps42
 go_wp2
 go_ret
 exact ⟨rfl, rfl⟩
theorem behind_nil (m : Nat) (addr : Int) (w : World) (h0 : w.cell? ⟨m, 0, none⟩ = some (.slice none 0 0)) :
  Calls Try.prog 36 #[.pointer (some ⟨m, 0, none⟩), .int .u64 addr] w fun e w' => e = .returned (.int .i64 0) ∧ ∃ k, w' = w.drewN k := by
 go_enter Try.func36, Try.ntmps36
 go_wp2
 go_quiet (fail)
 go_wp2
 go_loop [5, 6] (fun low high => low = .int .i64 0 ∧ high = .int .i64 0) (fun _ _ => 0)
 case atStart => exact ⟨rfl, rfl⟩
 case round =>
  obtain ⟨rfl, rfl⟩ := hrel
  go_wp2
  go_ret
  exact ⟨rfl, _, rfl⟩
theorem behind_some (m g n cap : Nat) (addr : Int) (ps : Nat → Nat) (bs : Nat → Int) (w : World) (hn : n ≤ 4096)
  (h0 : w.cell? ⟨m, 0, none⟩ = some (.slice (some ⟨g, 0, none⟩) n cap))
  (hc : ∀ j, j < n → w.cell? ⟨g, j, none⟩ = some (.pointer (some ⟨ps j, 0, none⟩)))
  (hb : ∀ j, j < n → w.cell? ⟨ps j, 1, none⟩ = some (.int .u64 (bs j)))
  (hs : ∀ i j, i < j → j < n → bs i < bs j) :
  Calls Try.prog 36 #[.pointer (some ⟨m, 0, none⟩), .int .u64 addr] w fun e w' => (∃ i : Nat, i ≤ n ∧ e = .returned (.int .i64 i) ∧ (∀ j, j < i → bs j ≤ addr) ∧ (∀ j, i ≤ j → j < n → addr < bs j)) ∧ ∃ k, w' = w.drewN k := by
 have HS : Hid (∀ i j, i < j → j < n → bs i < bs j) := hs
 have HC : Hid (∀ j, j < n → w.cell? ⟨g, j, none⟩ = some (.pointer (some ⟨ps j, 0, none⟩))) := hc
 have HB : Hid (∀ j, j < n → w.cell? ⟨ps j, 1, none⟩ = some (.int .u64 (bs j))) := hb
 clear hs hc hb
 go_enter Try.func36, Try.ntmps36
 go_wp2
 go_quiet (fail)
 go_wp2
 go_loop [5, 6] (fun low high => ∃ l h : Nat, l ≤ h ∧ h ≤ n ∧ low = .int .i64 l ∧ high = .int .i64 h ∧ Hid ((∀ j, j < l → bs j ≤ addr) ∧ (∀ j, h ≤ j → j < n → addr < bs j))) (fun low high => (intOf high - intOf low).toNat)
 case atStart => exact ⟨0, n, by omega, by omega, rfl, rfl, ⟨fun j hj => by omega, fun j hj hj' => by omega⟩⟩
 case round =>
  obtain ⟨l, h, hlh, hhn, rfl, rfl, HI⟩ := hrel
  by_cases hlt : l < h
  ·obtain ⟨k, hk⟩ : ∃ k : Nat, ((l : Int) + h) / 2 = k := ⟨((l + h) / 2), by omega⟩
   have hk1 : l ≤ k := by omega
   have hk2 : k < h := by omega
   have c1 := HC.out k (by omega)
   have c2 := HB.out k (by omega)
   by_cases ha : addr < bs k
   ·go_wp2
    go_round
    case rel => exact ⟨l, k, by omega, by omega, rfl, by rw [hk], HI.out.1, fun j hj hj' => by
      have := HS.out k j
      by_cases e : j = k
      ·subst e; exact ha
      ·have := this (by omega) hj'; omega⟩
    case measure => simp [intOf]; omega
   ·go_wp2
    go_round
    case rel => exact ⟨k + 1, h, by omega, by omega, by go_num, rfl, fun j hj => by
      have := HS.out j k
      by_cases e : j = k
      ·subst e; omega
      ·have := this (by omega) (by omega); omega, HI.out.2⟩
    case measure => simp [intOf]; omega
  ·have e : h = l := by omega
   subst e
   go_wp2
   go_ret
   exact ⟨⟨_, hhn, rfl, HI.out⟩, _, rfl⟩
def mayBeB (b n p : Int) : Bool := decide (1 ≤ n ∧ n ≤ 65536 ∧ 0 ≤ p ∧ p ≤ 7 ∧ b + n ≤ 18446744073709551616)
theorem mayBe_any (b n p : Int) (w : World) (hb0 : 0 ≤ b) (hb1 : b ≤ 18446744073709551615) :
  Calls Try.prog 35 #[.int .u64 b, .int .i64 n, .int .i64 p] w fun e w' => e = .returned (.bool (mayBeB b n p)) ∧ w' = w := by
 have hx := u64_not b hb0 hb1
 go_enter Try.func35, Try.ntmps35
 go_wp2
 all_goals
  go_ret
  refine ⟨ret_bool ?_, rfl⟩
  unfold mayBeB
  first
   | (refine (decide_eq_false ?_).symm; omega)
   | (refine decide_eq_decide.2 ?_; omega)
theorem fresh_no (p : Int) (h0 : 0 ≤ p) (h1 : p < 4) : bits .and .i64 p 4 = 0 := by
 have : p = 0 ∨ p = 1 ∨ p = 2 ∨ p = 3 := by omega
 rcases this with rfl | rfl | rfl | rfl <;> decide
theorem fresh_yes (p : Int) (h0 : 4 ≤ p) (h1 : p ≤ 7) : bits .and .i64 p 4 = 4 := by
 have : p = 4 ∨ p = 5 ∨ p = 6 ∨ p = 7 := by omega
 rcases this with rfl | rfl | rfl | rfl <;> decide
theorem newRegion_plain (id b p : Int) (n : Nat) (w : World) (hn : n ≤ 65536) (hp0 : 0 ≤ p) (hp1 : p < 4) :
  Calls Try.prog 38 #[.int .i64 id, .int .u64 b, .int .i64 n, .int .i64 p] w fun e w' => e = .returned (.pointer (some ⟨w.heap.size + 1, 0, none⟩)) ∧
   w' = (w.alloc (.cells (List.replicate n (Value.int .u8 0)).toArray 5)).alloc (.cells #[.int .i64 id, .int .u64 b, .int .i64 p, .slice (some ⟨w.heap.size, 0, none⟩) n n, .slice none 0 0] 93) := by
 have hmk := run_make_blk (P := Try.prog) Try.underlying22 info5 rfl n (by omega) (by omega) .i64
 have hf := fresh_no p hp0 hp1
 go_enter Try.func38, Try.ntmps38
 go_wp2
 go_ret
 exact ⟨rfl, rfl⟩
theorem newRegion_fresh (id b p : Int) (n : Nat) (w : World) (hn : n ≤ 65536) (hp0 : 4 ≤ p) (hp1 : p ≤ 7) :
  Calls Try.prog 38 #[.int .i64 id, .int .u64 b, .int .i64 n, .int .i64 p] w fun e w' => e = .returned (.pointer (some ⟨w.heap.size + 1, 0, none⟩)) ∧
   w' = ((w.alloc (.cells (List.replicate n (Value.int .u8 0)).toArray 5)).alloc (.cells #[.int .i64 id, .int .u64 b, .int .i64 p, .slice (some ⟨w.heap.size, 0, none⟩) n n, .slice (some ⟨w.heap.size + 1 + 1, 0, none⟩) n n] 93)).alloc (.cells (List.replicate n (Value.bool false)).toArray 4) := by
 have hmk := run_make_blk (P := Try.prog) Try.underlying22 info5 rfl n (by omega) (by omega) .i64
 have hmk2 := run_make_blk (P := Try.prog) Try.underlying91 info4 rfl n (by omega) (by omega) .i64
 have hf := fresh_yes p hp0 hp1
 go_enter Try.func38, Try.ntmps38
 go_wp2
 go_ret
 exact ⟨rfl, by simp⟩
end Go.Proofs.Ytmhhahmjkopjhaa.Mem
end
section
namespace Go.Proofs.Ytmhhahmjkopjhaa.Mem
open Go.RowKit
structure Reg where
 p : Nat
 id : Int
 base : Int
 perm : Int
 bb : Nat
 bytes : List Int
 sb : Option Nat
 set : List Bool
def Reg.zero : Reg := ⟨0, 0, 0, 0, 0, [], none, []⟩
def Reg.ptr (r : Reg) : Value := .pointer (some ⟨r.p, 0, none⟩)
def Reg.setV (r : Reg) : Value := match r.sb with
 | none => .slice none 0 0
 | some s => .slice (some ⟨s, 0, none⟩) r.bytes.length r.bytes.length
def Reg.cells (r : Reg) : List Value := [.int .i64 r.id, .int .u64 r.base, .int .i64 r.perm, .slice (some ⟨r.bb, 0, none⟩) r.bytes.length r.bytes.length, r.setV]
def Reg.blocks (r : Reg) : List Nat := r.p :: r.bb :: r.sb.toList
structure RegAt (w : World) (r : Reg) : Prop where
 self : Blk w r.p r.cells 93
 bytes : Blk w r.bb (r.bytes.map (Value.int .u8)) 5
 set : ∀ s, r.sb = some s → Blk w s (r.set.map Value.bool) 4
structure RegOk (r : Reg) : Prop where
 base0 : 0 ≤ r.base
 size1 : 1 ≤ r.bytes.length
 size2 : r.bytes.length ≤ 65536
 fits : r.base + r.bytes.length ≤ 18446744073709551616
 perm0 : 0 ≤ r.perm
 perm1 : r.perm ≤ 7
 plain : r.sb = none ↔ r.perm < 4
 setLen : ∀ s, r.sb = some s → r.set.length = r.bytes.length
 setNil : r.sb = none → r.set = []
 byte : ∀ x ∈ r.bytes, 0 ≤ x ∧ x ≤ 255
 own : r.blocks.Nodup
theorem Reg.mem_p (r : Reg) : r.p ∈ r.blocks := by simp [Reg.blocks]
theorem Reg.mem_bb (r : Reg) : r.bb ∈ r.blocks := by simp [Reg.blocks]
theorem Reg.mem_sb (r : Reg) {s : Nat} (h : r.sb = some s) : s ∈ r.blocks := by simp [Reg.blocks, h]
theorem RegAt.lt {w : World} {r : Reg} (h : RegAt w r) : ∀ x ∈ r.blocks, x < w.heap.size := by
 intro x hx
 simp only [Reg.blocks, List.mem_cons, Option.mem_toList] at hx
 rcases hx with rfl | rfl | hx
 ·exact h.self.lt
 ·exact h.bytes.lt
 ·exact (h.set x hx).lt
theorem RegAt.touch {S : List Nat} {w w' : World} {r : Reg} (h : RegAt w r) (ht : Touch S w w') (hS : ∀ x ∈ r.blocks, x ∉ S) : RegAt w' r :=
 ⟨ht.blk h.self (hS _ r.mem_p), ht.blk h.bytes (hS _ r.mem_bb), fun s hs => ht.blk (h.set s hs) (hS _ (r.mem_sb hs))⟩
theorem RegAt.c0 {w : World} {r : Reg} (h : RegAt w r) : w.cell? ⟨r.p, 0, none⟩ = some (.int .i64 r.id) := h.self.cell rfl
theorem RegAt.c1 {w : World} {r : Reg} (h : RegAt w r) : w.cell? ⟨r.p, 1, none⟩ = some (.int .u64 r.base) := h.self.cell rfl
theorem RegAt.c2 {w : World} {r : Reg} (h : RegAt w r) : w.cell? ⟨r.p, 2, none⟩ = some (.int .i64 r.perm) := h.self.cell rfl
theorem RegAt.c3 {w : World} {r : Reg} (h : RegAt w r) : w.cell? ⟨r.p, 3, none⟩ = some (.slice (some ⟨r.bb, 0, none⟩) r.bytes.length r.bytes.length) := h.self.cell rfl
theorem RegAt.c4 {w : World} {r : Reg} (h : RegAt w r) : w.cell? ⟨r.p, 4, none⟩ = some r.setV := h.self.cell rfl
structure MS where
 m : Nat
 g : Option Nat
 cap : Nat
 rs : List Reg
 next : Nat
def MS.blocks (s : MS) : List Nat := s.m :: s.g.toList ++ s.rs.flatMap Reg.blocks
structure MemAt (w : World) (s : MS) : Prop where
 self : Blk w s.m [slV s.g s.rs.length s.cap, .int .i64 s.next] 46
 row : RowAt w 87 1 s.g s.rs.length s.cap (s.rs.map Reg.ptr)
 regs : ∀ r ∈ s.rs, RegAt w r
 ok : ∀ r ∈ s.rs, RegOk r
 apart : s.blocks.Nodup
 sorted : s.rs.Pairwise (fun a b => a.base + (a.bytes.length : Int) ≤ b.base)
 ids : s.rs.Pairwise (fun a b => a.id ≠ b.id)
 idlt : ∀ r ∈ s.rs, 0 ≤ r.id ∧ r.id < s.next
 many : s.rs.length ≤ 4096
theorem MemAt.lt {w : World} {s : MS} (h : MemAt w s) : ∀ x ∈ s.blocks, x < w.heap.size := by
 intro x hx
 simp only [MS.blocks, List.cons_append, List.mem_cons, List.mem_append, Option.mem_toList, List.mem_flatMap] at hx
 rcases hx with rfl | hx | ⟨r, hr, hx⟩
 ·exact h.self.lt
 ·have := h.row.2.2.2
  rw [hx] at this
  obtain ⟨rest, hb, _⟩ := this
  exact hb.lt
 ·exact (h.regs r hr).lt x hx
theorem MS.mem_m (s : MS) : s.m ∈ s.blocks := by simp [MS.blocks]
theorem MS.mem_g (s : MS) {b : Nat} (h : s.g = some b) : b ∈ s.blocks := by simp [MS.blocks, h]
theorem MS.mem_r (s : MS) {r : Reg} (h : r ∈ s.rs) {x : Nat} (hx : x ∈ r.blocks) : x ∈ s.blocks := by
 simp only [MS.blocks, List.cons_append, List.mem_cons, List.mem_append, List.mem_flatMap]
 exact Or.inr (Or.inr ⟨r, h, hx⟩)
theorem MemAt.touch {S : List Nat} {w w' : World} {s : MS} (h : MemAt w s) (ht : Touch S w w') (hS : ∀ x ∈ s.blocks, x ∉ S) : MemAt w' s where
 self := ht.blk h.self (hS _ s.mem_m)
 row := h.row.touch ht (fun _b hb => hS _ (s.mem_g hb))
 regs := fun r hr => (h.regs r hr).touch ht (fun _x hx => hS _ (s.mem_r hr hx))
 ok := h.ok
 apart := h.apart
 sorted := h.sorted
 ids := h.ids
 idlt := h.idlt
 many := h.many
theorem newRegion_any (id b p : Int) (n : Nat) (w : World) (hn1 : 1 ≤ n) (hn : n ≤ 65536) (hp0 : 0 ≤ p) (hp1 : p ≤ 7) (hb0 : 0 ≤ b) (hb1 : b + n ≤ 18446744073709551616) :
  Calls Try.prog 38 #[.int .i64 id, .int .u64 b, .int .i64 n, .int .i64 p] w fun e w' => ∃ r : Reg, e = .returned r.ptr ∧ RegAt w' r ∧ RegOk r ∧ r.id = id ∧ r.base = b ∧ r.perm = p ∧ r.bytes = List.replicate n 0 ∧
   r.set = (if p < 4 then [] else List.replicate n false) ∧ Touch [] w w' ∧ ∀ x ∈ r.blocks, w.heap.size ≤ x := by
 by_cases hp : p < 4
 ·refine (newRegion_plain id b p n w hn hp0 hp).mono ?_
  rintro e w' ⟨rfl, rfl⟩
  refine ⟨⟨w.heap.size + 1, id, b, p, w.heap.size, List.replicate n 0, none, []⟩, rfl, ⟨?_, ?_, ?_⟩, ⟨hb0, by simpa using hn1, by simpa using hn, by simpa using hb1, hp0, hp1, by simpa using hp, ?_, ?_, ?_, ?_⟩, rfl, rfl, rfl, rfl, ?_, ?_, ?_⟩
  ·have := Blk.newA (w.alloc (.cells (List.replicate n (Value.int .u8 0)).toArray 5)) #[.int .i64 id, .int .u64 b, .int .i64 p, .slice (some ⟨w.heap.size, 0, none⟩) n n, .slice none 0 0] _ 93 rfl
   simpa [Reg.cells, Reg.setV] using this
  ·have := (Blk.new w (List.replicate n (Value.int .u8 0)) 5).alloc (.cells #[.int .i64 id, .int .u64 b, .int .i64 p, .slice (some ⟨w.heap.size, 0, none⟩) n n, .slice none 0 0] 93)
   simpa using this
  ·intro s hs; cases hs
  ·intro s hs; cases hs
  ·intro _; rfl
  ·intro x hx; simp at hx; omega
  ·simp [Reg.blocks]
  ·simp [hp]
  ·exact ((Touch.refl _ w).alloc _).alloc _
  ·intro x hx; simp [Reg.blocks] at hx; omega
 ·refine (newRegion_fresh id b p n w hn (by omega) hp1).mono ?_
  rintro e w' ⟨rfl, rfl⟩
  refine ⟨⟨w.heap.size + 1, id, b, p, w.heap.size, List.replicate n 0, some (w.heap.size + 1 + 1), List.replicate n false⟩, rfl, ⟨?_, ?_, ?_⟩, ⟨hb0, by simpa using hn1, by simpa using hn, by simpa using hb1, hp0, hp1, by simp; omega, ?_, ?_, ?_, ?_⟩, rfl, rfl, rfl, rfl, ?_, ?_, ?_⟩
  ·have := (Blk.newA (w.alloc (.cells (List.replicate n (Value.int .u8 0)).toArray 5)) #[.int .i64 id, .int .u64 b, .int .i64 p, .slice (some ⟨w.heap.size, 0, none⟩) n n, .slice (some ⟨w.heap.size + 1 + 1, 0, none⟩) n n] _ 93 rfl).alloc (.cells (List.replicate n (Value.bool false)).toArray 4)
   simpa [Reg.cells, Reg.setV] using this
  ·have := ((Blk.new w (List.replicate n (Value.int .u8 0)) 5).alloc (.cells #[.int .i64 id, .int .u64 b, .int .i64 p, .slice (some ⟨w.heap.size, 0, none⟩) n n, .slice (some ⟨w.heap.size + 1 + 1, 0, none⟩) n n] 93)).alloc (.cells (List.replicate n (Value.bool false)).toArray 4)
   simpa using this
  ·intro s hs
   injection hs with hs
   subst hs
   have := Blk.new ((w.alloc (.cells (List.replicate n (Value.int .u8 0)).toArray 5)).alloc (.cells #[.int .i64 id, .int .u64 b, .int .i64 p, .slice (some ⟨w.heap.size, 0, none⟩) n n, .slice (some ⟨w.heap.size + 1 + 1, 0, none⟩) n n] 93)) (List.replicate n (Value.bool false)) 4
   simpa using this
  ·intro s hs; simp
  ·intro hs; cases hs
  ·intro x hx; simp at hx; omega
  ·simp [Reg.blocks]; omega
  ·simp [hp]
  ·exact (((Touch.refl _ w).alloc _).alloc _).alloc _
  ·intro x hx; simp [Reg.blocks] at hx; omega
end Go.Proofs.Ytmhhahmjkopjhaa.Mem
end
section
namespace Go.Proofs.Ytmhhahmjkopjhaa.Mem
open Go.RowKit
theorem toHid {p : Prop} (h : p) : Hid p := h
def hasB (r : Reg) (addr : Int) : Bool := decide (r.base ≤ addr ∧ addr < r.base + (r.bytes.length : Int))
def findR (rs : List Reg) (addr : Int) : Option Reg := rs.find? (hasB · addr)
theorem findR_of : ∀ {rs : List Reg} {r : Reg} {addr : Int}, rs.Pairwise (fun a b => a.base + (a.bytes.length : Int) ≤ b.base) → (∀ x ∈ rs, 1 ≤ x.bytes.length) → r ∈ rs → hasB r addr = true → findR rs addr = some r
 | [], _, _, _, _, hr, _ => by cases hr
 | x :: xs, r, addr, hp, h1, hr, hb => by
  rw [List.pairwise_cons] at hp
  unfold findR
  rw [List.find?_cons]
  rcases List.mem_cons.1 hr with rfl | hr
  ·rw [hb]
  ·have h2 := hp.1 r hr
   have h3 : hasB x addr = false := by
    unfold hasB at *
    have := of_decide_eq_true hb
    exact decide_eq_false (by omega)
   rw [h3]
   exact findR_of hp.2 (fun y hy => h1 y (List.mem_cons_of_mem _ hy)) hr hb
theorem findR_none {rs : List Reg} {addr : Int} (h : ∀ r ∈ rs, hasB r addr = false) : findR rs addr = none := by
 unfold findR
 rw [List.find?_eq_none]
 intro x hx
 rw [h x hx]
 simp
theorem findR_mem {rs : List Reg} {addr : Int} {r : Reg} (h : findR rs addr = some r) : r ∈ rs ∧ hasB r addr = true := by
 unfold findR at h
 exact ⟨List.mem_of_find?_eq_some h, by simpa using List.find?_some h⟩
theorem pair_get {α : Type} {R : α → α → Prop} {l : List α} (h : l.Pairwise R) {i j : Nat} {a b : α} (hij : i < j) (ha : l[i]? = some a) (hb : l[j]? = some b) : R a b := by
 obtain ⟨h1, rfl⟩ := List.getElem?_eq_some_iff.1 ha
 obtain ⟨h2, rfl⟩ := List.getElem?_eq_some_iff.1 hb
 exact (List.pairwise_iff_getElem.1 h) i j h1 h2 hij
theorem getD_of {rs : List Reg} {j : Nat} (h : j < rs.length) : rs[j]? = some (rs.getD j Reg.zero) := by
 rw [List.getD_eq_getElem?_getD, List.getElem?_eq_getElem h]
 rfl
theorem getD_mem {rs : List Reg} {j : Nat} (h : j < rs.length) : rs.getD j Reg.zero ∈ rs := List.mem_of_getElem? (getD_of h)
theorem MemAt.c0 {w : World} {s : MS} (h : MemAt w s) : w.cell? ⟨s.m, 0, none⟩ = some (slV s.g s.rs.length s.cap) := h.self.cell rfl
theorem MemAt.c1 {w : World} {s : MS} (h : MemAt w s) : w.cell? ⟨s.m, 1, none⟩ = some (.int .i64 s.next) := h.self.cell rfl
theorem MemAt.nil {w : World} {s : MS} (h : MemAt w s) (hg : s.g = none) : s.rs = [] ∧ s.cap = 0 := by
 have h4 := h.row.2.2.2
 rw [hg] at h4
 have h2 := h.row.2.1
 have h4 : s.cap = 0 := h4
 exact ⟨List.eq_nil_of_length_eq_zero (by omega), h4⟩
theorem MemAt.ptrAt {w : World} {s : MS} (h : MemAt w s) {b : Nat} (hg : s.g = some b) {j : Nat} (hj : j < s.rs.length) : w.cell? ⟨b, j, none⟩ = some (.pointer (some ⟨(s.rs.getD j Reg.zero).p, 0, none⟩)) := by
 have h4 := h.row.2.2.2
 rw [hg] at h4
 obtain ⟨rest, hb, _⟩ := h4
 refine hb.cell ?_
 rw [List.getElem?_append_left (by simpa using hj), List.getElem?_map, getD_of hj]
 rfl
theorem behind_any {w : World} {s : MS} (h : MemAt w s) (addr : Int) :
  Calls Try.prog 36 #[.pointer (some ⟨s.m, 0, none⟩), .int .u64 addr] w fun e w' => (∃ i : Nat, i ≤ s.rs.length ∧ e = .returned (.int .i64 i) ∧ (∀ j, j < i → (s.rs.getD j Reg.zero).base ≤ addr) ∧ (∀ j, i ≤ j → j < s.rs.length → addr < (s.rs.getD j Reg.zero).base)) ∧ ∃ k, w' = w.drewN k := by
 have hc0 := h.c0
 cases hg : s.g with
 | none =>
  obtain ⟨h1, h2⟩ := h.nil hg
  rw [hg, h1, h2] at hc0
  refine (behind_nil s.m addr w hc0).mono ?_
  rintro e w' ⟨rfl, k, rfl⟩
  exact ⟨⟨0, by omega, rfl, fun j hj => by omega, fun j _ hj => by rw [h1] at hj; simp at hj⟩, k, rfl⟩
 | some b =>
  rw [hg] at hc0
  refine (behind_some s.m b s.rs.length s.cap addr (fun j => (s.rs.getD j Reg.zero).p) (fun j => (s.rs.getD j Reg.zero).base) w h.many hc0 (fun j hj => h.ptrAt hg hj) (fun j hj => (h.regs _ (getD_mem hj)).c1) ?_).mono (fun e w' hh => hh)
  intro i j hij hj
  have h1 := pair_get h.sorted hij (getD_of (by omega)) (getD_of hj)
  have h2 := (h.ok _ (getD_mem (rs := s.rs) (j := i) (by omega))).size1
  show (s.rs.getD i Reg.zero).base < (s.rs.getD j Reg.zero).base
  omega
def holderV (o : Option Reg) (addr : Int) : Value := match o with
 | none => .tuple #[.pointer none, .int .i64 0]
 | some r => .tuple #[.pointer (some ⟨r.p, 0, none⟩), .int .i64 (addr - r.base)]
theorem wrap_u64_sub (a b : Int) (n : Nat) (ha0 : 0 ≤ a) (ha1 : a ≤ 18446744073709551615) (hb0 : 0 ≤ b) (hn : b + (n : Int) ≤ 18446744073709551616) (hn2 : n ≤ 65536) :
  decide (IntKind.u64.wrap (a - b) < IntKind.u64.wrap (n : Int)) = decide (b ≤ a ∧ a < b + (n : Int)) := by
 rw [IntKind.wrap_u64, IntKind.wrap_u64, decide_eq_decide]
 omega
theorem holder_any {w : World} {s : MS} (h : MemAt w s) (addr : Int) (ha0 : 0 ≤ addr) (ha1 : addr ≤ 18446744073709551615) :
  Calls Try.prog 41 #[.pointer (some ⟨s.m, 0, none⟩), .int .u64 addr] w fun e w' => e = .returned (holderV (findR s.rs addr) addr) ∧ ∃ k, w' = w.drewN k := by
 have hmany := h.many
 have hc0 := h.c0
 go_enter Try.func41, Try.ntmps41
 go_wp2_with fail
 refine (behind_any h addr).mono ?_
 rintro e w' ⟨⟨i, hi, rfl, hlo, hhi⟩, k, rfl⟩
 by_cases hi0 : i = 0
 ·subst hi0
  have hf : findR s.rs addr = none := findR_none (fun r hr => by
   obtain ⟨j, hj, rfl⟩ := List.getElem_of_mem hr
   have := hhi j (by omega) hj
   rw [List.getD_eq_getElem?_getD, List.getElem?_eq_getElem hj] at this
   unfold hasB
   exact decide_eq_false (by simp at this; omega))
  have HF : Hid (findR s.rs addr = none) := hf
  clear hhi hlo h hf
  go_wp2
  go_ret2
  exact ⟨by rw [HF.out]; rfl, _, rfl⟩
 ·obtain ⟨q, rfl⟩ : ∃ q, i = q + 1 := ⟨i - 1, by omega⟩
  have hq : s.rs[q]? = some (s.rs.getD q Reg.zero) := getD_of (by omega)
  cases hg : s.g with
  | none => have := (h.nil hg).1; rw [this] at hi; simp at hi
  | some b =>
  have hp := h.ptrAt hg (j := q) (by omega)
  have hlq := hlo q (by omega)
  generalize s.rs.getD q Reg.zero = r at hq hp hlq
  have hr := List.mem_of_getElem? hq
  have hc1 := (h.regs r hr).c1
  have hc3 := (h.regs r hr).c3
  have hok := h.ok r hr
  have hw := wrap_u64_sub addr r.base r.bytes.length ha0 ha1 hok.base0 hok.fits hok.size2
  have hsz := hok.size2
  have hb0 := hok.base0
  rw [hg] at hc0
  simp only [slV_some] at hc0
  have hf : hasB r addr = true → findR s.rs addr = some r := fun hb => findR_of h.sorted (fun x hx => (h.ok x hx).size1) hr hb
  have hf2 : hasB r addr = false → findR s.rs addr = none := fun hb => findR_none (fun x hx => by
   obtain ⟨j, hj, rfl⟩ := List.getElem_of_mem hx
   have hjg := List.getElem?_eq_getElem hj
   unfold hasB at *
   refine decide_eq_false ?_
   have hb := of_decide_eq_false hb
   rcases Nat.lt_trichotomy j q with hjq | rfl | hjq
   ·have := pair_get h.sorted hjq hjg hq
    omega
   ·rw [hq] at hjg
    injection hjg with hjg
    rw [← hjg]
    exact hb
   ·have := hhi j (by omega) hj
    rw [List.getD_eq_getElem?_getD, hjg] at this
    simp at this
    omega)
  have HW : Hid (decide (IntKind.u64.wrap (addr - r.base) < IntKind.u64.wrap (r.bytes.length : Int)) = hasB r addr) := hw
  clear hw hhi hlo h
  cases hbb : hasB r addr with
  | true =>
   have HF : Hid (findR s.rs addr = some r) := hf hbb
   have hin := hbb
   unfold hasB at hin
   have hin := of_decide_eq_true hin
   rw [hbb] at HW
   clear hf hf2 hbb
   go_wp2_with (go_at_call 44; refine (holds_any r.p r.bb r.bytes.length r.bytes.length addr r.base _ ?_ ?_).mono ?_; (simp only [World.cell?_drewN, hc1]); (simp only [World.cell?_drewN, hc3]); rintro e w' ⟨rfl, k2, rfl⟩; rw [HW.out])
   go_quiet (fail)
   go_wp2
   go_ret2
   refine ⟨?_, k + k2 + nq, by rw [World.drewN_drewN]⟩
   rw [HF.out]
   unfold holderV
   congr 4
  | false =>
   have HF : Hid (findR s.rs addr = none) := hf2 hbb
   rw [hbb] at HW
   clear hf hf2 hbb
   go_wp2_with (go_at_call 44; refine (holds_any r.p r.bb r.bytes.length r.bytes.length addr r.base _ ?_ ?_).mono ?_; (simp only [World.cell?_drewN, hc1]); (simp only [World.cell?_drewN, hc3]); rintro e w' ⟨rfl, k2, rfl⟩; rw [HW.out])
   go_ret2
   exact ⟨by rw [HF.out]; rfl, _, rfl⟩
def accessV (o : Option Reg) (addr n perm : Int) : Value := match o with
 | none => .tuple #[.pointer none, .int .i64 0, .int .i64 10]
 | some r => if addr - r.base ≤ (r.bytes.length : Int) - n ∧ bits .and .i64 r.perm perm ≠ 0 then .tuple #[.pointer (some ⟨r.p, 0, none⟩), .int .i64 (addr - r.base), .int .i64 0]
  else .tuple #[.pointer none, .int .i64 0, .int .i64 10]
theorem accessV_no {r : Reg} {addr n perm : Int} (h : ¬ (addr - r.base ≤ (r.bytes.length : Int) - n ∧ bits .and .i64 r.perm perm ≠ 0)) : accessV (some r) addr n perm = .tuple #[.pointer none, .int .i64 0, .int .i64 10] := if_neg h
theorem accessV_yes {r : Reg} {addr n perm : Int} (h : addr - r.base ≤ (r.bytes.length : Int) - n ∧ bits .and .i64 r.perm perm ≠ 0) : accessV (some r) addr n perm = .tuple #[.pointer (some ⟨r.p, 0, none⟩), .int .i64 (addr - r.base), .int .i64 0] := if_pos h
theorem access_any {w : World} {s : MS} (h : MemAt w s) (addr n perm : Int) (ha0 : 0 ≤ addr) (ha1 : addr ≤ 18446744073709551615) (hn0 : 0 ≤ n) (hn1 : n ≤ 9223372036854775807) :
  Calls Try.prog 32 #[.pointer (some ⟨s.m, 0, none⟩), .int .u64 addr, .int .i64 n, .int .i64 perm] w fun e w' => e = .returned (accessV (findR s.rs addr) addr n perm) ∧ ∃ k, w' = w.drewN k := by
 have hH := holder_any h addr ha0 ha1
 cases hf : findR s.rs addr with
 | none =>
  rw [hf] at hH
  have HH := toHid hH
  clear h hH hf
  go_enter Try.func32, Try.ntmps32
  go_wp2_with (go_at_call 41; refine HH.out.mono ?_; rintro e w' ⟨rfl, k, rfl⟩; simp only [holderV])
  go_ret3
  exact ⟨rfl, _, rfl⟩
 | some r =>
  rw [hf] at hH
  have hr := (findR_mem hf).1
  have hc2 := (h.regs r hr).c2
  have hc3 := (h.regs r hr).c3
  have hsz := (h.ok r hr).size2
  have HH := toHid hH
  clear h hH hf
  by_cases hreach : addr - r.base ≤ (r.bytes.length : Int) - n
  ·by_cases hperm : bits .and .i64 r.perm perm = 0
   ·go_enter Try.func32, Try.ntmps32
    go_wp2_with (first
     | (go_at_call 41; refine HH.out.mono ?_; rintro e w' ⟨rfl, k, rfl⟩; simp only [holderV])
     | (go_at_call 42; refine (reaches_any r.p r.bb r.bytes.length r.bytes.length (addr - r.base) n _ hsz (by omega) hn1 (by simp only [World.cell?_drewN, hc3])).mono ?_; rintro e w' ⟨rfl, rfl⟩))
    go_ret3
    exact ⟨(congrArg Ending.returned (accessV_no (fun hh => hh.2 hperm))).symm, _, rfl⟩
   ·go_enter Try.func32, Try.ntmps32
    go_wp2_with (first
     | (go_at_call 41; refine HH.out.mono ?_; rintro e w' ⟨rfl, k, rfl⟩; simp only [holderV])
     | (go_at_call 42; refine (reaches_any r.p r.bb r.bytes.length r.bytes.length (addr - r.base) n _ hsz (by omega) hn1 (by simp only [World.cell?_drewN, hc3])).mono ?_; rintro e w' ⟨rfl, rfl⟩))
    go_ret3
    exact ⟨(congrArg Ending.returned (accessV_yes ⟨hreach, hperm⟩)).symm, _, rfl⟩
  ·go_enter Try.func32, Try.ntmps32
   go_wp2_with (first
     | (go_at_call 41; refine HH.out.mono ?_; rintro e w' ⟨rfl, k, rfl⟩; simp only [holderV])
     | (go_at_call 42; refine (reaches_any r.p r.bb r.bytes.length r.bytes.length (addr - r.base) n _ hsz (by omega) hn1 (by simp only [World.cell?_drewN, hc3])).mono ?_; rintro e w' ⟨rfl, rfl⟩))
   go_ret3
   refine ⟨?_, _, rfl⟩
   exact (congrArg Ending.returned (accessV_no (fun hh => by have := hh.1; omega))).symm
def busyB (rs : List Reg) (base size : Int) : Bool := rs.any (fun r => decide (r.base < base + size ∧ base < r.base + (r.bytes.length : Int)))
theorem busy_of {rs : List Reg} {base size : Int} {r : Reg} (hr : r ∈ rs) (h1 : r.base < base + size) (h2 : base < r.base + (r.bytes.length : Int)) : busyB rs base size = true := by
 unfold busyB
 rw [List.any_eq_true]
 exact ⟨r, hr, decide_eq_true ⟨h1, h2⟩⟩
theorem busy_not {rs : List Reg} {base size : Int} (h : ∀ (j : Nat) (_hj : j < rs.length), ¬ ((rs.getD j Reg.zero).base < base + size ∧ base < (rs.getD j Reg.zero).base + ((rs.getD j Reg.zero).bytes.length : Int))) : busyB rs base size = false := by
 unfold busyB
 rw [List.any_eq_false]
 intro x hx
 obtain ⟨j, hj, rfl⟩ := List.getElem_of_mem hx
 have := h j hj
 rw [List.getD_eq_getElem?_getD, List.getElem?_eq_getElem hj] at this
 simpa using this
theorem taken_any {w : World} {s : MS} (h : MemAt w s) (i size : Nat) (base : Int) (hb0 : 0 ≤ base) (hs1 : 1 ≤ size) (hs2 : size ≤ 65536) (hfit : base + size ≤ 18446744073709551616) (hi : i ≤ s.rs.length)
  (hlo : ∀ j, j < i → (s.rs.getD j Reg.zero).base ≤ base) (hhi : ∀ j, i ≤ j → j < s.rs.length → base < (s.rs.getD j Reg.zero).base) :
  Calls Try.prog 37 #[.pointer (some ⟨s.m, 0, none⟩), .int .i64 i, .int .u64 base, .int .i64 size] w fun e w' => e = .returned (.bool (busyB s.rs base size)) ∧ ∃ k, w' = w.drewN k := by
 have hmany := h.many
 have hc0 := h.c0
 -- what stands at i and behind it
 have htail : (i < s.rs.length → (s.rs.getD i Reg.zero).base - base < size → busyB s.rs base size = true) ∧
   ((∀ q, q + 1 = i → ¬ (base < (s.rs.getD q Reg.zero).base + ((s.rs.getD q Reg.zero).bytes.length : Int))) → (i < s.rs.length → ¬ (s.rs.getD i Reg.zero).base - base < size) → busyB s.rs base size = false) := by
  refine ⟨fun h1 h2 => ?_, fun h1 h2 => ?_⟩
  ·have h3 := hhi i (Nat.le_refl _) h1
   have h4 := (h.ok _ (getD_mem h1)).size1
   exact busy_of (getD_mem h1) (by omega) (by omega)
  ·refine busy_not (fun j hj => ?_)
   by_cases hji : j < i
   ·obtain ⟨q, rfl⟩ : ∃ q, i = q + 1 := ⟨i - 1, by omega⟩
    have h5 := h1 q rfl
    by_cases hjq : j = q
    ·subst hjq; omega
    ·have h6 := pair_get h.sorted (show j < q by omega) (getD_of (by omega)) (getD_of (rs := s.rs) (by omega))
     have h7 := hlo q (by omega)
     omega
   ·have h8 := h2 (by omega)
    by_cases hje : j = i
    ·subst hje; omega
    ·have h6 := pair_get h.sorted (show i < j by omega) (getD_of (by omega)) (getD_of hj)
     have h9 := (h.ok _ (getD_mem (rs := s.rs) (j := i) (by omega))).size1
     omega
 cases hg : s.g with
 | none =>
  obtain ⟨h1, h2⟩ := h.nil hg
  rw [h1] at hi
  simp only [List.length_nil, Nat.le_zero] at hi
  subst hi
  have hF := toHid (htail.2 (fun q hq => by omega) (fun hh => by rw [h1] at hh; simp at hh))
  rw [hg, h1, h2] at hc0
  simp only [slV_none, List.length_nil] at hc0
  clear htail hlo hhi h
  go_enter Try.func37, Try.ntmps37
  go_wp2
  go_ret
  exact ⟨by rw [hF.out]; rfl, 0, rfl⟩
 | some b =>
  rw [hg] at hc0
  simp only [slV_some] at hc0
  have hoks : i < s.rs.length → RegAt w (s.rs.getD i Reg.zero) ∧ RegOk (s.rs.getD i Reg.zero) := fun hh => ⟨h.regs _ (getD_mem hh), h.ok _ (getD_mem hh)⟩
  have hpi : i < s.rs.length → w.cell? ⟨b, i, none⟩ = some (.pointer (some ⟨(s.rs.getD i Reg.zero).p, 0, none⟩)) := fun hh => h.ptrAt hg hh
  have hbi : i < s.rs.length → base < (s.rs.getD i Reg.zero).base := fun hh => hhi i (Nat.le_refl _) hh
  generalize s.rs.getD i Reg.zero = r at htail hoks hpi hbi
  by_cases hi0 : i = 0
  ·subst hi0
   by_cases hin : 0 < s.rs.length
   ·have hc1 := (hoks hin).1.c1
    have hwr : IntKind.u64.wrap (r.base - base) = r.base - base := by rw [IntKind.wrap_u64]; have := (hoks hin).2.fits; have := (hoks hin).2.size1; have := hbi hin; omega
    have hp := hpi hin
    by_cases ho : r.base - base < size
    ·have hF := toHid (htail.1 hin ho)
     clear htail hlo hhi h hoks hpi hbi
     go_enter Try.func37, Try.ntmps37
     go_wp2
     go_ret
     exact ⟨by rw [hF.out]; first | rfl | exact ret_bool (decide_eq_true (by omega)), 0, rfl⟩
    ·have hF := toHid (htail.2 (fun q hq => by omega) (fun _ => ho))
     clear htail hlo hhi h hoks hpi hbi
     go_enter Try.func37, Try.ntmps37
     go_wp2
     go_ret
     exact ⟨by rw [hF.out]; first | rfl | exact ret_bool (decide_eq_false (by omega)), 0, rfl⟩
   ·have hF := toHid (htail.2 (fun q hq => by omega) (fun hh => absurd hh hin))
    clear htail hlo hhi h hoks hpi hbi
    go_enter Try.func37, Try.ntmps37
    go_wp2
    go_ret
    exact ⟨by rw [hF.out]; rfl, 0, rfl⟩
  ·obtain ⟨q, rfl⟩ : ∃ q, i = q + 1 := ⟨i - 1, by omega⟩
   have hpq := h.ptrAt hg (j := q) (by omega)
   have hrq := getD_mem (rs := s.rs) (j := q) (by omega)
   have hlq := hlo q (by omega)
   have htq : (¬ (base < (s.rs.getD q Reg.zero).base + ((s.rs.getD q Reg.zero).bytes.length : Int))) → (q + 1 < s.rs.length → ¬ r.base - base < size) → busyB s.rs base size = false := fun h1 h2 => htail.2 (fun q' hq' => by
    have : q' = q := by omega
    subst this
    exact h1) h2
   generalize s.rs.getD q Reg.zero = p at hpq hrq hlq htq
   have hq1 := (h.regs p hrq).c1
   have hq3 := (h.regs p hrq).c3
   have hqo := h.ok p hrq
   have hqz := hqo.size2
   have hw := wrap_u64_sub base p.base p.bytes.length hb0 (by omega) hqo.base0 hqo.fits hqo.size2
   by_cases hhold : base < p.base + (p.bytes.length : Int)
   ·have hF := toHid (busy_of (size := size) hrq (by omega) hhold)
    rw [decide_eq_true (show p.base ≤ base ∧ base < p.base + (p.bytes.length : Int) from ⟨hlq, hhold⟩)] at hw
    have HW := toHid hw
    clear htail hlo hhi h hoks hpi hbi htq hw
    go_enter Try.func37, Try.ntmps37
    go_wp2_with (go_at_call 44; refine (holds_any p.p p.bb p.bytes.length p.bytes.length base p.base _ hq1 hq3).mono ?_; rintro e w' ⟨rfl, k2, rfl⟩; rw [HW.out])
    go_ret
    exact ⟨by rw [hF.out]; rfl, _, rfl⟩
   ·rw [decide_eq_false (show ¬ (p.base ≤ base ∧ base < p.base + (p.bytes.length : Int)) from fun hh => hhold hh.2)] at hw
    have HW := toHid hw
    clear hw
    by_cases hin : q + 1 < s.rs.length
    ·have hc1 := (hoks hin).1.c1
     have hwr : IntKind.u64.wrap (r.base - base) = r.base - base := by rw [IntKind.wrap_u64]; have := (hoks hin).2.fits; have := (hoks hin).2.size1; have := hbi hin; omega
     have hp := hpi hin
     by_cases ho : r.base - base < size
     ·have hF := toHid (htail.1 hin ho)
      clear htail hlo hhi h hoks hpi hbi htq
      go_enter Try.func37, Try.ntmps37
      go_wp2_with (go_at_call 44; refine (holds_any p.p p.bb p.bytes.length p.bytes.length base p.base _ hq1 hq3).mono ?_; rintro e w' ⟨rfl, k2, rfl⟩; rw [HW.out])
      go_ret
      exact ⟨by rw [hF.out]; first | rfl | exact ret_bool (decide_eq_true (by omega)), _, rfl⟩
     ·have hF := toHid (htq hhold (fun _ => ho))
      clear htail hlo hhi h hoks hpi hbi htq
      go_enter Try.func37, Try.ntmps37
      go_wp2_with (go_at_call 44; refine (holds_any p.p p.bb p.bytes.length p.bytes.length base p.base _ hq1 hq3).mono ?_; rintro e w' ⟨rfl, k2, rfl⟩; rw [HW.out])
      go_ret
      exact ⟨by rw [hF.out]; first | rfl | exact ret_bool (decide_eq_false (by omega)), _, rfl⟩
    ·have hF := toHid (htq hhold (fun hh => absurd hh hin))
     clear htail hlo hhi h hoks hpi hbi htq
     go_enter Try.func37, Try.ntmps37
     go_wp2_with (go_at_call 44; refine (holds_any p.p p.bb p.bytes.length p.bytes.length base p.base _ hq1 hq3).mono ?_; rintro e w' ⟨rfl, k2, rfl⟩; rw [HW.out])
     go_ret
     exact ⟨by rw [hF.out]; rfl, _, rfl⟩
end Go.Proofs.Ytmhhahmjkopjhaa.Mem
end
section
namespace Go.Proofs.Ytmhhahmjkopjhaa.Mem
open Go.RowKit
structure RReg where
 live : Bool
 base : Int
 perm : Int
 bb : Nat
 bcap : Nat
 bytes : List Int
 sb : Nat
 scap : Nat
 set : List Bool
def RReg.zero : RReg := ⟨false, 0, 0, 0, 0, [], 0, 0, []⟩
def RReg.cells (r : RReg) : List Value := [.bool r.live, .int .u64 r.base, .int .i64 r.perm, .slice (some ⟨r.bb, 0, none⟩) r.bytes.length r.bcap, .slice (some ⟨r.sb, 0, none⟩) r.set.length r.scap]
structure RRegAt (w : World) (r : RReg) : Prop where
 bytes : ∃ rest, Blk w r.bb (r.bytes.map (Value.int .u8) ++ rest) 5
 set : ∃ rest, Blk w r.sb (r.set.map Value.bool ++ rest) 4
structure RRegOk (r : RReg) : Prop where
 base0 : 0 ≤ r.base
 size1 : 1 ≤ r.bytes.length
 size2 : r.bytes.length ≤ 65536
 fits : r.base + r.bytes.length ≤ 18446744073709551616
 perm0 : 0 ≤ r.perm
 perm1 : r.perm ≤ 7
 setLen : r.set.length = r.bytes.length
 byte : ∀ x ∈ r.bytes, 0 ≤ x ∧ x ≤ 255
structure RS where
 m : Nat
 g : Option Nat
 cap : Nat
 all : List RReg
def RReg.blocks (r : RReg) : List Nat := [r.bb, r.sb]
def RS.blocks (s : RS) : List Nat := s.m :: s.g.toList ++ s.all.flatMap RReg.blocks
def rhasB (r : RReg) (addr : Int) : Bool := r.live && decide (r.base ≤ addr ∧ addr < r.base + (r.bytes.length : Int))
def ofV (all : List RReg) (addr : Int) : Value := match all.findIdx? (rhasB · addr) with
 | none => .tuple #[.int .i64 (-1), .int .i64 0]
 | some i => .tuple #[.int .i64 i, .int .i64 (addr - (all.getD i RReg.zero).base)]
def liveN (all : List RReg) : Nat := (all.filter (·.live)).length
def hasB' (all : List RReg) (id : Int) : Bool := decide (0 ≤ id ∧ id < all.length) && (all.getD id.toNat RReg.zero).live
end Go.Proofs.Ytmhhahmjkopjhaa.Mem
end
section
namespace Go.Proofs.Ytmhhahmjkopjhaa
open Go.RowKit
structure RMap where
 kind : Int
 key : Int
 val : Int
 max : Int
 ix : RX
 idb : Option Nat
 idc : Nat
 ids : List Nat
def RMap.cells (m : RMap) : List Value := [.int .i64 m.kind, .int .i64 m.key, .int .i64 m.val, .int .i64 m.max, .pointer (some ⟨m.ix.r, 0, none⟩), slV m.idb m.ids.length m.idc]
def RMap.blocks (m : RMap) : List Nat := m.ix.blocks ++ m.idb.toList
def idV (n : Nat) : Value := .int .i64 (n : Int)
structure RMapOk (m : RMap) : Prop where
 good : PGood m.ix.p
 kind : m.ix.kind = m.kind
 key : m.ix.size = m.key
 v1 : 1 ≤ m.val
 v2 : m.val ≤ 64
 idn : m.ids.length = m.ix.slots.length
structure RT where
 t : Nat
 mem : Nat
 g : Option Nat
 cap : Nat
 maps : List RMap
def RT.top (x : RT) : List Nat := x.t :: x.g.toList
def RT.blocks (x : RT) : List Nat := x.top ++ x.maps.flatMap RMap.blocks
def RT.put (x : RT) (i : Nat) (m : RMap) : RT := { x with maps := x.maps.set i m }
end Go.Proofs.Ytmhhahmjkopjhaa
end
section
namespace Go.Proofs.Ytmhhahmjkopjhaa
open Go.RowKit
structure MDef where
 kind : Int
 key : Int
 val : Int
 max : Int
def MDef.zero : MDef := ⟨0, 0, 0, 0⟩
def MDef.cells (d : MDef) : List Value := [.int .i64 d.kind, .int .i64 d.key, .int .i64 d.val, .int .i64 d.max]
abbrev MDef.Ok (d : MDef) : Prop := 0 ≤ d.kind ∧ d.kind ≤ 3 ∧ 1 ≤ d.val ∧ d.val ≤ 64 ∧ (1 ≤ d.max ∧ d.max ≤ 64 ∧ (if d.kind = 0 then 4 else if d.kind = 3 then 5 else 1) ≤ d.key ∧ d.key ≤ (if d.kind = 0 then 4 else 16))
def mayI (ds : List MDef) : Bool := decide (ds.length ≤ 8 ∧ ∀ d ∈ ds, d.Ok)
structure DefsAt (w : World) (sa : Option Addr) (n : Nat) (ds : List MDef) : Prop where
 len : n = ds.length
 small : n ≤ 9223372036854775807
 at_ : 1 ≤ n → ∃ b off, sa = some ⟨b, off, none⟩ ∧ ∀ (i : Nat) (d : MDef), ds[i]? = some d → ∀ (j : Nat) (v : Value), d.cells[j]? = some v → w.cell? ⟨b, off + i * 4 + j, none⟩ = some v
theorem DefsAt.touch {w w' : World} {sa : Option Addr} {n : Nat} {ds : List MDef} (h : DefsAt w sa n ds) (ht : Touch [] w w') : DefsAt w' sa n ds :=
 ⟨h.len, h.small, fun hn => by
  obtain ⟨b, off, h1, h2⟩ := h.at_ hn
  exact ⟨b, off, h1, fun i d hd j v hv => ht.cell (h2 i d hd j v hv) (by simp)⟩⟩
theorem mayI_no {ds : List MDef} {k : Nat} {d : MDef} (hd : ds[k]? = some d) (h : ¬ d.Ok) : mayI ds = false := by
 unfold mayI
 rw [decide_eq_false_iff_not]
 exact fun hh => h (hh.2 d (List.mem_of_getElem? hd))
end Go.Proofs.Ytmhhahmjkopjhaa
end
section
namespace Go.Proofs.Ytmhhahmjkopjhaa
open Go.RowKit
structure PMap where
 d : MDef
 X : Nat
 bl : List Nat
 q : PX
def ixV (k : Int) (X : Nat) : Value := .iface (typF k) (.pointer (some ⟨X, 0, none⟩))
def PMap.cells (m : PMap) : List Value := [.int .i64 m.d.kind, .int .i64 m.d.key, .int .i64 m.d.val, .int .i64 m.d.max, ixV m.d.kind m.X]
structure PMapOk (m : PMap) : Prop where
 kind : m.q.kind = m.d.kind
 key : m.q.size = m.d.key
 max : (m.q.slots.length : Int) = m.d.max
 v1 : 1 ≤ m.d.val
 v2 : m.d.val ≤ 64
structure PT where
 t : Nat
 mem : Nat
 g : Option Nat
 cap : Nat
 maps : List PMap
def PT.top (x : PT) : List Nat := x.t :: x.g.toList
def PT.blocks (x : PT) : List Nat := x.top ++ x.maps.flatMap PMap.bl
def PT.ds (x : PT) : List MDef := x.maps.map PMap.d
def PT.qs (x : PT) : List PX := x.maps.map PMap.q
structure PTAt (w : World) (x : PT) : Prop where
 self : Blk w x.t [.pointer (some ⟨x.mem, 0, none⟩), slV x.g x.maps.length x.cap] 49
 row : RowAt w 55 5 x.g x.maps.length x.cap (x.maps.flatMap PMap.cells)
 maps : ∀ m ∈ x.maps, KAt w m.X m.bl m.q
 ok : ∀ m ∈ x.maps, PMapOk m
 apTop : x.top.Nodup
 apT : ∀ m ∈ x.maps, ∀ b ∈ m.bl, b ∉ x.top
 apM : ∀ (i j : Nat) (mi mj : PMap), x.maps[i]? = some mi → x.maps[j]? = some mj → i ≠ j → ∀ y ∈ mi.bl, y ∉ mj.bl
 many : x.maps.length ≤ 8
theorem PT.mem_top {x : PT} {b : Nat} (h : b ∈ x.top) : b ∈ x.blocks := List.mem_append_left _ h
theorem PT.mem_g {x : PT} {b : Nat} (h : x.g = some b) : b ∈ x.top := by simp [PT.top, h]
theorem PT.mem_map {x : PT} {m : PMap} (h : m ∈ x.maps) {b : Nat} (hb : b ∈ m.bl) : b ∈ x.blocks := List.mem_append_right _ (List.mem_flatMap.2 ⟨m, h, hb⟩)
theorem PTAt.touch {S : List Nat} {w w' : World} {x : PT} (h : PTAt w x) (ht : Touch S w w') (hS : ∀ b ∈ x.blocks, b ∉ S) : PTAt w' x where
 self := ht.blk h.self (hS _ (PT.mem_top (by simp [PT.top])))
 row := h.row.touch ht (fun b hb => hS _ (PT.mem_top (PT.mem_g hb)))
 maps := fun m hm => (h.maps m hm).touch ht (fun b hb => hS b (PT.mem_map hm hb))
 ok := h.ok
 apTop := h.apTop
 apT := h.apT
 apM := h.apM
 many := h.many
theorem PTAt.still {w w' : World} {x : PT} (h : PTAt w x) (ht : Touch [] w w') : PTAt w' x := h.touch ht (by simp)
theorem PTAt.lt {w : World} {x : PT} (h : PTAt w x) : ∀ b ∈ x.blocks, b < w.heap.size := by
 intro b hb
 rcases List.mem_append.1 hb with hb | hb
 ·simp only [PT.top, List.mem_cons, Option.mem_toList] at hb
  rcases hb with rfl | hb
  ·exact h.self.lt
  ·have hi := h.row
   rw [hb] at hi
   obtain ⟨_, _, _, _, hB, _⟩ := hi
   exact hB.lt
 ·obtain ⟨m, hm, hb⟩ := List.mem_flatMap.1 hb
  exact (h.maps m hm).lt b hb
theorem flat5_get (l : List PMap) (i j : Nat) (m : PMap) (hm : l[i]? = some m) (hj : j < 5) : (l.flatMap PMap.cells)[i * 5 + j]? = m.cells[j]? := by
 induction l generalizing i with
 | nil => simp at hm
 | cons x xs ih =>
  rw [List.flatMap_cons]
  have hl : x.cells.length = 5 := rfl
  cases i with
  | zero =>
   simp at hm
   subst hm
   rw [List.getElem?_append_left (by omega)]
   simp
  | succ i =>
   rw [List.getElem?_append_right (by omega), hl, show (i + 1) * 5 + j - 5 = i * 5 + j by omega]
   exact ih i (by simpa using hm)
theorem flat5_len (l : List PMap) : (l.flatMap PMap.cells).length = l.length * 5 := by
 induction l with
 | nil => rfl
 | cons x xs ih =>
  rw [List.flatMap_cons, List.length_append, ih, List.length_cons]
  show 5 + _ = _
  omega
theorem flat5_set (l : List PMap) (i : Nat) (m m' : PMap) (hm : l[i]? = some m) (hc : m'.cells = m.cells) : (l.set i m').flatMap PMap.cells = l.flatMap PMap.cells := by
 induction l generalizing i with
 | nil => simp
 | cons x xs ih =>
  cases i with
  | zero =>
   simp at hm
   subst hm
   simp [hc]
  | succ i =>
   simp only [List.set_cons_succ, List.flatMap_cons]
   rw [ih i (by simpa using hm)]
theorem PTAt.at_ {w : World} {x : PT} (h : PTAt w x) {i : Nat} {m : PMap} (hm : x.maps[i]? = some m) : ∃ b, x.g = some b ∧ ∀ (j : Nat) (v : Value), j < 5 → m.cells[j]? = some v → w.cell? ⟨b, i * 5 + j, none⟩ = some v := by
 have hlt := (List.getElem?_eq_some_iff.1 hm).1
 have hr := h.row
 cases hg : x.g with
 | none =>
  rw [hg] at hr
  have h1 := hr.2.1
  have h2 : x.cap = 0 := hr.2.2.2
  omega
 | some b =>
  rw [hg] at hr
  obtain ⟨_, _, _, rest, hB, _⟩ := hr
  refine ⟨b, rfl, fun j v hj hv => hB.cell ?_⟩
  rw [List.getElem?_append_left (by rw [flat5_len]; omega), flat5_get x.maps i j m hm hj, hv]
theorem PTAt.c0 {w : World} {x : PT} (h : PTAt w x) : w.cell? ⟨x.t, 0, none⟩ = some (.pointer (some ⟨x.mem, 0, none⟩)) := h.self.cell rfl
theorem PTAt.c1 {w : World} {x : PT} (h : PTAt w x) : w.cell? ⟨x.t, 1, none⟩ = some (slV x.g x.maps.length x.cap) := h.self.cell rfl
theorem PTAt.boxed {w : World} {x : PT} (h : PTAt w x) {k : Nat} {m : PMap} (hm : x.maps[k]? = some m) {gb : Nat} (hg : x.g = some gb) : w.cell? ⟨gb, k * 5, none⟩ = some (.int .i64 m.d.kind) ∧ w.cell? ⟨gb, k * 5 + 1, none⟩ = some (.int .i64 m.d.key) ∧ w.cell? ⟨gb, k * 5 + 2, none⟩ = some (.int .i64 m.d.val) ∧ w.cell? ⟨gb, k * 5 + 3, none⟩ = some (.int .i64 m.d.max) ∧ w.cell? ⟨gb, k * 5 + 4, none⟩ = some (ixV m.d.kind m.X) := by
 obtain ⟨gb2, hg2, hc⟩ := h.at_ hm
 rw [hg] at hg2
 injection hg2 with hg2
 subst hg2
 refine ⟨?_, hc 1 _ (by omega) rfl, hc 2 _ (by omega) rfl, hc 3 _ (by omega) rfl, hc 4 _ (by omega) rfl⟩
 have := hc 0 _ (by omega) rfl
 rwa [Nat.add_zero] at this
theorem PTAt.some_g {w : World} {x : PT} (h : PTAt w x) {k : Nat} {m : PMap} (hm : x.maps[k]? = some m) : ∃ b, x.g = some b := by
 obtain ⟨b, hb, _⟩ := h.at_ hm
 exact ⟨b, hb⟩
structure PStep (w w' : World) (x x' : PT) (qs : List PX) : Prop where
 at_ : PTAt w' x'
 qs : x'.qs = qs
 t : x'.t = x.t
 mem : x'.mem = x.mem
 ds : x'.ds = x.ds
 touch : Touch x.blocks w w'
 blocks : ∀ b ∈ x'.blocks, b ∈ x.blocks ∨ w.heap.size ≤ b
theorem PStep.refl {w w' : World} {x : PT} (h : PTAt w x) (ht : Touch [] w w') : PStep w w' x x x.qs :=
 ⟨h.still ht, rfl, rfl, rfl, rfl, ht.nil, fun _ hb => Or.inl hb⟩
theorem PStep.still {w w' w2 : World} {x x' : PT} {qs : List PX} (st : PStep w w' x x' qs) (ht : Touch [] w' w2) : PStep w w2 x x' qs :=
 ⟨st.at_.still ht, st.qs, st.t, st.mem, st.ds, st.touch.trans ht (by simp), st.blocks⟩
theorem KStep.of_still {w w1 w2 : World} {X : Nat} {bl : List Nat} {q : PX} (ht : Touch [] w w1) (st : KStep w1 w2 X bl q) : KStep w w2 X bl q := by
 obtain ⟨bl', h1, h2, h3⟩ := st
 have := ht.size
 exact ⟨bl', h1, (ht.mono (S' := bl) (fun b hb => by cases hb)).trans h2 (fun b hb => Or.inl hb), fun b hb => (h3 b hb).imp id (fun h => by omega)⟩
theorem pmap_set_same {α β : Type} (f : α → β) (l : List α) (i : Nat) (a b : α) (h : l[i]? = some a) (hf : f b = f a) : (l.set i b).map f = l.map f := by
 refine List.ext_getElem? fun j => ?_
 rw [List.getElem?_map, List.getElem?_map, List.getElem?_set]
 by_cases e : i = j
 ·subst e
  rw [if_pos rfl, if_pos (List.getElem?_eq_some_iff.1 h).1, h]
  exact congrArg some hf
 ·rw [if_neg e]
theorem PTAt.step {w w' : World} {x : PT} (h : PTAt w x) {i : Nat} {m : PMap} (hm : x.maps[i]? = some m) {q : PX} (st : KStep w w' m.X m.bl q) (hk : PKept m.q q) : ∃ x', PStep w w' x x' (x.qs.set i q) := by
 obtain ⟨bl', hA, ht, hb⟩ := st
 have hmem := List.mem_of_getElem? hm
 have hlt := (List.getElem?_eq_some_iff.1 hm).1
 have hl := h.lt
 have hcells : ({ m with bl := bl', q := q } : PMap).cells = m.cells := rfl
 have hmlt := (h.maps m hmem).lt
 refine ⟨{ x with maps := x.maps.set i { m with bl := bl', q := q } }, ⟨?_, ?_, fun m' hm' => ?_, fun m' hm' => ?_, h.apTop, fun m' hm' b hb' => ?_, fun j k mj mk hj hk' hjk y hy => ?_, by show (x.maps.set i _).length ≤ 8; rw [List.length_set]; exact h.many⟩, ?_, rfl, rfl, ?_, ht.mono (fun b hb => Or.inl (PT.mem_map hmem hb)), fun b hb' => ?_⟩
 ·have := ht.blk h.self (fun hx => h.apT m hmem _ hx (by simp [PT.top]))
  show Blk w' x.t [_, slV x.g (x.maps.set i _).length x.cap] _
  rw [List.length_set]
  exact this
 ·have := h.row.touch ht (fun b hb hx => h.apT m hmem _ hx (PT.mem_g hb))
  show RowAt w' _ 5 x.g (x.maps.set i _).length x.cap ((x.maps.set i _).flatMap PMap.cells)
  rw [List.length_set, flat5_set x.maps i m _ hm hcells]
  exact this
 ·obtain ⟨j, hj⟩ := List.getElem?_of_mem (show m' ∈ x.maps.set i { m with bl := bl', q := q } from hm')
  by_cases e : i = j
  ·subst e
   rw [List.getElem?_set_self hlt] at hj
   injection hj with hj
   subst hj
   exact hA
  ·rw [List.getElem?_set_ne e] at hj
   exact (h.maps _ (List.mem_of_getElem? hj)).touch ht (fun b hb hx => h.apM j i _ m hj hm (fun e2 => e e2.symm) b hb hx)
 ·rcases List.mem_or_eq_of_mem_set (show m' ∈ x.maps.set i _ from hm') with hx | rfl
  ·exact h.ok m' hx
  ·have ho := h.ok m hmem
   exact ⟨by show q.kind = m.d.kind; rw [hk.kind]; exact ho.kind, by show q.size = m.d.key; rw [hk.size]; exact ho.key, by show (q.slots.length : Int) = m.d.max; rw [hk.slots]; exact ho.max, ho.v1, ho.v2⟩
 ·rcases List.mem_or_eq_of_mem_set (show m' ∈ x.maps.set i _ from hm') with hx | rfl
  ·exact h.apT m' hx b hb'
  ·rcases hb b hb' with h1 | h1
   ·exact h.apT m hmem b h1
   ·intro hx
    have := hl b (PT.mem_top hx)
    omega
 ·have hj : (x.maps.set i { m with bl := bl', q := q })[j]? = some mj := hj
  have hk' : (x.maps.set i { m with bl := bl', q := q })[k]? = some mk := hk'
  by_cases ej : i = j
  ·subst ej
   rw [List.getElem?_set_self hlt] at hj
   rw [List.getElem?_set_ne hjk] at hk'
   injection hj with hj
   subst hj
   rcases hb y hy with h1 | h1
   ·exact h.apM i k m mk hm hk' hjk y h1
   ·intro hx
    have := (h.maps mk (List.mem_of_getElem? hk')).lt y hx
    omega
  ·rw [List.getElem?_set_ne ej] at hj
   by_cases ek : i = k
   ·subst ek
    rw [List.getElem?_set_self hlt] at hk'
    injection hk' with hk'
    subst hk'
    intro hx
    rcases hb y hx with h1 | h1
    ·exact h.apM j i mj m hj hm hjk y hy h1
    ·have := (h.maps mj (List.mem_of_getElem? hj)).lt y hy
     omega
   ·rw [List.getElem?_set_ne ek] at hk'
    exact h.apM j k mj mk hj hk' hjk y hy
 ·unfold PT.qs
  show (x.maps.set i { m with bl := bl', q := q }).map PMap.q = _
  rw [List.map_set]
 ·exact pmap_set_same _ _ _ m _ hm rfl
 ·rcases List.mem_append.1 hb' with hb' | hb'
  ·exact Or.inl (PT.mem_top hb')
  ·obtain ⟨m', hm', hb'⟩ := List.mem_flatMap.1 hb'
   rcases List.mem_or_eq_of_mem_set (show m' ∈ x.maps.set i { m with bl := bl', q := q } from hm') with hx | rfl
   ·exact Or.inl (PT.mem_map hx hb')
   ·rcases hb b hb' with h1 | h1
    ·exact Or.inl (PT.mem_map hmem h1)
    ·exact Or.inr h1
def plI (i s : Int) : Int := 137438953472 + i * 4294967296 + s * 4096
theorem place_any (w : World) (i s : Nat) (hi : i < 8) (hs : s < 64) : Calls Try.prog 17 #[.int .i64 (i : Int), .int .i64 (s : Int)] w fun e w' => e = .returned (.int .u64 (plI i s)) ∧ w' = w := by
 have h1 : IntKind.u64.wrap (i : Int) = i := by rw [IntKind.wrap_u64]; omega
 have h2 : IntKind.u64.wrap (s : Int) = s := by rw [IntKind.wrap_u64]; omega
 have h3 : IntKind.u64.wrap ((i : Int) * 4294967296) = i * 4294967296 := by rw [IntKind.wrap_u64]; omega
 have h4 : IntKind.u64.wrap ((s : Int) * 4096) = s * 4096 := by rw [IntKind.wrap_u64]; omega
 have h5 : IntKind.u64.wrap (137438953472 + (i : Int) * 4294967296) = 137438953472 + i * 4294967296 := by rw [IntKind.wrap_u64]; omega
 have h6 : IntKind.u64.wrap (137438953472 + (i : Int) * 4294967296 + s * 4096) = 137438953472 + i * 4294967296 + s * 4096 := by rw [IntKind.wrap_u64]; omega
 unfold plI
 go_enter Try.func17, Try.ntmps17
 go_wp2
 go_ret
 exact ⟨rfl, rfl⟩
def PMap.v (m : PMap) : Value := .agg #[.int .i64 m.d.kind, .int .i64 m.d.key, .int .i64 m.d.val, .int .i64 m.d.max, ixV m.d.kind m.X]
def zeroV : Value := .agg #[.int .i64 0, .int .i64 0, .int .i64 0, .int .i64 0, .nilIface]
def mapV : Option PMap → Value
 | some m => m.v
 | none => zeroV
def PT.nth (x : PT) (i : Int) : Option PMap := if 0 ≤ i then x.maps[i.toNat]? else none
def numE : Option PMap → Int
 | some _ => 0
 | none => 14
theorem zero89 : (Try.prog.info? 55).map (fun i => (i.zero, i.size)) = some (some (.agg #[.int .i64 0, .int .i64 0, .int .i64 0, .int .i64 0, .nilIface]), 5) := by kernel_rfl
theorem numbered_any {w : World} {x : PT} (h : PTAt w x) (i : Int) :
  Calls Try.prog 29 #[.pointer (some ⟨x.t, 0, none⟩), .int .i64 i] w fun e w' => e = .returned (.tuple #[mapV (x.nth i), .int .i64 (numE (x.nth i))]) ∧ Touch [] w w' := by
 have hz := (zero_of_info (P := Try.prog) zero89).1
 have hsz := (zero_of_info (P := Try.prog) zero89).2
 have hta : ∀ o, Touch [] w (w.alloc o) := fun o => (Touch.refl [] w).alloc o
 have c1 := fun o => (h.still (hta o)).c1
 unfold slV at c1
 have hm8 := h.many
 by_cases hi : 0 ≤ i
 ·obtain ⟨k, rfl⟩ := Int.eq_ofNat_of_zero_le hi
  cases hm : x.maps[k]? with
  | some m =>
   have hn : x.nth k = some m := by unfold PT.nth; rw [if_pos hi, Int.toNat_natCast, hm]
   rw [hn]
   have hkl : (k : Int) < x.maps.length := by have := (List.getElem?_eq_some_iff.1 hm).1; omega
   obtain ⟨gb, hg, _⟩ := h.at_ hm
   have hb := fun o => (h.still (hta o)).boxed hm hg
   have d0 := fun o => (hb o).1
   have d1 := fun o => (hb o).2.1
   have d2 := fun o => (hb o).2.2.1
   have d3 := fun o => (hb o).2.2.2.1
   have d4 := fun o => (hb o).2.2.2.2
   simp only [hg, Option.map_some] at c1
   have HF := toHid hta
   simp only [mapV, numE, PMap.v, ixV]
   unfold ixV at d4
   generalize typF m.d.kind = ty at *
   generalize x.maps.length = L at *
   clear h hm hn hb hg hta
   go_enter Try.func29, Try.ntmps29
   go_wp2
   exact bodyPost_ret (v := .tuple #[.agg #[.int .i64 m.d.kind, .int .i64 m.d.key, .int .i64 m.d.val, .int .i64 m.d.max, .iface ty (.pointer (some ⟨m.X, 0, none⟩))], .int .i64 0]) (by simp [results, Try.results29, go_sem]) rfl ⟨rfl, HF.out _⟩
  | none =>
   have hn : x.nth k = none := by unfold PT.nth; rw [if_pos hi, Int.toNat_natCast, hm]
   rw [hn]
   have hle : (x.maps.length : Int) ≤ k := by have := List.getElem?_eq_none_iff.1 hm; omega
   have HF := toHid hta
   unfold mapV numE zeroV
   generalize x.maps.length = L at *
   generalize (x.g.map fun b => (⟨b, 0, none⟩ : Addr)) = sg at *
   clear h hm hn hta
   go_enter Try.func29, Try.ntmps29
   go_wp2
   exact bodyPost_ret (v := .tuple #[.agg #[.int .i64 0, .int .i64 0, .int .i64 0, .int .i64 0, .nilIface], .int .i64 14]) (by simp [results, Try.results29, go_sem]) rfl ⟨rfl, HF.out _⟩
 ·have hn : x.nth i = none := by unfold PT.nth; rw [if_neg hi]
  rw [hn]
  have hlt : i < 0 := by omega
  have HF := toHid hta
  unfold mapV numE zeroV
  generalize x.maps.length = L at *
  generalize (x.g.map fun b => (⟨b, 0, none⟩ : Addr)) = sg at *
  clear h hn hi hta
  go_enter Try.func29, Try.ntmps29
  go_wp2
  exact bodyPost_ret (v := .tuple #[.agg #[.int .i64 0, .int .i64 0, .int .i64 0, .int .i64 0, .nilIface], .int .i64 14]) (by simp [results, Try.results29, go_sem]) rfl ⟨rfl, HF.out _⟩
def chkP (ds : List MDef) (i : Int) (n : Nat) : Int := if 0 ≤ i ∧ i < ds.length then (match ds[i.toNat]? with
 | some d => if (n : Int) = d.key then 0 else 2
 | none => 14) else 14
def askV (x : PT) (i : Int) (n : Nat) : Value := if chkP x.ds i n = 0 then mapV (x.nth i) else zeroV
theorem chk_ok {x : PT} {i : Int} {n : Nat} (h : chkP x.ds i n = 0) : ∃ (k : Nat) (m : PMap), i = k ∧ x.maps[k]? = some m ∧ (n : Int) = m.d.key := by
 unfold chkP at h
 split at h
 ·rename_i hi
  refine ⟨i.toNat, ?_⟩
  unfold PT.ds at h
  rw [List.getElem?_map] at h
  cases hm : x.maps[i.toNat]? with
  | none => rw [hm] at h; cases h
  | some m =>
   rw [hm] at h
   refine ⟨m, by omega, rfl, ?_⟩
   by_cases e : (n : Int) = m.d.key
   ·exact e
   ·change (if (n : Int) = m.d.key then (0 : Int) else 2) = 0 at h
    rw [if_neg e] at h
    cases h
 ·cases h
theorem nth_of {x : PT} {k : Nat} {m : PMap} (h : x.maps[k]? = some m) : x.nth k = some m := by unfold PT.nth; rw [if_pos (by omega), Int.toNat_natCast, h]
theorem chk_nth (x : PT) (i : Int) (n : Nat) : chkP x.ds i n = match x.nth i with
  | some m => if (n : Int) = m.d.key then 0 else 2
  | none => 14 := by
 unfold chkP PT.nth PT.ds
 rw [List.getElem?_map, List.length_map]
 by_cases hi : 0 ≤ i
 ·rw [if_pos hi]
  by_cases hl : i < x.maps.length
  ·rw [if_pos ⟨hi, hl⟩, List.getElem?_eq_getElem (by omega)]
   rfl
  ·rw [if_neg (fun hh => hl hh.2), List.getElem?_eq_none (by omega)]
 ·rw [if_neg hi, if_neg (fun hh => hi hh.1)]
theorem Touch.set5 {w w' : World} (h : Touch [] w w') {b : Nat} (hb : w.heap.size ≤ b) (v0 v1 v2 v3 v4 : Value) : Touch [] w (((((w'.setCell ⟨b, 0, none⟩ v0).setCell ⟨b, 1, none⟩ v1).setCell ⟨b, 2, none⟩ v2).setCell ⟨b, 3, none⟩ v3).setCell ⟨b, 4, none⟩ v4) :=
 ((((h.setCell _ _ (Or.inr hb)).setCell _ _ (Or.inr hb)).setCell _ _ (Or.inr hb)).setCell _ _ (Or.inr hb)).setCell _ _ (Or.inr hb)
theorem Blk.set5v {w : World} {b : Nat} {t : TypeId} {a0 a1 a2 a3 a4 : Value} (h : Blk w b [a0, a1, a2, a3, a4] t) (v0 v1 v2 v3 v4 : Value) : Blk (((((w.setCell ⟨b, 0, none⟩ v0).setCell ⟨b, 1, none⟩ v1).setCell ⟨b, 2, none⟩ v2).setCell ⟨b, 3, none⟩ v3).setCell ⟨b, 4, none⟩ v4) b [v0, v1, v2, v3, v4] t :=
 ((((h.setCell 0 v0).setCell 1 v1).setCell 2 v2).setCell 3 v3).setCell 4 v4
theorem asked_any {w : World} {x : PT} (h : PTAt w x) (i : Int) (sa : Option Addr) (sl sc : Nat) (_hsl : sl ≤ 9223372036854775807) :
  Calls Try.prog 15 #[.pointer (some ⟨x.t, 0, none⟩), .int .i64 i, .slice sa sl sc] w fun e w' => e = .returned (.tuple #[askV x i sl, .int .i64 (chkP x.ds i sl)]) ∧ Touch [] w w' := by
 have hz := (zero_of_info (P := Try.prog) zero89).1
 have hsz := (zero_of_info (P := Try.prog) zero89).2
 have hta : ∀ o, Touch [] w (w.alloc o) := fun o => (Touch.refl [] w).alloc o
 have H1 := toHid (fun o => numbered_any (h.still (hta o)) i)
 have hv := chk_nth x i sl
 have HT := toHid hta
 have hNB := Blk.newA w #[.int .i64 0, .int .i64 0, .int .i64 0, .int .i64 0, .nilIface] _ 55 rfl
 have HB := toHid hNB
 clear h hta hNB
 cases hn : x.nth i with
 | none =>
  simp only [hn, mapV, numE, zeroV] at H1
  have hc : chkP x.ds i sl = 14 := by rw [hv, hn]
  have ha : askV x i sl = zeroV := by unfold askV; rw [if_neg (by rw [hc]; decide)]
  rw [ha, hc]
  clear hn hv hc ha
  unfold zeroV
  go_enter Try.func15, Try.ntmps15
  go_wp2_with fail
  refine Calls.mono (H1.out _) ?_
  rintro e w2 ⟨rfl, ht2⟩
  have hta2 : ∀ o, Touch [] w2 (w2.alloc o) := fun o => (Touch.refl [] w2).alloc o
  have hb2 := fun o => (hta2 o).blk (ht2.blk HB.out (by simp)) (by simp)
  have c0 := fun o => (hb2 o).cell (i := 0) rfl
  have c1 := fun o => (hb2 o).cell (i := 1) rfl
  have c2 := fun o => (hb2 o).cell (i := 2) rfl
  have c3 := fun o => (hb2 o).cell (i := 3) rfl
  have c4 := fun o => (hb2 o).cell (i := 4) rfl
  have f0 := fun o => (hb2 o).frozen 0
  have f1 := fun o => (hb2 o).frozen 1
  have f2 := fun o => (hb2 o).frozen 2
  have f3 := fun o => (hb2 o).frozen 3
  have f4 := fun o => (hb2 o).frozen 4
  have HE : Hid (∀ o v0 v1 v2 v3 v4, Blk ((((((w2.alloc o).setCell ⟨w.heap.size, 0, none⟩ v0).setCell ⟨w.heap.size, 1, none⟩ v1).setCell ⟨w.heap.size, 2, none⟩ v2).setCell ⟨w.heap.size, 3, none⟩ v3).setCell ⟨w.heap.size, 4, none⟩ v4) w.heap.size [v0, v1, v2, v3, v4] 55 ∧ Touch [] w ((((((w2.alloc o).setCell ⟨w.heap.size, 0, none⟩ v0).setCell ⟨w.heap.size, 1, none⟩ v1).setCell ⟨w.heap.size, 2, none⟩ v2).setCell ⟨w.heap.size, 3, none⟩ v3).setCell ⟨w.heap.size, 4, none⟩ v4)) := fun o v0 v1 v2 v3 v4 => ⟨(hb2 o).set5v v0 v1 v2 v3 v4, (((HT.out _).trans ht2 (by simp)).trans (hta2 o) (by simp)).set5 (Nat.le_refl _) v0 v1 v2 v3 v4⟩
  clear ht2 hb2 hta2 H1
  go_wp2
  obtain ⟨HE1, HE2⟩ := HE.out _ _ _ _ _ _
  have HE2 := toHid HE2
  have e0 := HE1.cell (i := 0) rfl
  have e1 := HE1.cell (i := 1) rfl
  have e2 := HE1.cell (i := 2) rfl
  have e3 := HE1.cell (i := 3) rfl
  have e4 := HE1.cell (i := 4) rfl
  refine bodyPost_ret (v := .tuple #[.agg #[.int .i64 0, .int .i64 0, .int .i64 0, .int .i64 0, .nilIface], .int .i64 14]) ?_ rfl ⟨rfl, HE2.out⟩
  simp [results, Try.results15, go_sem, e0, e1, e2, e3, e4]
 | some m =>
  simp only [hn, mapV, numE, PMap.v, ixV] at H1
  by_cases he : (sl : Int) = m.d.key
  ·have hc : chkP x.ds i sl = 0 := by rw [hv, hn]; exact if_pos he
   have ha : askV x i sl = mapV (some m) := by unfold askV; rw [if_pos hc, hn]
   rw [ha, hc]
   simp only [mapV, PMap.v, ixV]
   clear hn hv hc ha
   have hs : ((sl : Int) != m.d.key) = false := by simpa using he
   clear he
   generalize typF m.d.kind = ty at *
   generalize m.d.kind = kd at *
   generalize m.d.key = ky at *
   generalize m.d.val = vl at *
   generalize m.d.max = mx at *
   generalize m.X = X at *
   go_enter Try.func15, Try.ntmps15
   go_wp2_with fail
   refine Calls.mono (H1.out _) ?_
   rintro e w2 ⟨rfl, ht2⟩
   have hta2 : ∀ o, Touch [] w2 (w2.alloc o) := fun o => (Touch.refl [] w2).alloc o
   have hb2 := fun o => (hta2 o).blk (ht2.blk HB.out (by simp)) (by simp)
   have c0 := fun o => (hb2 o).cell (i := 0) rfl
   have c1 := fun o => (hb2 o).cell (i := 1) rfl
   have c2 := fun o => (hb2 o).cell (i := 2) rfl
   have c3 := fun o => (hb2 o).cell (i := 3) rfl
   have c4 := fun o => (hb2 o).cell (i := 4) rfl
   have f0 := fun o => (hb2 o).frozen 0
   have f1 := fun o => (hb2 o).frozen 1
   have f2 := fun o => (hb2 o).frozen 2
   have f3 := fun o => (hb2 o).frozen 3
   have f4 := fun o => (hb2 o).frozen 4
   have HE : Hid (∀ o v0 v1 v2 v3 v4, Blk ((((((w2.alloc o).setCell ⟨w.heap.size, 0, none⟩ v0).setCell ⟨w.heap.size, 1, none⟩ v1).setCell ⟨w.heap.size, 2, none⟩ v2).setCell ⟨w.heap.size, 3, none⟩ v3).setCell ⟨w.heap.size, 4, none⟩ v4) w.heap.size [v0, v1, v2, v3, v4] 55 ∧ Touch [] w ((((((w2.alloc o).setCell ⟨w.heap.size, 0, none⟩ v0).setCell ⟨w.heap.size, 1, none⟩ v1).setCell ⟨w.heap.size, 2, none⟩ v2).setCell ⟨w.heap.size, 3, none⟩ v3).setCell ⟨w.heap.size, 4, none⟩ v4)) := fun o v0 v1 v2 v3 v4 => ⟨(hb2 o).set5v v0 v1 v2 v3 v4, (((HT.out _).trans ht2 (by simp)).trans (hta2 o) (by simp)).set5 (Nat.le_refl _) v0 v1 v2 v3 v4⟩
   clear ht2 hb2 hta2 H1
   go_wp2
   obtain ⟨HE1, HE2⟩ := HE.out _ _ _ _ _ _
   have HE2 := toHid HE2
   have e0 := HE1.cell (i := 0) rfl
   have e1 := HE1.cell (i := 1) rfl
   have e2 := HE1.cell (i := 2) rfl
   have e3 := HE1.cell (i := 3) rfl
   have e4 := HE1.cell (i := 4) rfl
   refine bodyPost_ret (v := .tuple #[.agg #[.int .i64 kd, .int .i64 ky, .int .i64 vl, .int .i64 mx, .iface ty (.pointer (some ⟨X, 0, none⟩))], .int .i64 0]) ?_ rfl ⟨rfl, HE2.out⟩
   simp [results, Try.results15, go_sem, e0, e1, e2, e3, e4]
  ·have hc : chkP x.ds i sl = 2 := by rw [hv, hn]; exact if_neg he
   have ha : askV x i sl = zeroV := by unfold askV; rw [if_neg (by rw [hc]; decide)]
   rw [ha, hc]
   clear hn hv hc ha
   have hs : ((sl : Int) != m.d.key) = true := by simpa using he
   unfold zeroV
   clear he
   generalize typF m.d.kind = ty at *
   generalize m.d.kind = kd at *
   generalize m.d.key = ky at *
   generalize m.d.val = vl at *
   generalize m.d.max = mx at *
   generalize m.X = X at *
   go_enter Try.func15, Try.ntmps15
   go_wp2_with fail
   refine Calls.mono (H1.out _) ?_
   rintro e w2 ⟨rfl, ht2⟩
   have hta2 : ∀ o, Touch [] w2 (w2.alloc o) := fun o => (Touch.refl [] w2).alloc o
   have hb2 := fun o => (hta2 o).blk (ht2.blk HB.out (by simp)) (by simp)
   have c0 := fun o => (hb2 o).cell (i := 0) rfl
   have c1 := fun o => (hb2 o).cell (i := 1) rfl
   have c2 := fun o => (hb2 o).cell (i := 2) rfl
   have c3 := fun o => (hb2 o).cell (i := 3) rfl
   have c4 := fun o => (hb2 o).cell (i := 4) rfl
   have f0 := fun o => (hb2 o).frozen 0
   have f1 := fun o => (hb2 o).frozen 1
   have f2 := fun o => (hb2 o).frozen 2
   have f3 := fun o => (hb2 o).frozen 3
   have f4 := fun o => (hb2 o).frozen 4
   have HE : Hid (∀ o v0 v1 v2 v3 v4, Blk ((((((w2.alloc o).setCell ⟨w.heap.size, 0, none⟩ v0).setCell ⟨w.heap.size, 1, none⟩ v1).setCell ⟨w.heap.size, 2, none⟩ v2).setCell ⟨w.heap.size, 3, none⟩ v3).setCell ⟨w.heap.size, 4, none⟩ v4) w.heap.size [v0, v1, v2, v3, v4] 55 ∧ Touch [] w ((((((w2.alloc o).setCell ⟨w.heap.size, 0, none⟩ v0).setCell ⟨w.heap.size, 1, none⟩ v1).setCell ⟨w.heap.size, 2, none⟩ v2).setCell ⟨w.heap.size, 3, none⟩ v3).setCell ⟨w.heap.size, 4, none⟩ v4)) := fun o v0 v1 v2 v3 v4 => ⟨(hb2 o).set5v v0 v1 v2 v3 v4, (((HT.out _).trans ht2 (by simp)).trans (hta2 o) (by simp)).set5 (Nat.le_refl _) v0 v1 v2 v3 v4⟩
   clear ht2 hb2 hta2 H1
   go_wp2
   obtain ⟨HE1, HE2⟩ := HE.out _ _ _ _ _ _
   have HE2 := toHid HE2
   have e0 := HE1.cell (i := 0) rfl
   have e1 := HE1.cell (i := 1) rfl
   have e2 := HE1.cell (i := 2) rfl
   have e3 := HE1.cell (i := 3) rfl
   have e4 := HE1.cell (i := 4) rfl
   refine bodyPost_ret (v := .tuple #[.agg #[.int .i64 0, .int .i64 0, .int .i64 0, .int .i64 0, .nilIface], .int .i64 2]) ?_ rfl ⟨rfl, HE2.out⟩
   simp [results, Try.results15, go_sem, e0, e1, e2, e3, e4]
end Go.Proofs.Ytmhhahmjkopjhaa
end
section
namespace Go.Proofs.Ytmhhahmjkopjhaa
open Go.RowKit
def lookP (x : PT) (i : Int) (bs : List Int) : (Int × Int) × List PX :=
 if chkP x.ds i bs.length = 0 then match x.qs[i.toNat]? with
  | some q => ((match (q.findA bs).1 with
   | some s => plI i (s : Int)
   | none => 0, 0), x.qs.set i.toNat (q.findA bs).2)
  | none => ((0, 14), x.qs)
 else ((0, chkP x.ds i bs.length), x.qs)
def PLookPost (w : World) (x : PT) (a : (Int × Int) × List PX) (e : Ending) (w' : World) : Prop := e = .returned (.tuple #[.int .u64 a.1.1, .int .i64 a.1.2]) ∧ ∃ x', PStep w w' x x' a.2
theorem pfind_lt {q : PX} {bs : List Int} {s : Nat} (h : (q.findA bs).1 = some s) : s < q.slots.length := by
 unfold PX.findA at h
 split at h
 ·unfold PX.find3 at h
  split at h
  ·exact (longTo_some h).1
  ·cases h
 ·unfold PX.find at h
  split at h
  ·exact sameP_lt h
  ·cases h
theorem method_find (k : Int) (k0 : 0 ≤ k) (k3 : k ≤ 3) (X : Nat) (n : Nat) : ∀ w : World, (method (n + 1) (typF k) (.pointer (some ⟨X, 0, none⟩)) "Find").run Try.prog w = .ok (findF k, .pointer (some ⟨X, 0, none⟩)) w := by
 obtain rfl | rfl | rfl | rfl : k = 0 ∨ k = 1 ∨ k = 2 ∨ k = 3 := by omega
 all_goals (intro w; kernel_rfl)
theorem call_find (k : Int) (k0 : 0 ≤ k) (k3 : k ≤ 3) : ∀ (args : Array Value) (w : World), (callFunc (findF k) args).run Try.prog w = .ok (.enter (findF k) args) w := by
 obtain rfl | rfl | rfl | rfl : k = 0 ∨ k = 1 ∨ k = 2 ∨ k = 3 := by omega
 all_goals (intro args w; kernel_rfl)
theorem plookup_any {w : World} {x : PT} (h : PTAt w x) (i : Int) {sa : Option Addr} {sl : Nat} {bs : List Int} (hk : KeyAt w sa sl bs) (sc : Nat) (hsc : sl ≤ sc) :
  Calls Try.prog 9 #[.pointer (some ⟨x.t, 0, none⟩), .int .i64 i, .slice sa sl sc] w (PLookPost w x (lookP x i bs)) := by
 have hz := (zero_of_info (P := Try.prog) zero89).1
 have hsz := (zero_of_info (P := Try.prog) zero89).2
 have H1 := toHid (asked_any h i sa sl sc (by have := hk.1; have := hk.2.2.1; omega))
 have hl := hk.1
 subst hl
 by_cases h0 : chkP x.ds i bs.length = 0
 ·obtain ⟨k, m, rfl, hm, hkey⟩ := chk_ok h0
  have hmem := List.mem_of_getElem? hm
  have hqs : x.qs[k]? = some m.q := by unfold PT.qs; rw [List.getElem?_map, hm]; rfl
  have hv : lookP x k bs = ((match (m.q.findA bs).1 with
   | some s => plI k (s : Int)
   | none => 0, 0), x.qs.set k (m.q.findA bs).2) := by
   unfold lookP
   rw [if_pos h0, Int.toNat_natCast, hqs]
  have ha : askV x k bs.length = m.v := by unfold askV; rw [if_pos h0, nth_of hm]; rfl
  rw [h0, ha] at H1
  rw [hv]
  have hok := h.ok m hmem
  have hgood := (h.maps m hmem).good
  have hkd := hok.kind
  have HMT := method_find m.d.kind (by rw [← hkd]; exact hgood.k0) (by rw [← hkd]; exact hgood.k3) m.X
  have HCF := call_find m.d.kind (by rw [← hkd]; exact hgood.k0) (by rw [← hkd]; exact hgood.k3)
  have HF := toHid (fun w0 (ht : Touch [] w w0) => kfind_any ((h.maps m hmem).still ht) (hk.touch ht) sc hsc)
  rw [hkd] at HF
  have HG := toHid (And.intro h (And.intro hm (hgood.findA bs)))
  have HS64 : Hid (∀ s, (m.q.findA bs).1 = some s → s < 64) := fun s hs => by
   have h1 := pfind_lt hs
   have h2 := hgood.m2
   omega
  have hk8 : k < 8 := by have := (List.getElem?_eq_some_iff.1 hm).1; have := h.many; omega
  unfold PMap.v ixV at H1
  generalize m.q.findA bs = fq at *
  obtain ⟨fo, q⟩ := fq
  generalize typF m.d.kind = ty at *
  generalize findF m.d.kind = ff at *
  clear h hk h0 hmem hqs hv ha hok hgood hkd hkey hm
  go_enter Try.func9, Try.ntmps9
  go_wp2_with fail
  refine Calls.mono H1.out ?_
  rintro e w2 ⟨rfl, ht2⟩
  have hta : ∀ o, Touch [] w (w2.alloc o) := fun o => ht2.alloc o
  have HT := toHid hta
  clear ht2 hta H1
  go_wp2_with fail
  refine Calls.mono (HF.out _ (HT.out _)) ?_
  rintro e w3 ⟨rfl, st⟩
  have HX := toHid (HG.out.1.step HG.out.2.1 (st.of_still (HT.out _)) HG.out.2.2.2)
  clear st HF HMT HCF
  cases fo with
  | none =>
   unfold foundV idx0
   go_wp2
   go_ret2
   exact ⟨rfl, HX.out⟩
  | some s =>
   have H3 := toHid (place_any w3 k s hk8 (HS64.out s rfl))
   unfold foundV idx0
   go_wp2_with fail
   refine Calls.mono H3.out ?_
   rintro e w3 ⟨rfl, rfl⟩
   go_wp2
   go_ret2
   exact ⟨rfl, HX.out⟩
 ·have hv : lookP x i bs = ((0, chkP x.ds i bs.length), x.qs) := if_neg h0
  have ha : askV x i bs.length = zeroV := if_neg h0
  rw [ha] at H1
  rw [hv]
  have HX := toHid h
  have hne : (chkP x.ds i bs.length != 0) = true := by simpa using h0
  generalize chkP x.ds i bs.length = ce at *
  unfold zeroV at H1
  clear h hk h0 hv ha
  go_enter Try.func9, Try.ntmps9
  go_wp2_with fail
  refine Calls.mono H1.out ?_
  rintro e w2 ⟨rfl, ht2⟩
  have HF : Hid (∀ o, ∃ x', PStep w (w2.alloc o) x x' x.qs) := fun o => ⟨x, PStep.refl HX.out (ht2.alloc o)⟩
  clear ht2
  go_wp2
  go_ret2
  exact ⟨rfl, HF.out _⟩
def delP (x : PT) (i : Int) (bs : List Int) : Int × List PX :=
 if chkP x.ds i bs.length = 0 then match x.qs[i.toNat]? with
  | some q => ((q.delA bs).1.2, x.qs.set i.toNat (q.delA bs).2)
  | none => (14, x.qs)
 else (chkP x.ds i bs.length, x.qs)
def PDelPost (w : World) (x : PT) (a : Int × List PX) (e : Ending) (w' : World) : Prop := e = .returned (.int .i64 a.1) ∧ ∃ x', PStep w w' x x' a.2
theorem method_del (k : Int) (k0 : 0 ≤ k) (k3 : k ≤ 3) (X : Nat) (n : Nat) : ∀ w : World, (method (n + 1) (typF k) (.pointer (some ⟨X, 0, none⟩)) "Del").run Try.prog w = .ok (delF k, .pointer (some ⟨X, 0, none⟩)) w := by
 obtain rfl | rfl | rfl | rfl : k = 0 ∨ k = 1 ∨ k = 2 ∨ k = 3 := by omega
 all_goals (intro w; kernel_rfl)
theorem call_del (k : Int) (k0 : 0 ≤ k) (k3 : k ≤ 3) : ∀ (args : Array Value) (w : World), (callFunc (delF k) args).run Try.prog w = .ok (.enter (delF k) args) w := by
 obtain rfl | rfl | rfl | rfl : k = 0 ∨ k = 1 ∨ k = 2 ∨ k = 3 := by omega
 all_goals (intro args w; kernel_rfl)
theorem pdelete_any {w : World} {x : PT} (h : PTAt w x) (i : Int) {sa : Option Addr} {sl : Nat} {bs : List Int} (hk : KeyAt w sa sl bs) (sc : Nat) (hsc : sl ≤ sc) :
  Calls Try.prog 11 #[.pointer (some ⟨x.t, 0, none⟩), .int .i64 i, .slice sa sl sc] w (PDelPost w x (delP x i bs)) := by
 have hz := (zero_of_info (P := Try.prog) zero89).1
 have hsz := (zero_of_info (P := Try.prog) zero89).2
 have H1 := toHid (asked_any h i sa sl sc (by have := hk.1; have := hk.2.2.1; omega))
 have hl := hk.1
 subst hl
 by_cases h0 : chkP x.ds i bs.length = 0
 ·obtain ⟨k, m, rfl, hm, hkey⟩ := chk_ok h0
  have hmem := List.mem_of_getElem? hm
  have hqs : x.qs[k]? = some m.q := by unfold PT.qs; rw [List.getElem?_map, hm]; rfl
  have hv : delP x k bs = ((m.q.delA bs).1.2, x.qs.set k (m.q.delA bs).2) := by
   unfold delP
   rw [if_pos h0, Int.toNat_natCast, hqs]
  have ha : askV x k bs.length = m.v := by unfold askV; rw [if_pos h0, nth_of hm]; rfl
  rw [h0, ha] at H1
  rw [hv]
  have hok := h.ok m hmem
  have hgood := (h.maps m hmem).good
  have hkd := hok.kind
  have HMT := method_del m.d.kind (by rw [← hkd]; exact hgood.k0) (by rw [← hkd]; exact hgood.k3) m.X
  have HCF := call_del m.d.kind (by rw [← hkd]; exact hgood.k0) (by rw [← hkd]; exact hgood.k3)
  have HF := toHid (fun w0 (ht : Touch [] w w0) => kdel_any ((h.maps m hmem).still ht) (hk.touch ht) sc hsc)
  rw [hkd] at HF
  have HG := toHid (And.intro h (And.intro hm (hgood.delA bs)))
  unfold PMap.v ixV at H1
  generalize m.q.delA bs = fq at *
  obtain ⟨⟨sd, er⟩, q⟩ := fq
  generalize typF m.d.kind = ty at *
  generalize delF m.d.kind = ff at *
  clear h hk h0 hmem hqs hv ha hok hgood hkd hkey hm
  go_enter Try.func11, Try.ntmps11
  go_wp2_with fail
  refine Calls.mono H1.out ?_
  rintro e w2 ⟨rfl, ht2⟩
  have hta : ∀ o, Touch [] w (w2.alloc o) := fun o => ht2.alloc o
  have HT := toHid hta
  clear ht2 hta H1
  go_wp2_with fail
  refine Calls.mono (HF.out _ (HT.out _)) ?_
  rintro e w3 ⟨rfl, st⟩
  have HX := toHid (HG.out.1.step HG.out.2.1 (st.of_still (HT.out _)) HG.out.2.2.2)
  clear st HF HMT HCF
  go_wp2
  go_ret
  exact ⟨rfl, HX.out⟩
 ·have hv : delP x i bs = (chkP x.ds i bs.length, x.qs) := if_neg h0
  have ha : askV x i bs.length = zeroV := if_neg h0
  rw [ha] at H1
  rw [hv]
  have HX := toHid h
  have hne : (chkP x.ds i bs.length != 0) = true := by simpa using h0
  generalize chkP x.ds i bs.length = ce at *
  unfold zeroV at H1
  clear h hk h0 hv ha
  go_enter Try.func11, Try.ntmps11
  go_wp2_with fail
  refine Calls.mono H1.out ?_
  rintro e w2 ⟨rfl, ht2⟩
  have HF : Hid (∀ o, ∃ x', PStep w (w2.alloc o) x x' x.qs) := fun o => ⟨x, PStep.refl HX.out (ht2.alloc o)⟩
  clear ht2
  go_wp2
  go_ret
  exact ⟨rfl, HF.out _⟩
end Go.Proofs.Ytmhhahmjkopjhaa
end
section
namespace Go.Proofs.Ytmhhahmjkopjhaa.Mem
open Go.RowKit
theorem info79 : (Try.prog.info? 87).map (fun i => (i.zero, i.size, i.bytes)) = some (some (.pointer none), 1, 8) := by kernel_rfl
theorem insert_end (g : Option Nat) (n cap k : Nat) (cs : List Value) (x : Value) (w : World) (h : RowAt w 87 1 g n cap cs) (hn : n ≤ 4096) (hx : x.oneCell' = true) (tk : TypeId)
  (hk : Blk w k [x] tk) :
  Calls Try.prog 39 #[slV g n cap, .int .i64 n, .slice (some ⟨k, 0, none⟩) 1 1] w fun e w' => ∃ g' cap', e = .returned (slV g' (n + 1) cap') ∧ RowAt w' 87 1 g' (n + 1) cap' (cs ++ [x]) ∧ Touch g.toList w w' ∧
   (g' = g ∨ g' = some w.heap.size) ∧ (g' = some w.heap.size → w.heap.size < w'.heap.size) := by
 obtain ⟨i, hi, hz, hs, hb⟩ := info_of info79
 obtain ⟨g', cap', w', hr, h2, h3, h4, h5⟩ := run_append_row (P := Try.prog) w 44 44 87 i (.pointer none) 1 Try.underlying44 hi hz hs rfl (by omega) g n cap cs h ⟨k, 0, none⟩ 1 1 [x] rfl
  (fun j v hj => by
   have : j = 0 := by have := (List.getElem?_eq_some_iff.1 hj).1; simp at this; exact this
   subst this
   exact hk.cell hj) (fun u hu => by simp at hu; subst hu; exact hx) (by rw [hb]; omega) (by omega)
 have hnc := h.2.1
 have HR : Hid ((Builtin.append_ #[44, 44] 44 #[slV g n cap, .slice (some ⟨k, 0, none⟩) 1 1]).run Try.prog w = .ok (slV g' (n + 1) cap') w') := hr
 clear hr
 cases g with
 | none =>
  simp only [slV_none] at HR ⊢
  obtain rfl : cap = 0 := h.2.2.2
  obtain rfl : n = 0 := by omega
  go_enter Try.func39, Try.ntmps39
  go_wp2_with (at_builtin; refine Lib.wpList_append_run _ rfl _ _ _ _ rfl _ _ rfl rfl _ _ HR.out ?_)
  go_ret
  exact ⟨g', cap', rfl, h2, h3, h4, h5⟩
 | some b =>
  simp only [slV_some] at HR ⊢
  go_enter Try.func39, Try.ntmps39
  go_wp2_with (at_builtin; refine Lib.wpList_append_run _ rfl _ _ _ _ rfl _ _ rfl rfl _ _ HR.out ?_)
  all_goals
   go_ret
   exact ⟨g', cap', rfl, h2, h3, h4, h5⟩
theorem hov (k b la off lb cb : Nat) (w : World) (ds cs : List Value) (tk : TypeId) (hne : k ≠ b) (hk : Blk w k ds tk) (hb : Blk w b cs 87) (hb0 : cs.length ≠ 0) :
  (callFunc 45 #[.slice (some ⟨k, 0, none⟩) la la, .slice (some ⟨b, off, none⟩) lb cb]).run Try.prog w = .ok (.value (.bool false)) w := by
 rw [run_callFunc_extern Try.func45 (by kernel_rfl) (by kernel_rfl) (by kernel_rfl) (e := Extern.SlicesOverlaps.overlaps #[44, 44] #[4]) (by kernel_rfl),
   Lib.run_overlaps_apart w 44 4 87 Try.underlying44 1 (sizeOf_of_info info79) ⟨k, 0, none⟩ ⟨b, off, none⟩ la la lb cb hne tk 87 ds.length cs.length hk.shape hb.shape hb0 (hk.frozen _) (hk.frozen _)]
 rfl
theorem insert_shift (b n cap i k : Nat) (cs rest : List Value) (x : Value) (w : World) (hcl : cs.length = n) (hn : n ≤ 4096) (hin : i < n) (hroom : n + 1 ≤ cap) (hcap : cap ≤ n + rest.length) (hcm : cap ≤ maxLen)
  (hb : Blk w b (cs ++ rest) 87) (hx : x.oneCell' = true) (h1 : ∀ u ∈ cs, u.oneCell' = true) (tk : TypeId) (hk : Blk w k [x] tk) (hkb : k ≠ b) :
  Calls Try.prog 39 #[.slice (some ⟨b, 0, none⟩) n cap, .int .i64 i, .slice (some ⟨k, 0, none⟩) 1 1] w fun e w' => e = .returned (.slice (some ⟨b, 0, none⟩) (n + 1) cap) ∧ Blk w' b (cs.take i ++ x :: cs.drop i ++ rest.drop 1) 87 ∧ Touch [b] w w' := by
 unfold maxLen at hcm
 have hsz := size_of_info info79
 have hov1 : ∀ off lb cb, (callFunc 45 #[.slice (some ⟨k, 0, none⟩) 1 1, .slice (some ⟨b, off, none⟩) lb cb]).run Try.prog w = .ok (.value (.bool false)) w := fun off lb cb => hov k b 1 off lb cb w _ _ tk hkb hk hb (by rw [List.length_append]; omega)
 have hdl : (cs.drop i).length = n - i := by rw [List.length_drop, hcl]
 have hal : (cs ++ rest).length = n + rest.length := by rw [List.length_append, hcl]
 have hcp1 : ∀ ty dc sc, (Builtin.copy_ #[44, 44] ty #[.slice (some ⟨b, i + 1, none⟩) (n - i) dc, .slice (some ⟨b, i, none⟩) (n + 1 - i) sc]).run Try.prog w.drew = .ok (goInt (cs.drop i).length) (w.drew.setRow b ((cs ++ rest).take (i + 1) ++ cs.drop i ++ (cs ++ rest).drop (i + 1 + (cs.drop i).length)).toArray) := fun ty dc sc =>
  run_copy_blk w.drew 44 44 ty 87 Try.underlying44 hsz b (i + 1) _ _ ⟨b, i, none⟩ _ _ _ 87 (cs.drop i) hb.drew (by rw [hdl]; simp only [Nat.min_def]; split <;> omega) (fun j v hj => by
   rw [Addr.add_lit]
   rw [List.getElem?_drop] at hj
   exact hb.drew.cell (by rw [List.getElem?_append_left (List.getElem?_eq_some_iff.1 hj).1]; exact hj)) (by rw [hal, hdl]; omega) (fun v hv => h1 v (List.mem_of_mem_drop hv))
 have hX : (cs ++ rest).take (i + 1) ++ cs.drop i ++ (cs ++ rest).drop (i + 1 + (cs.drop i).length) = cs.take (i + 1) ++ cs.drop i ++ rest.drop 1 := by
  rw [List.take_append_of_le_length (by omega), hdl, show i + 1 + (n - i) = cs.length + 1 by omega, List.drop_append]
  simp
 rw [hX] at hcp1
 have hb1 : Blk (w.drew.setRow b (cs.take (i + 1) ++ cs.drop i ++ rest.drop 1).toArray) b _ 87 := hb.drew.setRow _
 have hk1 : Blk (w.drew.setRow b (cs.take (i + 1) ++ cs.drop i ++ rest.drop 1).toArray) k [x] tk := hk.drew.setRow_other _ _ hkb
 have ht1 : Touch [b] w (w.drew.setRow b (cs.take (i + 1) ++ cs.drop i ++ rest.drop 1).toArray) := (Touch.refl _ w).drew.setRow _ _ (Or.inl (by simp))
 generalize w.drew.setRow b (cs.take (i + 1) ++ cs.drop i ++ rest.drop 1).toArray = W1 at hcp1 hb1 hk1 ht1
 have hcp2 : ∀ ty dc, (Builtin.copy_ #[44, 44] ty #[.slice (some ⟨b, i, none⟩) (n + 1 - i) dc, .slice (some ⟨k, 0, none⟩) 1 1]).run Try.prog W1 = .ok (goInt [x].length) (W1.setRow b ((cs.take (i + 1) ++ cs.drop i ++ rest.drop 1).take i ++ [x] ++ (cs.take (i + 1) ++ cs.drop i ++ rest.drop 1).drop (i + [x].length)).toArray) := fun ty dc =>
  run_copy_blk W1 44 44 ty 87 Try.underlying44 hsz b i _ _ ⟨k, 0, none⟩ _ _ _ 87 [x] hb1 (by simp only [Nat.min_def, List.length_singleton]; split <;> omega) (fun j v hj => by
   have : j = 0 := by have := (List.getElem?_eq_some_iff.1 hj).1; simp at this; exact this
   subst this
   exact hk1.cell hj) (by simp [hcl]; omega) (fun v hv => by simp at hv; subst hv; exact hx)
 have hY : (cs.take (i + 1) ++ cs.drop i ++ rest.drop 1).take i ++ [x] ++ (cs.take (i + 1) ++ cs.drop i ++ rest.drop 1).drop (i + [x].length) = cs.take i ++ x :: cs.drop i ++ rest.drop 1 := by
  have e1 : (cs.take (i + 1)).length = i + 1 := by simp; omega
  rw [List.append_assoc (cs.take (i + 1)), List.take_append_of_le_length (l₁ := cs.take (i + 1)) (by omega), List.take_take, List.length_singleton, Nat.min_eq_left (by omega)]
  conv => lhs; arg 2; arg 1; rw [← e1]
  rw [List.drop_left]
  simp
 rw [hY] at hcp2
 have hb2 := hb1.setRow (cs.take i ++ x :: cs.drop i ++ rest.drop 1)
 have ht2 := ht1.setRow b (cs.take i ++ x :: cs.drop i ++ rest.drop 1).toArray (Or.inl (by simp))
 generalize W1.setRow b (cs.take i ++ x :: cs.drop i ++ rest.drop 1).toArray = W2 at hcp2 hb2 ht2
 have HB : Hid (Blk W2 b (cs.take i ++ x :: cs.drop i ++ rest.drop 1) 87 ∧ Touch [b] w W2) := ⟨hb2, ht2⟩
 have HP1 : Hid (∀ ty dc sc, (Builtin.copy_ #[44, 44] ty #[.slice (some ⟨b, i + 1, none⟩) (n - i) dc, .slice (some ⟨b, i, none⟩) (n + 1 - i) sc]).run Try.prog w.drew = .ok (goInt (cs.drop i).length) W1) := hcp1
 have HP2 : Hid (∀ ty dc, (Builtin.copy_ #[44, 44] ty #[.slice (some ⟨b, i, none⟩) (n + 1 - i) dc, .slice (some ⟨k, 0, none⟩) 1 1]).run Try.prog W1 = .ok (goInt [x].length) W2) := hcp2
 clear hcp1 hcp2 hX hY hb1 hk1 ht1 hb2 ht2 hdl hal
 have hw1 : IntKind.i64.wrap ((i : Int) + 1) = (i : Int) + 1 := by rw [IntKind.wrap_i64]; omega
 have q1 : (0 : Int) ≤ (i : Int) + 1 := by omega
 have q2 : (i : Int) + 1 ≤ (n : Int) + 1 := by omega
 have q3 : ((i : Int) + 1).toNat = i + 1 := by omega
 have q4 : ¬ (cap = i + 1) := by omega
 have q5 : ¬ (cap = i) := by omega
 have q6 : (i : Int) ≤ (n : Int) + 1 := by omega
 go_enter Try.func39, Try.ntmps39
 go_wp2_with (simp only [hov1])
 go_region_law (refine step_copy_known rfl _ _ 44 44 rfl (.slice (some ⟨b, i + 1, none⟩) (n - i) (cap - (i + 1))) (.slice (some ⟨b, i, none⟩) (n + 1 - i) (cap - i)) (by simp [Act.eval, Act.put]) (by simp [Act.eval, Act.put]) (HP1.out 3 (cap - (i + 1)) (cap - i)) ?_)
 go_wp2_with fail
 rw [HP2.out]
 go_wp2
 go_ret
 exact ⟨rfl, HB.out⟩
theorem insert_grow (b n cap i k : Nat) (cs rest : List Value) (x : Value) (w : World) (hcl : cs.length = n) (hn : n ≤ 4096) (hin : i < n) (hnc : n ≤ cap) (hroom : cap < n + 1) (_hcap : cap ≤ n + rest.length)
  (hb : Blk w b (cs ++ rest) 87) (hx : x.oneCell' = true) (h1 : ∀ u ∈ cs, u.oneCell' = true) (tk : TypeId) (hk : Blk w k [x] tk) (_hkb : k ≠ b) :
  Calls Try.prog 39 #[.slice (some ⟨b, 0, none⟩) n cap, .int .i64 i, .slice (some ⟨k, 0, none⟩) 1 1] w fun e w' => ∃ G rest', e = .returned (.slice (some ⟨w.heap.size, 0, none⟩) (n + 1) G) ∧ n + 1 ≤ G ∧ G ≤ maxLen ∧ G = n + 1 + rest'.length ∧
   Blk w' w.heap.size (cs.take i ++ x :: cs.drop i ++ rest') 87 ∧ Touch [] w w' := by
 have hsz := size_of_info info79
 obtain ⟨i0, hi0, hz0, hzs, hzb⟩ := info_of info79
 have hold : (Builtin.firstCells i0.size i (.slice (some ⟨b, 0, none⟩) i cap)).run Try.prog w.drew = .ok (cs.take i).toArray w.drew := by
  rw [hzs]
  exact run_firstCells_some w.drew 1 i ⟨b, 0, none⟩ i cap (cs.take i) (by rw [List.length_take]; omega) (fun j v hj => by
   rw [Addr.add_lit, Nat.zero_add]
   have hj2 := (List.getElem?_eq_some_iff.1 hj).1
   rw [List.length_take] at hj2
   rw [List.getElem?_take, if_pos (by omega)] at hj
   exact hb.drew.cell (by rw [List.getElem?_append_left (by omega)]; exact hj))
 have hkk : (n : Int) + 1 - (i : Int) = ((n + 1 - i : Nat) : Int) := by omega
 have hik : i + (n + 1 - i) = n + 1 := by omega
 have hrz : ∀ ty, (Builtin.append_ #[44, 3] ty #[.slice (some ⟨b, 0, none⟩) i cap, .int .i64 ((n : Int) + 1 - (i : Int))]).run Try.prog w =
   .ok (.slice (some ⟨w.heap.size, 0, none⟩) (n + 1) (grownCap w (n + 1) cap 87)) (w.drew.alloc (.cells ((cs.take i).toArray ++ Builtin.zeroCells (Value.pointer none).cells (n + 1 - i) ++ Builtin.zeroCells (Value.pointer none).cells (grownCap w (n + 1) cap 87 - (n + 1))) 87)) := fun ty => by
  have h := Lib.run_append_grow_zeros w 44 3 ty 87 i0 _ .i64 .i64 Try.underlying44 Try.underlying3 hi0 hz0 (some ⟨b, 0, none⟩) i cap (cs.take i) hold (n + 1 - i) (by omega) (by omega) (by omega) (by omega) (by rw [hzb]; omega) (by rw [hzb, hik]; exact growslice_fits hroom (by omega))
  rw [hik] at h
  rw [hkk]
  exact h
 have hGn := grownCap_ge w (n + 1) cap 87
 have hGm := grownCap_le_maxLen w (n + 1) cap 87 (by unfold maxLen; omega)
 generalize grownCap w (n + 1) cap 87 = G at hrz hGn hGm
 have hz : ∀ m, (Builtin.zeroCells (Value.pointer none).cells m).toList = List.replicate m (.pointer none) := fun m => by
  apply List.ext_getElem
  ·simp [Builtin.zeroCells, Value.cells]
  ·intro j h1 h2
   simp [Builtin.zeroCells, Value.cells, Nat.mod_one]
 have hbN := Blk.newA w.drew ((cs.take i).toArray ++ Builtin.zeroCells (Value.pointer none).cells (n + 1 - i) ++ Builtin.zeroCells (Value.pointer none).cells (G - (n + 1))) _ 87 rfl
 simp only [Array.toList_append, hz] at hbN
 have hb1 := hb.drew.alloc (.cells ((cs.take i).toArray ++ Builtin.zeroCells (Value.pointer none).cells (n + 1 - i) ++ Builtin.zeroCells (Value.pointer none).cells (G - (n + 1))) 87)
 have hk1 := hk.drew.alloc (.cells ((cs.take i).toArray ++ Builtin.zeroCells (Value.pointer none).cells (n + 1 - i) ++ Builtin.zeroCells (Value.pointer none).cells (G - (n + 1))) 87)
 have ht1 : Touch [] w _ := (Touch.refl _ w).drew.alloc (.cells ((cs.take i).toArray ++ Builtin.zeroCells (Value.pointer none).cells (n + 1 - i) ++ Builtin.zeroCells (Value.pointer none).cells (G - (n + 1))) 87)
 generalize w.drew.alloc (.cells ((cs.take i).toArray ++ Builtin.zeroCells (Value.pointer none).cells (n + 1 - i) ++ Builtin.zeroCells (Value.pointer none).cells (G - (n + 1))) 87) = W1 at hrz hbN hb1 hk1 ht1
 rw [show w.drew.heap.size = w.heap.size from rfl] at hbN
 have hbw := hb.lt
 have hkw := hk.lt
 generalize hN : w.heap.size = N at *
 -- copy(s2[i:], v)
 have hcpA : ∀ ty dc, (Builtin.copy_ #[44, 44] ty #[.slice (some ⟨N, i, none⟩) (n + 1 - i) dc, .slice (some ⟨k, 0, none⟩) 1 1]).run Try.prog W1 = _ := fun ty dc =>
  run_copy_blk W1 44 44 ty 87 Try.underlying44 hsz N i _ _ ⟨k, 0, none⟩ _ _ _ 87 [x] hbN (by simp only [Nat.min_def, List.length_singleton]; split <;> omega) (fun j v hj => by
   have : j = 0 := by have := (List.getElem?_eq_some_iff.1 hj).1; simp at this; exact this
   subst this
   exact hk1.cell hj) (by simp; omega) (fun v hv => by simp at hv; subst hv; exact hx)
 have e1 : (cs.take i).length = i := by simp; omega
 have hA : (cs.take i ++ List.replicate (n + 1 - i) (Value.pointer none) ++ List.replicate (G - (n + 1)) (Value.pointer none)).take i ++ [x] ++ (cs.take i ++ List.replicate (n + 1 - i) (Value.pointer none) ++ List.replicate (G - (n + 1)) (Value.pointer none)).drop (i + [x].length) =
   cs.take i ++ [x] ++ List.replicate (G - (i + 1)) (Value.pointer none) := by
  rw [List.append_assoc (cs.take i), List.replicate_append_replicate, List.take_append_of_le_length (l₁ := cs.take i) (by omega), List.take_take, Nat.min_self, List.drop_append, List.drop_eq_nil_of_le (by simp; omega), List.drop_replicate, e1]
  simp
  omega
 rw [hA] at hcpA
 have hbA := hbN.setRow (cs.take i ++ [x] ++ List.replicate (G - (i + 1)) (Value.pointer none))
 have hb2 := hb1.setRow_other N (cs.take i ++ [x] ++ List.replicate (G - (i + 1)) (Value.pointer none)).toArray (by omega)
 have ht2 := ht1.setRow N (cs.take i ++ [x] ++ List.replicate (G - (i + 1)) (Value.pointer none)).toArray (Or.inr (by omega))
 generalize W1.setRow N (cs.take i ++ [x] ++ List.replicate (G - (i + 1)) (Value.pointer none)).toArray = W2 at hcpA hbA hb2 ht2
 have hdl : (cs.drop i).length = n - i := by rw [List.length_drop, hcl]
 have hcpB : ∀ ty dc sc, (Builtin.copy_ #[44, 44] ty #[.slice (some ⟨N, i + 1, none⟩) (n - i) dc, .slice (some ⟨b, i, none⟩) (n - i) sc]).run Try.prog W2.drew = _ := fun ty dc sc =>
  run_copy_blk W2.drew 44 44 ty 87 Try.underlying44 hsz N (i + 1) _ _ ⟨b, i, none⟩ _ _ _ 87 (cs.drop i) hbA.drew (by rw [hdl]; simp only [Nat.min_def]; split <;> omega) (fun j v hj => by
   rw [Addr.add_lit]
   rw [List.getElem?_drop] at hj
   exact hb2.drew.cell (by rw [List.getElem?_append_left (List.getElem?_eq_some_iff.1 hj).1]; exact hj)) (by simp; omega) (fun v hv => h1 v (List.mem_of_mem_drop hv))
 have e2 : (cs.take i ++ [x]).length = i + 1 := by simp; omega
 have hB : (cs.take i ++ [x] ++ List.replicate (G - (i + 1)) (Value.pointer none)).take (i + 1) ++ cs.drop i ++ (cs.take i ++ [x] ++ List.replicate (G - (i + 1)) (Value.pointer none)).drop (i + 1 + (cs.drop i).length) =
   cs.take i ++ x :: cs.drop i ++ List.replicate (G - (n + 1)) (Value.pointer none) := by
  rw [List.take_append_of_le_length (by omega), List.take_of_length_le (l := cs.take i ++ [x]) (by omega), List.drop_append, List.drop_eq_nil_of_le (show (cs.take i ++ [x]).length ≤ i + 1 + (cs.drop i).length by omega), List.drop_replicate, e2, hdl, Nat.add_sub_cancel_left, show G - (i + 1) - (n - i) = G - (n + 1) by omega]
  simp
 rw [hB] at hcpB
 have hbB := hbA.drew.setRow (cs.take i ++ x :: cs.drop i ++ List.replicate (G - (n + 1)) (Value.pointer none))
 have ht3 := ht2.drew.setRow N (cs.take i ++ x :: cs.drop i ++ List.replicate (G - (n + 1)) (Value.pointer none)).toArray (Or.inr (by omega))
 generalize W2.drew.setRow N (cs.take i ++ x :: cs.drop i ++ List.replicate (G - (n + 1)) (Value.pointer none)).toArray = W3 at hcpB hbB ht3
 have HB : Hid (Blk W3 N (cs.take i ++ x :: cs.drop i ++ List.replicate (G - (n + 1)) (Value.pointer none)) 87 ∧ Touch [] w W3) := ⟨hbB, ht3⟩
 have HZ := id (show Hid _ from hrz)
 have HA := id (show Hid _ from hcpA)
 have HP := id (show Hid _ from hcpB)
 clear hrz hcpA hcpB hbB ht3 hA hB e1 e2 hdl hbA hb2 ht2 hb1 hk1 ht1 hbN hz hkk hik hold
 unfold maxLen at hGm
 have hw1 : IntKind.i64.wrap ((i : Int) + 1) = (i : Int) + 1 := by rw [IntKind.wrap_i64]; omega
 have q1 : (0 : Int) ≤ (i : Int) + 1 := by omega
 have q2 : (i : Int) + 1 ≤ (n : Int) + 1 := by omega
 have q3 : ((i : Int) + 1).toNat = i + 1 := by omega
 have q5 : ¬ (cap = i) := by omega
 have q6 : (i : Int) ≤ (n : Int) := by omega
 have q7 : ¬ (G = i + 1) := by omega
 have q8 : ¬ (G = i) := by omega
 have q9 : ¬ ((i : Int) = n) := by omega
 go_enter Try.func39, Try.ntmps39
 go_wp2_with (at_builtin; refine Lib.wpList_append_run _ rfl _ _ _ _ rfl _ _ rfl rfl _ _ (HZ.out _) ?_)
 rw [HA.out]
 go_wp2_with fail
 go_region_law (refine step_copy_known rfl _ _ 44 44 rfl (.slice (some ⟨N, i + 1, none⟩) (n - i) (G - (i + 1))) (.slice (some ⟨b, i, none⟩) (n - i) (cap - i)) (by simp [Act.eval, Act.put]) (by simp [Act.eval, Act.put]) (HP.out 3 (G - (i + 1)) (cap - i)) ?_)
 go_wp2
 go_ret
 exact ⟨G, _, rfl, by omega, by unfold maxLen; omega, by simp; omega, HB.out⟩
theorem insert_any (g : Option Nat) (n cap i k : Nat) (cs : List Value) (x : Value) (w : World) (h : RowAt w 87 1 g n cap cs) (hn : n ≤ 4096) (hi : i ≤ n) (hx : x.oneCell' = true) (h1 : ∀ u ∈ cs, u.oneCell' = true) (tk : TypeId)
  (hk : Blk w k [x] tk) (hkg : ∀ b, g = some b → k ≠ b) :
  Calls Try.prog 39 #[slV g n cap, .int .i64 i, .slice (some ⟨k, 0, none⟩) 1 1] w fun e w' => ∃ g' cap', e = .returned (slV g' (n + 1) cap') ∧ RowAt w' 87 1 g' (n + 1) cap' (cs.take i ++ x :: cs.drop i) ∧ Touch g.toList w w' ∧
   (g' = g ∨ g' = some w.heap.size) ∧ (g' = some w.heap.size → w.heap.size < w'.heap.size) := by
 have hcl : cs.length = n := by have := h.1; omega
 by_cases hin : i = n
 ·subst hin
  rw [← hcl, List.take_length, List.drop_length, hcl]
  exact insert_end g i cap k cs x w h hn hx tk hk
 ·cases g with
  | none =>
   have : cap = 0 := h.2.2.2
   have := h.2.1
   omega
  | some b =>
   obtain ⟨h2, h3, h4, rest, hb, hc⟩ := h
   rw [List.length_append, hcl] at hc
   by_cases hroom : n + 1 ≤ cap
   ·refine (insert_shift b n cap i k cs rest x w hcl hn (by omega) hroom (by omega) h4 hb hx h1 tk hk (hkg b rfl)).mono ?_
    rintro e w' ⟨rfl, hb', ht⟩
    have hlt := hb.lt
    refine ⟨some b, cap, rfl, ⟨by simp; omega, hroom, h4, rest.drop 1, hb', by simp; omega⟩, ht, Or.inl rfl, fun e => by injection e with e; omega⟩
   ·refine (insert_grow b n cap i k cs rest x w hcl hn (by omega) h3 (by omega) (by omega) hb hx h1 tk hk (hkg b rfl)).mono ?_
    rintro e w' ⟨G, rest', rfl, hG1, hG2, hG3, hb', ht⟩
    refine ⟨some w.heap.size, G, rfl, ⟨by simp; omega, hG1, hG2, rest', hb', by simp; omega⟩, ht.nil, Or.inr rfl, fun _ => hb'.lt⟩
end Go.Proofs.Ytmhhahmjkopjhaa.Mem
end
section
namespace Go.Proofs.Ytmhhahmjkopjhaa.Mem
open Go.RowKit
def addE (rs : List Reg) (base size perm : Int) : Int := if mayBeB base size perm = false then 2 else if busyB rs base size = true then 12 else if 4096 ≤ rs.length then 13 else 0
def Own (w : World) (s s' : MS) : Prop := s'.m = s.m ∧ ∀ x ∈ s'.blocks, x ∈ s.blocks ∨ w.heap.size ≤ x
theorem Own.refl (w : World) (s : MS) : Own w s s := ⟨rfl, fun _ hx => Or.inl hx⟩
structure NewReg (r : Reg) (id base size perm : Int) : Prop where
 hid : r.id = id
 hbase : r.base = base
 hperm : r.perm = perm
 hbytes : r.bytes = List.replicate size.toNat 0
 hset : r.set = if perm < 4 then [] else List.replicate size.toNat false
def AddPost (w : World) (s : MS) (base size perm : Int) (e : Ending) (w' : World) : Prop :=
 e = .returned (.tuple #[.int .i64 (if addE s.rs base size perm = 0 then s.next else 0), .int .i64 (addE s.rs base size perm)]) ∧ Touch s.blocks w w' ∧ ∃ s', MemAt w' s' ∧ Own w s s' ∧
  (addE s.rs base size perm ≠ 0 → s' = s) ∧
  (addE s.rs base size perm = 0 → s'.next = s.next + 1 ∧ ∃ i r, i ≤ s.rs.length ∧ s'.rs = s.rs.take i ++ r :: s.rs.drop i ∧ NewReg r s.next base size perm)
theorem AddPost.err {w w' : World} {s : MS} {base size perm : Int} {e : Ending} (h : MemAt w s) (ht : Touch [] w w') (he : addE s.rs base size perm ≠ 0)
  (hv : e = .returned (.tuple #[.int .i64 0, .int .i64 (addE s.rs base size perm)])) : AddPost w s base size perm e w' := by
 refine ⟨by rw [if_neg he]; exact hv, ht.nil, s, h.touch ht (by simp), Own.refl w s, fun _ => rfl, fun h0 => absurd h0 he⟩
theorem MemAt.added {w w' : World} {s : MS} (h : MemAt w s) {r : Reg} {i : Nat} {g' : Option Nat} {cap' : Nat} (hi : i ≤ s.rs.length) (hlen : s.rs.length < 4096)
  (hm : Blk w' s.m [slV g' (s.rs.length + 1) cap', .int .i64 ((s.next + 1 : Nat) : Int)] 46)
  (hrow : RowAt w' 87 1 g' (s.rs.length + 1) cap' ((s.rs.map Reg.ptr).take i ++ r.ptr :: (s.rs.map Reg.ptr).drop i))
  (hold : ∀ x ∈ s.rs, RegAt w' x) (hr : RegAt w' r) (hro : RegOk r) (hid : r.id = s.next)
  (hnew : ∀ x ∈ r.blocks, w.heap.size ≤ x) (hg : g' = s.g ∨ ∃ b, g' = some b ∧ w.heap.size ≤ b ∧ b ∉ r.blocks)
  (hlo : ∀ j, j < i → (s.rs.getD j Reg.zero).base ≤ r.base) (hhi : ∀ j, i ≤ j → j < s.rs.length → r.base < (s.rs.getD j Reg.zero).base) (hbusy : busyB s.rs r.base r.bytes.length = false) :
  MemAt w' ⟨s.m, g', cap', s.rs.take i ++ r :: s.rs.drop i, s.next + 1⟩ := by
 have hlt := h.lt
 have hl : (s.rs.take i ++ r :: s.rs.drop i).length = s.rs.length + 1 := by simp; omega
 have hmem : ∀ x, x ∈ s.rs.take i ++ r :: s.rs.drop i ↔ x = r ∨ x ∈ s.rs := by
  intro x
  rw [List.mem_append, List.mem_cons]
  constructor
  ·rintro (hx | rfl | hx)
   ·exact Or.inr (List.mem_of_mem_take hx)
   ·exact Or.inl rfl
   ·exact Or.inr (List.mem_of_mem_drop hx)
  ·rintro (rfl | hx)
   ·exact Or.inr (Or.inl rfl)
   ·rw [← List.take_append_drop i s.rs, List.mem_append] at hx
    rcases hx with hx | hx
    ·exact Or.inl hx
    ·exact Or.inr (Or.inr hx)
 have hnb : ∀ x ∈ s.rs, ¬ (x.base < r.base + (r.bytes.length : Int) ∧ r.base < x.base + (x.bytes.length : Int)) := by
  intro x hx
  unfold busyB at hbusy
  rw [List.any_eq_false] at hbusy
  simpa using hbusy x hx
 have htake : ∀ x ∈ s.rs.take i, x.base ≤ r.base := by
  intro x hx
  obtain ⟨j, hj, rfl⟩ := List.getElem_of_mem hx
  rw [List.length_take] at hj
  have := hlo j (by omega)
  rw [List.getD_eq_getElem?_getD, List.getElem?_eq_getElem (by omega)] at this
  simpa using this
 have hdrop : ∀ x ∈ s.rs.drop i, r.base < x.base := by
  intro x hx
  obtain ⟨j, hj, rfl⟩ := List.getElem_of_mem hx
  rw [List.length_drop] at hj
  have := hhi (i + j) (by omega) (by omega)
  rw [List.getD_eq_getElem?_getD, List.getElem?_eq_getElem (by omega)] at this
  simpa using this
 refine ⟨?_, ?_, ?_, ?_, ?_, ?_, ?_, ?_, ?_⟩
 ·rw [hl]; exact hm
 ·rw [hl]
  simpa [List.map_append, List.map_take, List.map_drop] using hrow
 ·intro x hx
  rcases (hmem x).1 hx with rfl | hx
  ·exact hr
  ·exact hold x hx
 ·intro x hx
  rcases (hmem x).1 hx with rfl | hx
  ·exact hro
  ·exact h.ok x hx
 ·have hap := h.apart
  have hperm : (s.rs.take i ++ r :: s.rs.drop i).flatMap Reg.blocks |>.Perm (r.blocks ++ s.rs.flatMap Reg.blocks) := by
   have : (s.rs.take i ++ r :: s.rs.drop i).Perm (r :: s.rs) := by
    refine (List.perm_middle).trans ?_
    rw [List.take_append_drop]
   refine (this.flatMap_right _).trans ?_
   rw [List.flatMap_cons]
  have hnd : (s.m :: (g'.toList ++ (r.blocks ++ s.rs.flatMap Reg.blocks))).Nodup := by
   simp only [MS.blocks, List.cons_append, List.nodup_cons, List.nodup_append, List.mem_append] at hap ⊢
   obtain ⟨h1, h2, h3, h4⟩ := hap
   have hmlt := hlt s.m s.mem_m
   have hold2 : ∀ x ∈ s.rs.flatMap Reg.blocks, x < w.heap.size := by
    intro x hx
    obtain ⟨y, hy, hx⟩ := List.mem_flatMap.1 hx
    exact hlt x (s.mem_r hy hx)
   refine ⟨?_, ?_, ⟨hro.own, h3, ?_⟩, ?_⟩
   ·rintro (hx | hx | hx)
    ·rcases hg with rfl | ⟨b, rfl, hb, _⟩
     ·exact h1 (Or.inl hx)
     ·simp at hx; omega
    ·have := hnew _ hx; omega
    ·exact h1 (Or.inr hx)
   ·cases g' <;> simp
   ·intro a ha b hb hab
    have h5 := hnew a ha
    have h6 := hold2 b hb
    omega
   ·intro a ha b hb hab
    subst hab
    rcases hg with rfl | ⟨b, rfl, hbb, hbr⟩
    ·rcases hb with hb | hb
     ·have h5 := hnew a hb
      have h6 := hlt a (s.mem_g (by simpa using ha))
      omega
     ·exact h4 a ha a hb rfl
    ·simp at ha
     subst ha
     rcases hb with hb | hb
     ·exact hbr hb
     ·have := hold2 _ hb; omega
  show (s.m :: g'.toList ++ (s.rs.take i ++ r :: s.rs.drop i).flatMap Reg.blocks).Nodup
  rw [List.cons_append]
  exact ((List.Perm.append_left _ hperm).cons _).nodup_iff.2 hnd
 ·have hsrt := h.sorted
  rw [← List.take_append_drop i s.rs, List.pairwise_append] at hsrt
  rw [List.pairwise_append, List.pairwise_cons]
  refine ⟨hsrt.1, ⟨fun x hx => ?_, hsrt.2.1⟩, fun x hx y hy => ?_⟩
  ·have h1 := hdrop x hx
   have h2 := hnb x (List.mem_of_mem_drop hx)
   have h3 := (h.ok x (List.mem_of_mem_drop hx)).size1
   omega
  ·rcases List.mem_cons.1 hy with rfl | hy
   ·have h1 := htake x hx
    have h2 := hnb x (List.mem_of_mem_take hx)
    have h3 := hro.size1
    omega
   ·exact hsrt.2.2 x hx y hy
 ·have hids := h.ids
  rw [← List.take_append_drop i s.rs, List.pairwise_append] at hids
  rw [List.pairwise_append, List.pairwise_cons]
  refine ⟨hids.1, ⟨fun x hx => ?_, hids.2.1⟩, fun x hx y hy => ?_⟩
  ·have := (h.idlt x (List.mem_of_mem_drop hx)).2
   rw [hid]; omega
  ·rcases List.mem_cons.1 hy with rfl | hy
   ·have := (h.idlt x (List.mem_of_mem_take hx)).2
    rw [hid]; omega
   ·exact hids.2.2 x hx y hy
 ·intro x hx
  rcases (hmem x).1 hx with rfl | hx
  ·rw [hid]; exact ⟨by omega, by show (s.next : Int) < ((s.next + 1 : Nat) : Int); omega⟩
  ·have := h.idlt x hx
   exact ⟨this.1, by show x.id < ((s.next + 1 : Nat) : Int); omega⟩
 ·show (s.rs.take i ++ r :: s.rs.drop i).length ≤ 4096
  omega
theorem add_any {w : World} {s : MS} (h : MemAt w s) (base size perm : Int) (hb0 : 0 ≤ base) (hb1 : base ≤ 18446744073709551615) (hnext : s.next < 4611686018427387904) :
  Calls Try.prog 28 #[.pointer (some ⟨s.m, 0, none⟩), .int .u64 base, .int .i64 size, .int .i64 perm] w (AddPost w s base size perm) := by
 have hmany := h.many
 cases hmb : mayBeB base size perm with
 | false =>
  have he : addE s.rs base size perm = 2 := by unfold addE; rw [if_pos hmb]
  have HF : Hid (AddPost w s base size perm (.returned (.tuple #[.int .i64 0, .int .i64 2])) w) := AddPost.err h (Touch.refl _ w) (by rw [he]; decide) (by rw [he])
  have HM := toHid hmb
  clear h he hmb
  go_enter Try.func28, Try.ntmps28
  go_wp2_with (go_at_call 35; refine (mayBe_any base size perm _ hb0 hb1).mono ?_; rintro e w ⟨rfl, rfl⟩; rw [HM.out])
  go_ret2
  exact HF.out
 | true =>
  have hb := of_decide_eq_true hmb
  obtain ⟨z, rfl⟩ : ∃ z : Nat, size = z := ⟨size.toNat, by omega⟩
  have HM := toHid hmb
  have hc0 := h.c0
  have hc1 := h.c1
  cases hbusy : busyB s.rs base z with
  | true =>
   have he : addE s.rs base z perm = 12 := by unfold addE; rw [if_neg (by rw [hmb]; decide), if_pos hbusy]
   have HF : ∀ k, Hid (AddPost w s base z perm (.returned (.tuple #[.int .i64 0, .int .i64 12])) (w.drewN k)) := fun k => AddPost.err h ((Touch.refl _ w).drewN k) (by rw [he]; decide) (by rw [he])
   have HB := toHid hbusy
   have HMem := toHid h
   clear h he hmb hbusy
   go_enter Try.func28, Try.ntmps28
   go_wp2_with (go_at_call 35; refine (mayBe_any base z perm _ hb0 hb1).mono ?_; rintro e w ⟨rfl, rfl⟩; rw [HM.out])
   refine (behind_any HMem.out base).mono ?_
   rintro e w' ⟨⟨i, hi, rfl, hlo, hhi⟩, k, rfl⟩
   have HT := toHid (taken_any (HMem.out.touch ((Touch.refl [] w).drewN k) (by simp)) i z base hb0 (by omega) (by omega) (by omega) hi hlo hhi)
   clear hlo hhi
   go_wp2_with (go_at_call 37; refine HT.out.mono ?_; rintro e w' ⟨rfl, k2, rfl⟩; rw [HB.out])
   go_ret2
   exact (HF _).out
  | false =>
   by_cases hlen : 4096 ≤ s.rs.length
   ·have he : addE s.rs base z perm = 13 := by unfold addE; rw [if_neg (by rw [hmb]; decide), if_neg (by rw [hbusy]; decide), if_pos hlen]
    have HF : ∀ k, Hid (AddPost w s base z perm (.returned (.tuple #[.int .i64 0, .int .i64 13])) (w.drewN k)) := fun k => AddPost.err h ((Touch.refl _ w).drewN k) (by rw [he]; decide) (by rw [he])
    have HB := toHid hbusy
    have HMem := toHid h
    have hl : (4096 : Int) ≤ s.rs.length := by omega
    simp only [slV] at hc0
    clear h he hmb hbusy
    go_enter Try.func28, Try.ntmps28
    go_wp2_with (go_at_call 35; refine (mayBe_any base z perm _ hb0 hb1).mono ?_; rintro e w ⟨rfl, rfl⟩; rw [HM.out])
    refine (behind_any HMem.out base).mono ?_
    rintro e w' ⟨⟨i, hi, rfl, hlo, hhi⟩, k, rfl⟩
    have HT := toHid (taken_any (HMem.out.touch ((Touch.refl [] w).drewN k) (by simp)) i z base hb0 (by omega) (by omega) (by omega) hi hlo hhi)
    clear hlo hhi
    go_wp2_with (go_at_call 37; refine HT.out.mono ?_; rintro e w' ⟨rfl, k2, rfl⟩; rw [HB.out])
    go_ret2
    exact (HF _).out
   ·have he : addE s.rs base z perm = 0 := by unfold addE; rw [if_neg (by rw [hmb]; decide), if_neg (by rw [hbusy]; decide), if_neg hlen]
    have HB := toHid hbusy
    have HMem := toHid h
    have HE := toHid he
    simp only [slV] at hc0
    clear h he hmb hbusy
    go_enter Try.func28, Try.ntmps28
    go_wp2_with (go_at_call 35; refine (mayBe_any base z perm _ hb0 hb1).mono ?_; rintro e w ⟨rfl, rfl⟩; rw [HM.out])
    refine (behind_any HMem.out base).mono ?_
    rintro e w' ⟨⟨i, hi, rfl, hlo, hhi⟩, k, rfl⟩
    have HT := toHid (taken_any (HMem.out.touch ((Touch.refl [] w).drewN k) (by simp)) i z base hb0 (by omega) (by omega) (by omega) hi hlo hhi)
    have HLO := toHid hlo
    have HHI := toHid hhi
    clear hlo hhi
    go_wp2_with (go_at_call 37; refine HT.out.mono ?_; rintro e w' ⟨rfl, k2, rfl⟩; rw [HB.out])
    have H1 := toHid (newRegion_any s.next base perm z (w.drewN (k + k2)) (by omega) (by omega) (by omega) (by omega) hb0 (by omega))
    refine H1.out.mono ?_
    rintro e w1 ⟨r, rfl, hrA, hrO, hrid, hrb, hrp, hrby, hrs, ht1, hrn⟩
    clear H1 HT hc0 hc1
    have hM1 : MemAt w1 s := HMem.out.touch (((Touch.refl [] w).drewN (k + k2)).trans ht1 (by simp)) (by simp)
    have hc0 := hM1.c0
    simp only [slV] at hc0
    -- the variadic argument's own block
    have hk := Blk.newA w1 #[r.ptr] [r.ptr] 87 rfl
    have ht2 : Touch [] w1 (w1.alloc (.cells #[r.ptr] 87)) := (Touch.refl _ w1).alloc _
    have hM2 := hM1.touch ht2 (by simp)
    have H2 := toHid (insert_any s.g s.rs.length s.cap i w1.heap.size (s.rs.map Reg.ptr) r.ptr (w1.alloc (.cells #[r.ptr] 87)) hM2.row hmany hi rfl (fun u hu => by obtain ⟨x, _, rfl⟩ := List.mem_map.1 hu; rfl) 87 hk (fun b hb => by have := hM1.lt b (s.mem_g hb); omega))
    unfold Reg.ptr at H2 ⊢
    go_wp2_with fail
    refine H2.out.mono ?_
    rintro e w3 ⟨g', cap', rfl, hrow, ht3, hg', hg2⟩
    have hlt1 := hM1.lt
    have hmg : s.m ∉ s.g.toList := by
     have := hM1.apart
     simp only [MS.blocks, List.cons_append, List.nodup_cons, List.mem_append] at this
     exact fun hh => this.1 (Or.inl hh)
    have hm3 := ht3.blk hM2.self hmg
    have e0 : w3.cell? ⟨s.m, 0, none⟩ = some _ := hm3.cell rfl
    have e1 : w3.cell? ⟨s.m, 1, none⟩ = some _ := hm3.cell rfl
    have f0 := hm3.frozen 0
    have f1 := hm3.frozen 1
    have hrg : ∀ x ∈ r.blocks, x ∉ s.g.toList := fun x hx hh => by
     have h5 := hrn x hx
     have h6 := HMem.out.lt x (s.mem_g (by simpa using hh))
     simp at h5
     omega
    have hrA3 : RegAt w3 r := (hrA.touch ht2 (by simp)).touch ht3 hrg
    have r0 := hrA3.c0
    have hne : ¬ r.p = s.m := fun hh => by
     have h5 := hrn r.p r.mem_p
     have h6 := HMem.out.lt s.m s.mem_m
     simp at h5
     omega
    have hne2 : ¬ s.m = r.p := fun hh => hne hh.symm
    clear H2 hc0
    simp only [slV]
    go_wp2
    go_ret2
    show AddPost w s base z perm (.returned (.tuple #[.int .i64 s.next, .int .i64 0])) ((w3.setCell ⟨s.m, 0, none⟩ (slV g' (s.rs.length + 1) cap')).setCell ⟨s.m, 1, none⟩ (.int .i64 ((s.next : Int) + 1)))
    have hm4 := (hm3.setCell 0 (slV g' (s.rs.length + 1) cap')).setCell 1 (.int .i64 ((s.next : Int) + 1))
    have ht34 : Touch [s.m] w3 ((w3.setCell ⟨s.m, 0, none⟩ (slV g' (s.rs.length + 1) cap')).setCell ⟨s.m, 1, none⟩ (.int .i64 ((s.next : Int) + 1))) :=
     ((Touch.refl _ w3).setCell _ _ (Or.inl (by simp))).setCell _ _ (Or.inl (by simp))
    generalize (w3.setCell ⟨s.m, 0, none⟩ (slV g' (s.rs.length + 1) cap')).setCell ⟨s.m, 1, none⟩ (.int .i64 ((s.next : Int) + 1)) = W4 at hm4 ht34
    clear e0 e1 f0 f1 r0
    have hsz1 : w.heap.size ≤ w1.heap.size := by simpa using ht1.size
    have hmw : s.m < w.heap.size := HMem.out.lt s.m s.mem_m
    have hap := HMem.out.apart
    simp only [MS.blocks, List.cons_append, List.nodup_cons, List.mem_append, List.nodup_append] at hap
    have hrm : ∀ x ∈ r.blocks, x ∉ [s.m] := fun x hx hh => by
     have h5 := hrn x hx
     simp at hh h5
     omega
    have hg4 : ∀ b, g' = some b → b ∉ [s.m] := fun b hb hh => by
     simp at hh
     subst hh
     rcases hg' with rfl | rfl
     ·exact hmg (by simp [hb])
     ·injection hb with hb
      simp at hb
      omega
    have hrA4 : RegAt W4 r := hrA3.touch ht34 hrm
    have hold : ∀ x ∈ s.rs, RegAt W4 x := fun x hx => by
     refine ((hM2.regs x hx).touch ht3 (fun y hy hh => ?_)).touch ht34 (fun y hy hh => ?_)
     ·exact hap.2.2.2 y hh y (List.mem_flatMap.2 ⟨x, hx, hy⟩) rfl
     ·simp at hh
      subst hh
      exact hap.1 (Or.inr (List.mem_flatMap.2 ⟨x, hx, hy⟩))
    have hg5 : g' = s.g ∨ ∃ b, g' = some b ∧ w.heap.size ≤ b ∧ b ∉ r.blocks := by
     rcases hg' with hh | hh
     ·exact Or.inl hh
     ·refine Or.inr ⟨_, hh, by simp; omega, fun hx => ?_⟩
      have := hrA.lt _ hx
      simp at this
      omega
    have hadd : MemAt W4 ⟨s.m, g', cap', s.rs.take i ++ r :: s.rs.drop i, s.next + 1⟩ := MemAt.added HMem.out hi (by omega) hm4 (hrow.touch ht34 hg4) hold hrA4 hrO hrid
     (fun x hx => by simpa using hrn x hx) hg5 (by rw [hrb]; exact HLO.out) (by rw [hrb]; exact HHI.out) (by rw [hrb, hrby]; simpa using HB.out)
    have ht4 : Touch s.blocks w W4 := by
     refine Touch.trans (b := w3) ?_ ht34 (fun x hx => Or.inl ?_)
     ·refine Touch.trans (b := w1.alloc (.cells #[r.ptr] 87)) ?_ ht3 (fun x hx => Or.inl (s.mem_g (by simpa using hx)))
      exact ((((Touch.refl [] w).drewN (k + k2)).trans ht1 (by simp)).trans ht2 (by simp)).nil
     ·simp at hx
      rw [hx]
      exact s.mem_m
    refine ⟨by rw [HE.out]; rfl, ht4, _, hadd, ⟨rfl, fun x hx => ?_⟩, fun hh => absurd HE.out hh, fun _ => ⟨rfl, i, r, hi, rfl, ⟨hrid, hrb, hrp, by rw [hrby]; simp, by rw [hrs]; simp⟩⟩⟩
    simp only [MS.blocks, List.cons_append, List.mem_cons, List.mem_append, List.mem_flatMap] at hx ⊢
    rcases hx with hx | hx | ⟨y, (hy | rfl | hy), hx⟩
    ·exact Or.inl (Or.inl hx)
    ·rcases hg5 with rfl | ⟨b, rfl, hb, _⟩
     ·exact Or.inl (Or.inr (Or.inl hx))
     ·simp at hx
      subst hx
      exact Or.inr hb
    ·exact Or.inl (Or.inr (Or.inr ⟨y, List.mem_of_mem_take hy, hx⟩))
    ·exact Or.inr (by simpa using hrn x hx)
    ·exact Or.inl (Or.inr (Or.inr ⟨y, List.mem_of_mem_drop hy, hx⟩))
end Go.Proofs.Ytmhhahmjkopjhaa.Mem
end
section
namespace Go.Proofs.Ytmhhahmjkopjhaa.Mem
open Go.RowKit
theorem count_any {w : World} {s : MS} (h : MemAt w s) : Calls Try.prog 26 #[.pointer (some ⟨s.m, 0, none⟩)] w fun e w' => e = .returned (.int .i64 s.rs.length) ∧ w' = w := by
 have hc0 := h.c0
 simp only [slV] at hc0
 clear h
 go_enter Try.func26, Try.ntmps26
 go_wp2
 go_ret
 exact ⟨rfl, rfl⟩
theorem find_any {w : World} {s : MS} (h : MemAt w s) (addr : Int) (ha0 : 0 ≤ addr) (ha1 : addr ≤ 18446744073709551615) :
  Calls Try.prog 34 #[.pointer (some ⟨s.m, 0, none⟩), .int .u64 addr] w fun e w' => e = .returned (match findR s.rs addr with
   | none => .tuple #[.int .i64 0, .int .i64 0, .bool false]
   | some r => .tuple #[.int .i64 r.id, .int .i64 (addr - r.base), .bool true]) ∧ ∃ k, w' = w.drewN k := by
 have hH := holder_any h addr ha0 ha1
 cases hf : findR s.rs addr with
 | none =>
  rw [hf] at hH
  have HH := toHid hH
  clear hH h hf
  go_enter Try.func34, Try.ntmps34
  go_wp2_with (go_at_call 41; refine HH.out.mono ?_; rintro e w' ⟨rfl, k, rfl⟩; simp only [holderV])
  go_ret3
  exact ⟨rfl, _, rfl⟩
 | some r =>
  rw [hf] at hH
  have hc0 := (h.regs r (findR_mem hf).1).c0
  have HH := toHid hH
  clear hH h hf
  go_enter Try.func34, Try.ntmps34
  go_wp2_with (go_at_call 41; refine HH.out.mono ?_; rintro e w' ⟨rfl, k, rfl⟩; simp only [holderV])
  go_ret3
  exact ⟨rfl, _, rfl⟩
def idxR (rs : List Reg) (id : Int) : Int := match rs.findIdx? (fun r => r.id == id) with
 | some i => i
 | none => -1
end Go.Proofs.Ytmhhahmjkopjhaa.Mem
end
section
namespace Go.Proofs.Ytmhhahmjkopjhaa
open Go.RowKit
structure PBoth (w : World) (x : PT) (s : Mem.MS) : Prop where
 tab : PTAt w x
 mem : Mem.MemAt w s
 at_ : x.mem = s.m
 apart : ∀ b ∈ x.blocks, b ∉ s.blocks
theorem PBoth.still {w w' : World} {x : PT} {s : Mem.MS} (h : PBoth w x s) (ht : Touch [] w w') : PBoth w' x s := ⟨h.tab.still ht, h.mem.touch ht (by simp), h.at_, h.apart⟩
theorem PBoth.step {w w2 : World} {x x1 : PT} {s : Mem.MS} {qs : List PX} (h : PBoth w x s) (st : PStep w w2 x x1 qs) : PBoth w2 x1 s := by
 have hlt : ∀ b ∈ s.blocks, b < w.heap.size := h.mem.lt
 refine ⟨st.at_, h.mem.touch st.touch (fun b hb hx => h.apart b hx hb), by rw [st.mem]; exact h.at_, fun b hb hx => ?_⟩
 rcases st.blocks b hb with h1 | h1
 ·exact h.apart b h1 hx
 ·have := hlt b hx
  omega
theorem PBoth.over {w w2 : World} {x : PT} {s s' : Mem.MS} (h : PBoth w x s) (hm : Mem.MemAt w2 s') (hs : s'.m = s.m) (hb : ∀ b ∈ s'.blocks, b ∈ s.blocks ∨ w.heap.size ≤ b) (ht : Touch s.blocks w w2) : PBoth w2 x s' :=
 ⟨h.tab.touch ht (fun b hx => h.apart b hx), hm, by rw [hs]; exact h.at_, fun b hx hy => by
  rcases hb b hy with h1 | h1
  ·exact h.apart b hx h1
  ·have := h.tab.lt b hx
   omega⟩
theorem busy_find {rs : List Mem.Reg} {p n : Int} (h1 : ∀ r ∈ rs, 1 ≤ r.bytes.length) (hn : 1 ≤ n) : Mem.busyB rs p n = false ↔ ∀ j : Int, 0 ≤ j → j < n → Mem.findR rs (p + j) = none := by
 constructor
 ·intro hb j h0 hj
  refine Mem.findR_none fun r hr => ?_
  cases hh : Mem.hasB r (p + j) with
  | false => rfl
  | true =>
   unfold Mem.hasB at hh
   have := of_decide_eq_true hh
   rw [Mem.busy_of hr (by omega) (by omega)] at hb
   cases hb
 ·intro hf
  cases hb : Mem.busyB rs p n with
  | false => rfl
  | true =>
   unfold Mem.busyB at hb
   rw [List.any_eq_true] at hb
   obtain ⟨r, hr, hb⟩ := hb
   have hb := of_decide_eq_true hb
   have hl := h1 r hr
   have h9 := hf (if p ≤ r.base then r.base - p else 0) (by split <;> omega) (by split <;> omega)
   unfold Mem.findR at h9
   rw [List.find?_eq_none] at h9
   have h8 := h9 r hr
   unfold Mem.hasB at h8
   simp only [decide_eq_true_eq] at h8
   split at h8 <;> omega
theorem isFree_any {w : World} {x : PT} {s : Mem.MS} (h : PBoth w x s) (p : Int) (n : Nat) (p0 : 0 ≤ p) (n1 : 1 ≤ n) (n2 : n ≤ 64) (hp : p + n ≤ 18446744073709551616) :
  Calls Try.prog 27 #[.pointer (some ⟨x.t, 0, none⟩), .int .u64 p, .int .i64 (n : Int)] w fun e w' => e = .returned (.bool (!Mem.busyB s.rs p n)) ∧ ∃ k, w' = w.drewN k := by
 have HH := toHid h
 have hB := busy_find (rs := s.rs) (p := p) (n := n) (fun r hr => (h.mem.ok r hr).size1) (by omega)
 have HYes : Hid (∀ j : Nat, j < n → (Mem.findR s.rs (p + j)).isSome = true → Mem.busyB s.rs p n = true) := fun j hj hs => by
  cases hb : Mem.busyB s.rs p n with
  | true => rfl
  | false =>
   rw [hB.1 hb j (by omega) (by omega)] at hs
   cases hs
 have HNo : Hid ((∀ j : Nat, j < n → Mem.findR s.rs (p + j) = none) → Mem.busyB s.rs p n = false) := fun hf => hB.2 (fun j h0 hj => by
  have := hf j.toNat (by omega)
  rwa [Int.toNat_of_nonneg h0] at this)
 have c0 : ∀ k, (w.drewN k).cell? ⟨x.t, 0, none⟩ = some (.pointer (some ⟨s.m, 0, none⟩)) := fun k => by
  have := ((h.still ((Touch.refl [] w).drewN k)).tab).c0
  rwa [h.at_] at this
 clear h hB
 go_enter Try.func27, Try.ntmps27
 go_wp2_with fail
 go_loopw [12] (fun t w' => ∃ k : Nat, k ≤ n ∧ t = .int .i64 k ∧ (∃ q, w' = w.drewN q) ∧ Hid (∀ j : Nat, j < k → Mem.findR s.rs (p + j) = none)) (fun t _ => n - (intOf t).toNat)
 case atStart => exact ⟨0, by omega, rfl, ⟨0, rfl⟩, fun j hj => by omega⟩
 case round =>
  obtain ⟨k, hk, rfl, ⟨q, rfl⟩, HI⟩ := hrel
  by_cases hlt : k < n
  ·have w1 : IntKind.u64.wrap (k : Int) = k := by rw [IntKind.wrap_u64]; omega
   have w2 : IntKind.u64.wrap (p + (k : Int)) = p + k := by rw [IntKind.wrap_u64]; omega
   have H1 := toHid (fun d => Mem.find_any (HH.out.still ((Touch.refl [] w).drewN d)).mem (p + (k : Int)) (by omega) (by omega))
   have d0 := c0 q
   cases hf : Mem.findR s.rs (p + (k : Int)) with
   | none =>
    simp only [hf] at H1
    have HN : Hid (∀ j : Nat, j < k + 1 → Mem.findR s.rs (p + j) = none) := fun j hj => by
     by_cases e : j = k
     ·rw [e]; exact hf
     ·exact HI.out j (by omega)
    clear c0 hf HI
    go_wp2_with fail
    refine Calls.mono (H1.out _) ?_
    rintro e w' ⟨rfl, d, rfl⟩
    rw [World.drewN_drewN]
    clear d0
    go_wp2
    exact ⟨⟨k + 1, by omega, by go_num, ⟨_, rfl⟩, HN⟩, by simp [intOf]; omega⟩
   | some r =>
    simp only [hf] at H1
    have hv := toHid (HYes.out k hlt (by rw [hf]; rfl))
    clear c0 hf HI
    go_wp2_with fail
    refine Calls.mono (H1.out _) ?_
    rintro e w' ⟨rfl, d, rfl⟩
    rw [World.drewN_drewN]
    clear d0
    go_wp2
    go_ret
    exact ⟨by rw [hv.out]; rfl, _, rfl⟩
  ·obtain rfl : k = n := by omega
   have hv := toHid (HNo.out HI.out)
   clear c0
   go_wp2
   go_ret
   exact ⟨by rw [hv.out]; rfl, _, rfl⟩
def maxSum (ds : List MDef) : Int := (ds.map MDef.max).sum
theorem maxSum_snoc (ds : List MDef) (k : Nat) (d : MDef) (h : ds[k]? = some d) : maxSum (ds.take (k + 1)) = maxSum (ds.take k) + d.max := by
 unfold maxSum
 rw [List.take_add_one, h]
 simp
theorem maxSum_bd (ds : List MDef) (h : ∀ d ∈ ds, 0 ≤ d.max ∧ d.max ≤ 64) : 0 ≤ maxSum ds ∧ maxSum ds ≤ 64 * ds.length := by
 unfold maxSum
 induction ds with
 | nil => simp
 | cons d ds ih =>
  have h1 := h d (by simp)
  have h2 := ih (fun d' hd => h d' (by simp [hd]))
  simp only [List.map_cons, List.sum_cons, List.length_cons]
  omega
def FreeAll (ds : List MDef) (rs : List Mem.Reg) (n : Nat) : Prop := ∀ (i : Nat) (d : MDef), i < n → ds[i]? = some d → ∀ s : Nat, (s : Int) < d.max → Mem.busyB rs (plI i s) d.val = false
def BoxCells (m : PMap) : Array Value := #[.int .i64 m.d.kind, .int .i64 m.d.key, .int .i64 m.d.val, .int .i64 m.d.max, ixV m.d.kind m.X]
def roomOk (ds : List MDef) (rs : List Mem.Reg) : Prop := FreeAll ds rs ds.length ∧ (rs.length : Int) + maxSum ds ≤ 4096
theorem hasRoom_any {w : World} {x : PT} {s : Mem.MS} (h : PBoth w x s) (hmx : ∀ m ∈ x.maps, 1 ≤ m.d.max ∧ m.d.max ≤ 64) :
  Calls Try.prog 13 #[.pointer (some ⟨x.t, 0, none⟩)] w fun e w' => (∃ b, e = .returned (.bool b) ∧ (b = true ↔ roomOk x.ds s.rs)) ∧ Touch [] w w' := by
 have hz := (zero_of_info (P := Try.prog) zero89).1
 have hsz := (zero_of_info (P := Try.prog) zero89).2
 have H0 := toHid (Mem.count_any h.mem)
 have HH := toHid (And.intro h hmx)
 have hmany := h.tab.many
 have c0 := h.tab.c0
 have c1 := h.tab.c1
 rw [h.at_] at c0
 unfold slV at c1
 have hlen := h.mem.many
 have hds : x.ds.length = x.maps.length := by simp [PT.ds]
 have hbd : ∀ k, 0 ≤ maxSum (x.ds.take k) ∧ maxSum (x.ds.take k) ≤ 512 := fun k => by
  have h1 := maxSum_bd (x.ds.take k) (fun d hd => by
   obtain ⟨m, hm, rfl⟩ := List.mem_map.1 (List.mem_of_mem_take hd)
   have := hmx m hm
   omega)
  have h2 : (x.ds.take k).length ≤ 8 := by rw [List.length_take]; omega
  omega
 have HBD := toHid hbd
 have HDS := toHid hds
 generalize hsg : (x.g.map fun b => (⟨b, 0, none⟩ : Addr)) = sg at *
 have HG := toHid hsg
 generalize hL : x.maps.length = L at *
 have HL := toHid hL
 generalize hR : s.rs.length = R at *
 have HR := toHid hR
 clear h hmx hbd hds hsg hL hR
 go_enter Try.func13, Try.ntmps13
 go_wp2_with fail
 refine Calls.mono H0.out ?_
 rintro e w ⟨rfl, rfl⟩
 go_wp2_with fail
 go_loopw [3, 17] (fun c t w' => ∃ k : Nat, k ≤ L ∧ t = .int .i64 k ∧ c = .int .i64 (R + maxSum (x.ds.take k)) ∧ Hid (Touch [] w w' ∧ FreeAll x.ds s.rs k)) (fun _ t _ => L - (intOf t).toNat)
 case atStart => exact ⟨0, by omega, rfl, by simp [maxSum], Touch.refl _ _, fun i d hi => by omega⟩
 case round =>
  obtain ⟨k, hk, rfl, rfl, HI⟩ := hrel
  by_cases hlt : k < L
  ·obtain ⟨m, hm⟩ : ∃ m, x.maps[k]? = some m := ⟨_, List.getElem?_eq_getElem (by rw [HL.out]; exact hlt)⟩
   have hmem := List.mem_of_getElem? hm
   have hB := HH.out.1.still HI.out.1
   obtain ⟨gb, hg⟩ := hB.tab.some_g hm
   have hsg := HG.out
   rw [hg, Option.map_some] at hsg
   subst hsg
   obtain ⟨b0, b1, b2, b3, b4⟩ := hB.tab.boxed hm hg
   have hmk := HH.out.2 m hmem
   have hok := hB.tab.ok m hmem
   have hdk : x.ds[k]? = some m.d := by unfold PT.ds; rw [List.getElem?_map, hm]; rfl
   have hsum := maxSum_snoc x.ds k m.d hdk
   have hbd1 := HBD.out k
   have hbd2 := HBD.out (k + 1)
   have hm1 := hok.v1
   have hm2 := hok.v2
   obtain ⟨V, hV⟩ : ∃ V : Nat, m.d.val = V := Int.eq_ofNat_of_zero_le (by omega)
   obtain ⟨M, hM⟩ : ∃ M : Nat, m.d.max = M := Int.eq_ofNat_of_zero_le (by omega)
   have HBX : Hid (∀ o, Touch [] wr (wr.alloc o)) := fun o => (Touch.refl [] wr).alloc o
   have hNB := Blk.newA wr (BoxCells m) _ 55 rfl
   have HNB := toHid hNB
   have HM := toHid (And.intro hm (And.intro hdk (And.intro hV hM)))
   have HB := toHid hB
   have hk8 : k < 8 := by omega
   rw [hV] at b2 hm1 hm2
   rw [hM] at b3 hmk hsum
   have HC : Hid (∀ w', Touch [] (wr.alloc (.cells (BoxCells m) 55)) w' → w'.cell? ⟨wr.heap.size, 2, none⟩ = some (.int .i64 (V : Int)) ∧ w'.cell? ⟨wr.heap.size, 3, none⟩ = some (.int .i64 (M : Int))) := fun w' ht => by
    have h1 := ht.blk hNB (by simp)
    rw [← hV, ← hM]
    exact ⟨h1.cell rfl, h1.cell rfl⟩
   have HT := toHid HI.out.1
   have HFA := toHid HI.out.2
   unfold BoxCells ixV at HC
   unfold ixV at b4
   generalize typF m.d.kind = ty at *
   generalize m.X = X at *
   generalize m.d.kind = kd at *
   generalize m.d.key = ky at *
   rw [hV, hM] at HC
   have HSUM := toHid hsum
   have w1 : IntKind.i64.wrap ((R : Int) + maxSum (x.ds.take k) + M) = R + maxSum (x.ds.take (k + 1)) := by rw [IntKind.wrap_i64]; omega
   have c3 := (HC.out _ (Touch.refl _ _)).2
   clear hB hmem hok hdk hNB hm hV hM HI hg hsum c0 c1 HNB
   generalize hwb : wr.alloc (.cells #[.int .i64 kd, .int .i64 ky, .int .i64 (V : Int), .int .i64 (M : Int), .iface ty (.pointer (some ⟨X, 0, none⟩))] 55) = wb at *
   have HWB := toHid hwb
   go_wp2_with fail
   clear hwb b0 b1 b2 b3 b4 c3
   have HTB : Hid (Touch [] wr wb) := by rw [← HWB.out]; exact HBX.out _
   have hM64 : M ≤ 64 := by omega
   go_loopw [30] (fun t w' => ∃ q : Nat, q ≤ M ∧ t = .int .i64 q ∧ Hid (Touch [] wb w' ∧ ∀ i : Nat, i < q → Mem.busyB s.rs (plI k i) V = false)) (fun t _ => M - (intOf t).toNat)
   case atStart => exact ⟨0, by omega, rfl, Touch.refl _ _, fun i hi => by omega⟩
   case round =>
    obtain ⟨q, hq, rfl, HJ⟩ := hrel
    obtain ⟨c2, c3⟩ := HC.out _ HJ.out.1
    by_cases hqt : q < M
    ·have hB2 := HB.out.still (HTB.out.trans HJ.out.1 (by simp))
     have HP := toHid (fun d => place_any (wr.drewN d) k q hk8 (by omega))
     have HF := toHid (fun d => isFree_any (hB2.still ((Touch.refl [] wr).drewN d)) (plI k q) V (by unfold plI; omega) (by omega) (by omega) (by unfold plI; omega))
     have hkx : (k : Int) = k := rfl
     have HNx : Hid (Mem.busyB s.rs (plI k q) V = false → ∀ n, Touch [] wb (wr.drewN n) ∧ ∀ i : Nat, i < q + 1 → Mem.busyB s.rs (plI k i) V = false) := fun hb n => ⟨HJ.out.1.drewN n, fun i hi => by
      by_cases e : i = q
      ·rw [e]; exact hb
      ·exact HJ.out.2 i (by omega)⟩
     have HBad : Hid (Mem.busyB s.rs (plI k q) V = true → ¬ roomOk x.ds s.rs) := fun hb hr => by
      obtain ⟨_, hdk, hV, hM⟩ := HM.out
      have h9 := hr.1 k m.d (by rw [HDS.out]; exact hlt) hdk q (by rw [hM]; omega)
      rw [hV, hb] at h9
      cases h9
     have HTT : Hid (∀ n, Touch [] w (wr.drewN n)) := fun n => ((HT.out.trans HTB.out (by simp)).trans HJ.out.1 (by simp)).drewN n
     generalize Mem.busyB s.rs (plI k q) V = fb at *
     generalize plI k q = pl at *
     clear hB2 HJ c3 HC
     cases fb with
     | true =>
      have HBad := toHid (HBad.out rfl)
      clear HNx
      go_wp2_with fail
      go_quiet (first | (go_at_call 17; refine Calls.quiet_of_same (HP.out _)) | (go_at_call 27; refine Calls.quiet_of (HF.out _)))
      go_wp2
      go_ret
      exact ⟨⟨false, rfl, by simpa using HBad.out⟩, HTT.out _⟩
     | false =>
      clear HBad HTT
      go_wp2_with fail
      go_quiet (first | (go_at_call 17; refine Calls.quiet_of_same (HP.out _)) | (go_at_call 27; refine Calls.quiet_of (HF.out _)))
      go_wp2
      exact ⟨⟨q + 1, by omega, by go_num, (HNx.out trivial _)⟩, by simp [intOf]; omega⟩
    ·obtain rfl : q = M := by omega
     have HNx : Hid (Touch [] w wr ∧ FreeAll x.ds s.rs (k + 1)) := ⟨(HT.out.trans HTB.out (by simp)).trans HJ.out.1 (by simp), fun i d hi hd u hu => by
      by_cases e : i = k
      ·subst e
       obtain ⟨_, hdk, hV, hM⟩ := HM.out
       rw [hdk] at hd
       injection hd with hd
       subst hd
       rw [hV]
       exact HJ.out.2 u (by omega)
      ·exact HFA.out i d (by omega) hd u hu⟩
     clear HC HJ
     go_wp2
     exact ⟨⟨k + 1, by omega, by go_num, rfl, HNx⟩, by simp [intOf]; omega⟩
  ·obtain rfl : L = k := by omega
   have hbd1 := HBD.out L
   have hT : x.ds.take L = x.ds := by rw [← HDS.out]; exact List.take_length
   have HR2 : Hid ((decide (R + maxSum (x.ds.take L) ≤ 4096) = true ↔ roomOk x.ds s.rs)) := by
    show _ ↔ _
    rw [decide_eq_true_iff, hT, ← HR.out]
    exact ⟨fun hh => ⟨by rw [HDS.out]; exact HI.out.2, hh⟩, fun hh => hh.2⟩
   have HT := toHid HI.out.1
   clear HI c0 c1 hT
   go_wp2
   go_ret
   exact ⟨⟨_, rfl, HR2.out⟩, HT.out⟩
end Go.Proofs.Ytmhhahmjkopjhaa
end
section
namespace Go.Proofs.Ytmhhahmjkopjhaa.Mem
open Go.RowKit
def num (bs : Nat → Int) : Nat → Int
 | 0 => 0
 | n + 1 => num bs n + bs n * 256 ^ n
theorem num_bd (bs : Nat → Int) : ∀ n, (∀ j, j < n → 0 ≤ bs j ∧ bs j ≤ 255) → 0 ≤ num bs n ∧ num bs n < 256 ^ n
 | 0, _ => by simp [num]
 | n + 1, h => by
  have h1 := num_bd bs n (fun j hj => h j (by omega))
  have h2 := h n (by omega)
  have h3 : (0 : Int) < 256 ^ n := Int.pow_pos (by omega)
  have h4 : bs n * 256 ^ n ≤ 255 * 256 ^ n := Int.mul_le_mul_of_nonneg_right h2.2 (by omega)
  have h5 : 0 ≤ bs n * 256 ^ n := Int.mul_nonneg h2.1 (by omega)
  unfold num
  rw [Int.pow_succ]
  omega
theorem or_place (a x : Int) (k : Nat) (hk : k ≤ 7) (ha0 : 0 ≤ a) (ha1 : a < 256 ^ k) (hx0 : 0 ≤ x) (hx1 : x ≤ 255) :
  bits .or .u64 a (IntKind.u64.wrap (x * 2 ^ (8 * k))) = a + x * 256 ^ k := by
 obtain ⟨A, rfl⟩ := Int.eq_ofNat_of_zero_le ha0
 obtain ⟨X, rfl⟩ := Int.eq_ofNat_of_zero_le hx0
 have hp : (2 : Int) ^ (8 * k) = 256 ^ k := by rw [Int.pow_mul]; rfl
 have hA : A < 2 ^ (8 * k) := by
  have : ((A : Nat) : Int) < ((2 ^ (8 * k) : Nat) : Int) := by rw [Int.natCast_pow]; show (A : Int) < (2 : Int) ^ (8 * k); rw [hp]; exact ha1
  omega
 have hle : (2 : Nat) ^ (8 * k) ≤ 2 ^ 56 := Nat.pow_le_pow_right (by omega) (by omega)
 have hX : 2 ^ (8 * k) * X < 18446744073709551616 := by
  have : 2 ^ (8 * k) * X ≤ 2 ^ 56 * 255 := Nat.mul_le_mul hle (by omega)
  omega
 have hc : (X : Int) * 2 ^ (8 * k) = ((2 ^ (8 * k) * X : Nat) : Int) := by rw [Int.natCast_mul, Int.natCast_pow, Int.mul_comm]; rfl
 rw [← hp, hc, IntKind.wrap_u64, Int.emod_eq_of_lt (by omega) (by omega), u64_or_nat A _ (by omega) hX, Nat.or_comm, ← Nat.two_pow_add_eq_or_of_lt hA]
 omega
theorem number_any (b off n c : Nat) (bs : Nat → Int) (w : World) (hn : n ≤ 8)
  (hc : ∀ j, j < n → w.cell? ⟨b, off + j, none⟩ = some (.int .u8 (bs j))) (hb : ∀ j, j < n → 0 ≤ bs j ∧ bs j ≤ 255) :
  Calls Try.prog 21 #[.slice (some ⟨b, off, none⟩) n c] w fun e w' => e = .returned (.int .u64 (num bs n)) ∧ w' = w := by
 have HC := toHid hc
 have HB := toHid hb
 clear hc hb
 go_enter Try.func21, Try.ntmps21
 go_wp2
 go_loop [3, 8] (fun v t => ∃ k : Nat, k ≤ n ∧ t = .int .i64 k ∧ v = .int .u64 (num bs k)) (fun _ t => n - (intOf t).toNat)
 case atStart => exact ⟨0, by omega, rfl, rfl⟩
 case round =>
  obtain ⟨k, hk, rfl, rfl⟩ := hrel
  by_cases hlt : k < n
  ·have c1 := HC.out k hlt
   have c2 := HB.out k hlt
   go_wp2
   refine ⟨⟨k + 1, by omega, by go_num, ?_⟩, by simp [intOf]; omega⟩
   have h1 := num_bd bs k (fun j hj => HB.out j (by omega))
   rw [or_place _ _ k (by omega) h1.1 h1.2 c2.1 c2.2]
   rfl
  ·have hkn : k = n := by omega
   subst hkn
   go_wp2
   go_ret
   exact ⟨rfl, rfl⟩
def byteOf (v : Int) (j : Nat) : Int := v / 256 ^ j % 256
theorem byteOf_bd (v : Int) (j : Nat) : 0 ≤ byteOf v j ∧ byteOf v j ≤ 255 := by unfold byteOf; omega
def spreadTo (v : Int) (k : Nat) : List Value := (List.range 8).map (fun j => if j < k then .int .u8 (byteOf v j) else .int .u8 0)
end Go.Proofs.Ytmhhahmjkopjhaa.Mem
end
