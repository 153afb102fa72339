/-
  Texts laid together: TWith, TOut, TTwin, TKey, TKey2, TEach, TTied, TIdx, TOps, TOps2, TKeys, PK, PK2, PK3, MFns, MSt.
-/
import Derived.Test.YtmhhahmjkopjhaaGreatZa1
import Derived.Deep.RegionHeld3
import Derived.ChangeKeysEq
import Derived.Laws.AppendOwn
import Derived.Deep.RegionWith
import Derived.Deep.WholeRow
import Derived.Test.YtmhhahmjkopjhaaGreatRows
set_option maxRecDepth 100000
set_option maxHeartbeats 8000000
section
namespace Go.Proofs.YtmhhahmjkopjhaaGreat.Lpm
open Go.RowKit Go.Deep
structure WKept (w : World) (T : Tr) (p : List Bool) (s : Nat) (T' : Tr) (w' : World) : Prop where
 at_ : TrAt w' T'
 ok : okT T'
 nd : (bsT T').Nodup
 get : ∀ q, atT T' q = if q = p then some s else atT T q
 blocks : ∀ b ∈ bsT T', b ∈ bsT T ∨ w.heap.size ≤ b
 touch : Touch (bsT T) w w'
 dep : depT T' ≤ max (depT T) (p.length + 1)
def WPost (w : World) (T : Tr) (p : List Bool) (s : Nat) (e : Ending) (w' : World) : Prop := ∃ T', e = .returned T'.ptr ∧ WKept w T p s T' w'
theorem nd_node {b o : Nat} {a : Bool × Nat} {l r : Tr} (h : (bsT (.node b o a l r)).Nodup) : b ∉ bsT l ∧ b ∉ bsT r ∧ (bsT l).Nodup ∧ (bsT r).Nodup ∧ ∀ x ∈ bsT l, x ∉ bsT r := by
 simp only [bsT, List.nodup_cons, List.mem_append, List.nodup_append, not_or] at h
 exact ⟨h.1.1, h.1.2, h.2.1, h.2.2.1, fun x hx hy => h.2.2.2 x hx x hy rfl⟩
theorem nd_mk {b o : Nat} {a : Bool × Nat} {l r : Tr} (h1 : b ∉ bsT l) (h2 : b ∉ bsT r) (h3 : (bsT l).Nodup) (h4 : (bsT r).Nodup) (h5 : ∀ x ∈ bsT l, x ∉ bsT r) : (bsT (.node b o a l r)).Nodup := by
 simp only [bsT, List.nodup_cons, List.mem_append, List.nodup_append, not_or]
 exact ⟨⟨h1, h2⟩, h3, h4, fun x hx y hy e => h5 x hx (e ▸ hy)⟩
theorem with_here {w : World} {b : Nat} {a : Bool × Nat} {l r : Tr} (h : TrAt w (.node b 0 a l r)) (ok : okT (.node b 0 a l r)) (nd : (bsT (.node b 0 a l r)).Nodup) (s : Nat) :
  WKept w (.node b 0 a l r) [] s (.node b 0 (true, s) l r) ((w.setCell ⟨b, 2, none⟩ (.bool true)).setCell ⟨b, 3, none⟩ (.int .i64 (s : Int))) := by
 obtain ⟨n1, n2, n3, n4, n5⟩ := nd_node nd
 have ht : Touch [b] w ((w.setCell ⟨b, 2, none⟩ (.bool true)).setCell ⟨b, 3, none⟩ (.int .i64 (s : Int))) := ((Touch.refl [b] w).setCell _ _ (Or.inl (by simp))).setCell _ _ (Or.inl (by simp))
 refine ⟨⟨rfl, (h.2.1.setCell 2 (.bool true)).setCell 3 (.int .i64 (s : Int)), h.2.2.1.touch ht (fun x hx hy => ?_), h.2.2.2.touch ht (fun x hx hy => ?_)⟩, ⟨fun e => absurd e (by simp), ok.2⟩, nd, fun q => ?_, fun x hx => Or.inl hx, ht.mono (fun x hx => Or.inl (by simp at hx; simp [bsT, hx])), (by simp only [depT]; omega)⟩
 ·simp at hy; subst hy; exact n1 hx
 ·simp at hy; subst hy; exact n2 hx
 ·match q with
  | [] => rfl
  | false :: q => simp [atT]
  | true :: q => simp [atT]
theorem with_left {w w0 w2 : World} {b : Nat} {a : Bool × Nat} {l r C : Tr} {p : List Bool} {s : Nat} (h : TrAt w (.node b 0 a l r)) (ok : okT (.node b 0 a l r)) (nd : (bsT (.node b 0 a l r)).Nodup) (h0 : Touch [] w w0) (k : WKept w0 l p s C w2) :
  WKept w (.node b 0 a l r) (false :: p) s (.node b 0 a C r) (w2.setCell ⟨b, 0, none⟩ C.ptr) := by
 obtain ⟨n1, n2, n3, n4, n5⟩ := nd_node nd
 have ht : Touch (bsT l) w w2 := (Touch.nil h0).trans k.touch (fun y hy => Or.inl hy)
 have hsz := h0.size
 have hb : b ∉ bsT C := fun hx => by
  rcases k.blocks b hx with hx | hx
  ·exact n1 hx
  ·have := h.2.1.lt
   omega
 have hap : ∀ x ∈ bsT C, x ∉ bsT r := fun x hx hy => by
  rcases k.blocks x hx with hx | hx
  ·exact n5 x hx hy
  ·have := TrAt.lt h.2.2.2 x hy
   omega
 have hts : Touch [b] w2 (w2.setCell ⟨b, 0, none⟩ C.ptr) := (Touch.refl [b] w2).setCell _ _ (Or.inl (by simp))
 have hsib : TrAt (w2.setCell ⟨b, 0, none⟩ C.ptr) r := (h.2.2.2.touch ht (fun x hx hy => n5 x hy hx)).touch hts (fun x hx hy => by simp at hy; subst hy; exact n2 hx)
 have hch : TrAt (w2.setCell ⟨b, 0, none⟩ C.ptr) C := k.at_.touch hts (fun x hx hy => by simp at hy; subst hy; exact hb hx)
 have hB : Blk w2 b [l.ptr, r.ptr, .bool a.1, .int .i64 (a.2 : Int)] 197 := ht.blk h.2.1 n1
 have hB2 : Blk (w2.setCell ⟨b, 0, none⟩ C.ptr) b [C.ptr, r.ptr, .bool a.1, .int .i64 (a.2 : Int)] 197 := hB.setCell 0 C.ptr
 refine ⟨⟨rfl, hB2, hch, hsib⟩, ⟨ok.1, k.ok, ok.2.2⟩, nd_mk hb n2 k.nd n4 hap, fun q => ?_, fun x hx => ?_, ?_, (by have := k.dep; simp only [depT, List.length_cons]; omega)⟩
 ·match q with
  | [] => simp [atT]
  | false :: q => simp [atT, k.get q]
  | true :: q => simp [atT]
 ·simp only [bsT, List.mem_cons, List.mem_append] at hx ⊢
  rcases hx with hx | hx | hx
  ·exact Or.inl (Or.inl hx)
  ·rcases k.blocks x hx with hx | hx
   ·exact Or.inl (Or.inr (Or.inl hx))
   ·exact Or.inr (by omega)
  ·exact Or.inl (Or.inr (Or.inr hx))
 ·exact (ht.mono (S' := bsT (.node b 0 a l r)) (fun x hx => Or.inl (by simp [bsT, hx]))).trans hts (fun x hx => Or.inl (by simp at hx; simp [bsT, hx]))
theorem with_right {w w0 w2 : World} {b : Nat} {a : Bool × Nat} {l r C : Tr} {p : List Bool} {s : Nat} (h : TrAt w (.node b 0 a l r)) (ok : okT (.node b 0 a l r)) (nd : (bsT (.node b 0 a l r)).Nodup) (h0 : Touch [] w w0) (k : WKept w0 r p s C w2) :
  WKept w (.node b 0 a l r) (true :: p) s (.node b 0 a l C) (w2.setCell ⟨b, 1, none⟩ C.ptr) := by
 obtain ⟨n1, n2, n3, n4, n5⟩ := nd_node nd
 have ht : Touch (bsT r) w w2 := (Touch.nil h0).trans k.touch (fun y hy => Or.inl hy)
 have hsz := h0.size
 have hb : b ∉ bsT C := fun hx => by
  rcases k.blocks b hx with hx | hx
  ·exact n2 hx
  ·have := h.2.1.lt
   omega
 have hap : ∀ x ∈ bsT C, x ∉ bsT l := fun x hx hy => by
  rcases k.blocks x hx with hx | hx
  ·exact n5 x hy hx
  ·have := TrAt.lt h.2.2.1 x hy
   omega
 have hts : Touch [b] w2 (w2.setCell ⟨b, 1, none⟩ C.ptr) := (Touch.refl [b] w2).setCell _ _ (Or.inl (by simp))
 have hsib : TrAt (w2.setCell ⟨b, 1, none⟩ C.ptr) l := (h.2.2.1.touch ht (fun x hx hy => n5 x hx hy)).touch hts (fun x hx hy => by simp at hy; subst hy; exact n1 hx)
 have hch : TrAt (w2.setCell ⟨b, 1, none⟩ C.ptr) C := k.at_.touch hts (fun x hx hy => by simp at hy; subst hy; exact hb hx)
 have hB : Blk w2 b [l.ptr, r.ptr, .bool a.1, .int .i64 (a.2 : Int)] 197 := ht.blk h.2.1 n2
 have hB2 : Blk (w2.setCell ⟨b, 1, none⟩ C.ptr) b [l.ptr, C.ptr, .bool a.1, .int .i64 (a.2 : Int)] 197 := hB.setCell 1 C.ptr
 refine ⟨⟨rfl, hB2, hsib, hch⟩, ⟨ok.1, ok.2.1, k.ok⟩, nd_mk n1 hb n3 k.nd (fun x hx hy => hap x hy hx), fun q => ?_, fun x hx => ?_, ?_, (by have := k.dep; simp only [depT, List.length_cons]; omega)⟩
 ·match q with
  | [] => simp [atT]
  | false :: q => simp [atT]
  | true :: q => simp [atT, k.get q]
 ·simp only [bsT, List.mem_cons, List.mem_append] at hx ⊢
  rcases hx with hx | hx | hx
  ·exact Or.inl (Or.inl hx)
  ·exact Or.inl (Or.inr (Or.inl hx))
  ·rcases k.blocks x hx with hx | hx
   ·exact Or.inl (Or.inr (Or.inr hx))
   ·exact Or.inr (by omega)
 ·exact (ht.mono (S' := bsT (.node b 0 a l r)) (fun x hx => Or.inl (by simp [bsT, hx]))).trans hts (fun x hx => Or.inl (by simp at hx; simp [bsT, hx]))
theorem with_new {w : World} {p : List Bool} {s : Nat} {T' : Tr} {w' : World} (k : WKept (w.alloc (.cells #[.pointer none, .pointer none, .bool false, .int .i64 0] 197)) (.node w.heap.size 0 (false, 0) .nil .nil) p s T' w') : WKept w .nil p s T' w' := by
 refine ⟨k.at_, k.ok, k.nd, fun q => ?_, fun b hb => Or.inr ?_, ((Touch.refl [] w).alloc _).trans k.touch (fun y hy => Or.inr ?_), (by have := k.dep; simp only [depT] at this ⊢; omega)⟩
 ·rw [k.get q]
  have : atT (.node w.heap.size 0 (false, 0) .nil .nil) q = none := by
   match q with
   | [] => rfl
   | false :: q => rfl
   | true :: q => rfl
  rw [this]
  rfl
 ·rcases k.blocks b hb with hb | hb
  ·simp [bsT] at hb
   omega
  ·rw [World.size_alloc] at hb
   omega
 ·simp [bsT] at hy
  omega
theorem new_at (w : World) : TrAt (w.alloc (.cells #[.pointer none, .pointer none, .bool false, .int .i64 0] 197)) (.node w.heap.size 0 (false, 0) .nil .nil) := ⟨rfl, Blk.newA w #[.pointer none, .pointer none, .bool false, .int .i64 0] _ 197 rfl, trivial, trivial⟩
theorem with_one (w : World) (s : Nat) : WPost w .nil [] s (.returned (.pointer (some ⟨w.heap.size, 0, none⟩))) (w.alloc (.cells #[.pointer none, .pointer none, .bool true, .int .i64 (s : Int)] 197)) := by
 refine ⟨.node w.heap.size 0 (true, s) .nil .nil, rfl, ⟨rfl, Blk.newA w #[.pointer none, .pointer none, .bool true, .int .i64 (s : Int)] _ 197 rfl, trivial, trivial⟩, ⟨fun e => absurd e (by simp), trivial, trivial⟩, by simp [bsT], fun q => ?_, fun b hb => Or.inr (by simp [bsT] at hb; omega), (Touch.refl _ w).alloc _, (by simp [depT])⟩
 match q with
 | [] => rfl
 | false :: q => simp [atT]
 | true :: q => simp [atT]
theorem with_any (s : Nat) : ∀ (p : List Bool) (T : Tr) (w : World) (sa : Option Addr), TrAt w T → okT T → (bsT T).Nodup → PathAt w sa p → (∀ b off, sa = some ⟨b, off, none⟩ → b ∉ bsT T) →
  Calls Tryz.prog 159 #[T.ptr, .slice sa p.length p.length, .int .i64 (s : Int)] w (WPost w T p s) := by
 intro p
 induction p with
 | nil =>
  intro T w sa hT hok hnd hp hout
  match T, hT, hok, hnd with
  | .nil, _, _, _ =>
   show Calls Tryz.prog 159 #[.pointer none, .slice sa 0 0, .int .i64 (s : Int)] w _
   have HF : Hid (WPost w .nil [] s (.returned (.pointer (some ⟨w.heap.size, 0, none⟩))) (w.alloc (.cells #[.pointer none, .pointer none, .bool true, .int .i64 (s : Int)] 197))) := with_one w s
   clear hp hout
   go_enter Tryz.func159, Tryz.ntmps159
   go_wp2
   go_ret
   exact HF.out
  | .node b o a l r, hT, hok, hnd =>
   obtain ⟨rfl, hrest⟩ := hT
   have hT : TrAt w (.node b 0 a l r) := ⟨rfl, hrest⟩
   have hB := hT.2.1
   have c2 := hB.cell (i := 2) rfl
   have c3 := (hB.setCell 2 (.bool true)).cell (i := 3) rfl
   have f2 := hB.frozen 2
   have f3 := (hB.setCell 2 (.bool true)).frozen 3
   show Calls Tryz.prog 159 #[.pointer (some ⟨b, 0, none⟩), .slice sa 0 0, .int .i64 (s : Int)] w _
   have HF : Hid (WPost w (.node b 0 a l r) [] s (.returned (.pointer (some ⟨b, 0, none⟩))) ((w.setCell ⟨b, 2, none⟩ (.bool true)).setCell ⟨b, 3, none⟩ (.int .i64 (s : Int)))) := ⟨_, rfl, with_here hT hok hnd s⟩
   clear hp hout hB hT hrest hok hnd
   go_enter Tryz.func159, Tryz.ntmps159
   go_wp2
   go_ret
   exact HF.out
 | cons c p ih =>
  intro T w sa hT hok hnd hp hout
  obtain ⟨pb, off, rfl, hc0⟩ := hp.head
  have hpb := hout pb off rfl
  have HC0 := toHid hc0
  have hplt : pb < w.heap.size := World.block_lt_of_cell? _ _ hc0
  match T, hT, hok, hnd with
  | .nil, hT, hok, hnd =>
   have hT1 := new_at w
   have hta : Touch [] w (w.alloc (.cells #[.pointer none, .pointer none, .bool false, .int .i64 0] 197)) := (Touch.refl [] w).alloc _
   have hB := hT1.2.1
   have c0 := hB.cell (i := 0) rfl
   have c1 := hB.cell (i := 1) rfl
   have hc1 := hta.cell hc0 (by simp)
   have hp1 := hp.still hta
   have HNE : Hid (pb ≠ w.heap.size) := fun e => by omega
   have HT := toHid (And.intro hT1 hB)
   have hd : Touch [] (w.alloc (.cells #[.pointer none, .pointer none, .bool false, .int .i64 0] 197)) (w.alloc (.cells #[.pointer none, .pointer none, .bool false, .int .i64 0] 197)).drew := (Touch.refl [] _).drew
   cases c with
   | false =>
    match p, hp1, ih with
    | [], hp1, ih =>
     have H1 := toHid (ih .nil (w.alloc (.cells #[.pointer none, .pointer none, .bool false, .int .i64 0] 197)).drew (some ⟨pb, off, none⟩) trivial trivial (by simp [bsT]) (PathAt.still (PathAt.last _) hd) (fun b' off' e => by simp [bsT]))
     show Calls Tryz.prog 159 #[.pointer none, .slice (some ⟨pb, off, none⟩) 1 1, .int .i64 (s : Int)] w _
     simp only [List.length_nil] at H1
     have hc : (w.alloc (.cells #[.pointer none, .pointer none, .bool false, .int .i64 0] 197)).cell? ⟨pb, off, none⟩ = some (.int .i64 0) := hc1
     have HC := toHid hc
     have hcw : w.cell? ⟨pb, off, none⟩ = some (.int .i64 0) := hc0
     skip
     unfold BT.ptr at H1
     clear hp hp1 hc0 hc1 HC0 hB hok hnd hT hT1 ih hd hout hpb hta
     go_enter Tryz.func159, Tryz.ntmps159
     go_wp2_with fail
     refine wp_region_held_drew (S := fun w' => w'.cell? ⟨pb, off, none⟩ = some (.int .i64 0)) (by kernel_rfl) ?_ (fun hHeld => ?_)
     ·exact HC.out
     refine tk 0 (v := ?_) rfl ?_ ?_
     rotate_left
     ·(intro w hSw; (try dsimp only at hSw); go_simp; try with_reducible rfl)
     simp only [Act.put, AP]
     refine tk 1 (v := ?_) rfl ?_ ?_
     rotate_left
     ·(intro w hSw; (try dsimp only at hSw); go_simp; try with_reducible rfl)
     simp only [Act.put, AP]
     refine tk 2 (v := ?_) rfl ?_ ?_
     rotate_left
     ·(intro w hSw; (try dsimp only at hSw); go_simp; try with_reducible rfl)
     simp only [Act.put, AP]
     refine tk 3 (v := ?_) rfl ?_ ?_
     rotate_left
     ·(intro w hSw; (try dsimp only at hSw); go_simp; try with_reducible rfl)
     simp only [Act.put, AP]
     refine tk 4 (v := ?_) rfl ?_ ?_
     rotate_left
     ·(intro w hSw; (try dsimp only at hSw); go_simp; try with_reducible rfl)
     simp only [Act.put, AP]
     refine tk 5 (v := ?_) rfl ?_ ?_
     rotate_left
     ·(intro w hSw; (try dsimp only at hSw); go_simp; try with_reducible rfl)
     simp only [Act.put, AP]
     refine tk 6 (v := ?_) rfl ?_ ?_
     rotate_left
     ·(intro w hSw; (try dsimp only at hSw); go_simp; try with_reducible rfl)
     simp only [Act.put, AP]
     refine tk 7 (v := ?_) rfl ?_ ?_
     rotate_left
     ·(intro w hSw; (try dsimp only at hSw); go_simp; try with_reducible rfl)
     simp only [Act.put, AP]
     refine tk 8 (v := ?_) rfl ?_ ?_
     rotate_left
     ·(intro w hSw; (try dsimp only at hSw); go_simp; try with_reducible rfl)
     simp only [Act.put, AP]
     refine tk 9 (v := ?_) rfl ?_ ?_
     rotate_left
     ·(intro w hSw; (try dsimp only at hSw); go_simp; try with_reducible rfl)
     simp only [Act.put, AP]
     refine tk 10 (v := ?_) rfl ?_ ?_
     rotate_left
     ·(intro w hSw; (try dsimp only at hSw); go_simp; try with_reducible rfl)
     simp only [Act.put, AP]
     refine tk 12 (v := ?_) rfl ?_ ?_
     rotate_left
     ·(intro w hSw; (try dsimp only at hSw); go_simp; try with_reducible rfl)
     simp only [Act.put, AP]
     refine tk 13 (v := ?_) rfl ?_ ?_
     rotate_left
     ·(intro w hSw; (try dsimp only at hSw); go_simp; try with_reducible rfl)
     simp only [Act.put, AP]
     refine tk 14 (v := ?_) rfl ?_ ?_
     rotate_left
     ·(intro w hSw; (try dsimp only at hSw); go_simp; try with_reducible rfl)
     simp only [Act.put, AP]
     refine tk 16 (v := ?_) rfl ?_ ?_
     rotate_left
     ·(intro w hSw; (try dsimp only at hSw); go_simp; try with_reducible rfl)
     simp only [Act.put, AP]
     refine tk 17 (v := ?_) rfl ?_ ?_
     rotate_left
     ·(intro w hSw; (try dsimp only at hSw); go_simp; try with_reducible rfl)
     simp only [Act.put, AP]
     refine wpAnyH_ready (rs := [11]) (by kernel_rfl) (by simp) ?_
     refine AllReadyH.cons rfl (fun K hK => ?_) AllReadyH.nil
     simp only [AP]
     go_simp
     refine hK.out _ _ ?_ (fun hHeld => ?_)
     ·exact hHeld
     clear hK K
     try simp only [Act.put, AP]
     refine wpAnyH_ready (rs := [15]) (by kernel_rfl) (by simp) ?_
     refine AllReadyH.cons rfl (fun K hK => ?_) AllReadyH.nil
     simp only [AP]
     go_simp
     refine Calls.mono H1.out ?_; rintro e w2 ⟨C, rfl, hk⟩
     go_wp2_with fail
     refine hK.out _ _ ?_ (fun hHeld => ?_)
     ·exact hk.touch.cell (p := ⟨pb, off, none⟩) HC.out (by simp [bsT])
     clear hK K
     try simp only [Act.put, AP]
     refine tk 18 (v := ?_) rfl ?_ ?_
     rotate_left
     ·(intro w hSw; (try dsimp only at hSw); go_simp; try with_reducible rfl)
     simp only [Act.put, AP]
     have hB2 := hk.touch.blk (HT.out.2.drew) (by simp [bsT])
     have e0 := hB2.cell (i := 0) rfl
     have e1 := hB2.frozen 0
     have HF := toHid (with_new (with_left HT.out.1 ⟨fun _ => rfl, trivial, trivial⟩ (by simp [bsT]) ((Touch.refl [] _).drew) hk))
     rw [ptr_ad C] at *
     clear hk hB2
     generalize adT C = ca at *
     refine wpAnyH_ready (rs := [19]) (by kernel_rfl) (by simp) ?_
     refine AllReadyH.cons rfl (fun K hK => ?_) AllReadyH.nil
     simp only [AP]
     go_simp
     refine hK.out _ _ ?_ (fun _ => ?_)
     ·exact ((Touch.refl [w.heap.size] w2).setCell ⟨w.heap.size, 0, none⟩ _ (Or.inl (by simp))).cell hHeld (by simpa using HNE.out)
     clear hK K
     try simp only [Act.put, AP]
     refine wpAnyH_done (by kernel_rfl) ?_ _
     go_wp2
     go_ret
     exact ⟨_, rfl, HF.out⟩
    | x :: p, hp1, ih =>
     have H1 := toHid (ih .nil (w.alloc (.cells #[.pointer none, .pointer none, .bool false, .int .i64 0] 197)).drew (some ⟨pb, off + 1, none⟩) trivial trivial (by simp [bsT]) (PathAt.still (hp1.tail) hd) (fun b' off' e => by simp [bsT]))
     show Calls Tryz.prog 159 #[.pointer none, .slice (some ⟨pb, off, none⟩) (p.length + 1 + 1) (p.length + 1 + 1), .int .i64 (s : Int)] w _
     simp only [List.length_cons] at H1
     have hc : (w.alloc (.cells #[.pointer none, .pointer none, .bool false, .int .i64 0] 197)).cell? ⟨pb, off, none⟩ = some (.int .i64 0) := hc1
     have HC := toHid hc
     have hcw : w.cell? ⟨pb, off, none⟩ = some (.int .i64 0) := hc0
     have hle : (1 : Int) ≤ (p.length : Int) + 1 + 1 := by omega
     unfold BT.ptr at H1
     clear hp hp1 hc0 hc1 HC0 hB hok hnd hT hT1 ih hd hout hpb hta
     go_enter Tryz.func159, Tryz.ntmps159
     go_wp2_with fail
     refine wp_region_held_drew (S := fun w' => w'.cell? ⟨pb, off, none⟩ = some (.int .i64 0)) (by kernel_rfl) ?_ (fun hHeld => ?_)
     ·exact HC.out
     refine tk 0 (v := ?_) rfl ?_ ?_
     rotate_left
     ·(intro w hSw; (try dsimp only at hSw); go_simp; try with_reducible rfl)
     simp only [Act.put, AP]
     refine tk 1 (v := ?_) rfl ?_ ?_
     rotate_left
     ·(intro w hSw; (try dsimp only at hSw); go_simp; try with_reducible rfl)
     simp only [Act.put, AP]
     refine tk 2 (v := ?_) rfl ?_ ?_
     rotate_left
     ·(intro w hSw; (try dsimp only at hSw); go_simp; try with_reducible rfl)
     simp only [Act.put, AP]
     refine tk 3 (v := ?_) rfl ?_ ?_
     rotate_left
     ·(intro w hSw; (try dsimp only at hSw); go_simp; try with_reducible rfl)
     simp only [Act.put, AP]
     refine tk 4 (v := ?_) rfl ?_ ?_
     rotate_left
     ·(intro w hSw; (try dsimp only at hSw); go_simp; try with_reducible rfl)
     simp only [Act.put, AP]
     refine tk 5 (v := ?_) rfl ?_ ?_
     rotate_left
     ·(intro w hSw; (try dsimp only at hSw); go_simp; try with_reducible rfl)
     simp only [Act.put, AP]
     refine tk 6 (v := ?_) rfl ?_ ?_
     rotate_left
     ·(intro w hSw; (try dsimp only at hSw); go_simp; try with_reducible rfl)
     simp only [Act.put, AP]
     refine tk 7 (v := ?_) rfl ?_ ?_
     rotate_left
     ·(intro w hSw; (try dsimp only at hSw); go_simp; try with_reducible rfl)
     simp only [Act.put, AP]
     refine tk 8 (v := ?_) rfl ?_ ?_
     rotate_left
     ·(intro w hSw; (try dsimp only at hSw); go_simp; try with_reducible rfl)
     simp only [Act.put, AP]
     refine tk 9 (v := ?_) rfl ?_ ?_
     rotate_left
     ·(intro w hSw; (try dsimp only at hSw); go_simp; try with_reducible rfl)
     simp only [Act.put, AP]
     refine tk 10 (v := ?_) rfl ?_ ?_
     rotate_left
     ·(intro w hSw; (try dsimp only at hSw); go_simp; try with_reducible rfl)
     simp only [Act.put, AP]
     refine tk 12 (v := ?_) rfl ?_ ?_
     rotate_left
     ·(intro w hSw; (try dsimp only at hSw); go_simp; try with_reducible rfl)
     simp only [Act.put, AP]
     refine tk 13 (v := ?_) rfl ?_ ?_
     rotate_left
     ·(intro w hSw; (try dsimp only at hSw); go_simp; try with_reducible rfl)
     simp only [Act.put, AP]
     refine tk 14 (v := ?_) rfl ?_ ?_
     rotate_left
     ·(intro w hSw; (try dsimp only at hSw); go_simp; try with_reducible rfl)
     simp only [Act.put, AP]
     refine tk 16 (v := ?_) rfl ?_ ?_
     rotate_left
     ·(intro w hSw; (try dsimp only at hSw); go_simp; try with_reducible rfl)
     simp only [Act.put, AP]
     refine tk 17 (v := ?_) rfl ?_ ?_
     rotate_left
     ·(intro w hSw; (try dsimp only at hSw); go_simp; try with_reducible rfl)
     simp only [Act.put, AP]
     refine wpAnyH_ready (rs := [11]) (by kernel_rfl) (by simp) ?_
     refine AllReadyH.cons rfl (fun K hK => ?_) AllReadyH.nil
     simp only [AP]
     go_simp
     refine hK.out _ _ ?_ (fun hHeld => ?_)
     ·exact hHeld
     clear hK K
     try simp only [Act.put, AP]
     refine wpAnyH_ready (rs := [15]) (by kernel_rfl) (by simp) ?_
     refine AllReadyH.cons rfl (fun K hK => ?_) AllReadyH.nil
     simp only [AP]
     go_simp
     refine Calls.mono H1.out ?_; rintro e w2 ⟨C, rfl, hk⟩
     go_wp2_with fail
     refine hK.out _ _ ?_ (fun hHeld => ?_)
     ·exact hk.touch.cell (p := ⟨pb, off, none⟩) HC.out (by simp [bsT])
     clear hK K
     try simp only [Act.put, AP]
     refine tk 18 (v := ?_) rfl ?_ ?_
     rotate_left
     ·(intro w hSw; (try dsimp only at hSw); go_simp; try with_reducible rfl)
     simp only [Act.put, AP]
     have hB2 := hk.touch.blk (HT.out.2.drew) (by simp [bsT])
     have e0 := hB2.cell (i := 0) rfl
     have e1 := hB2.frozen 0
     have HF := toHid (with_new (with_left HT.out.1 ⟨fun _ => rfl, trivial, trivial⟩ (by simp [bsT]) ((Touch.refl [] _).drew) hk))
     rw [ptr_ad C] at *
     clear hk hB2
     generalize adT C = ca at *
     refine wpAnyH_ready (rs := [19]) (by kernel_rfl) (by simp) ?_
     refine AllReadyH.cons rfl (fun K hK => ?_) AllReadyH.nil
     simp only [AP]
     go_simp
     refine hK.out _ _ ?_ (fun _ => ?_)
     ·exact ((Touch.refl [w.heap.size] w2).setCell ⟨w.heap.size, 0, none⟩ _ (Or.inl (by simp))).cell hHeld (by simpa using HNE.out)
     clear hK K
     try simp only [Act.put, AP]
     refine wpAnyH_done (by kernel_rfl) ?_ _
     go_wp2
     go_ret
     exact ⟨_, rfl, HF.out⟩
   | true =>
    match p, hp1, ih with
    | [], hp1, ih =>
     have H1 := toHid (ih .nil (w.alloc (.cells #[.pointer none, .pointer none, .bool false, .int .i64 0] 197)).drew (some ⟨pb, off, none⟩) trivial trivial (by simp [bsT]) (PathAt.still (PathAt.last _) hd) (fun b' off' e => by simp [bsT]))
     show Calls Tryz.prog 159 #[.pointer none, .slice (some ⟨pb, off, none⟩) 1 1, .int .i64 (s : Int)] w _
     simp only [List.length_nil] at H1
     have hc : (w.alloc (.cells #[.pointer none, .pointer none, .bool false, .int .i64 0] 197)).cell? ⟨pb, off, none⟩ = some (.int .i64 1) := hc1
     have HC := toHid hc
     have hcw : w.cell? ⟨pb, off, none⟩ = some (.int .i64 1) := hc0
     skip
     unfold BT.ptr at H1
     clear hp hp1 hc0 hc1 HC0 hB hok hnd hT hT1 ih hd hout hpb hta
     go_enter Tryz.func159, Tryz.ntmps159
     go_wp2_with fail
     refine wp_region_held_drew (S := fun w' => w'.cell? ⟨pb, off, none⟩ = some (.int .i64 1)) (by kernel_rfl) ?_ (fun hHeld => ?_)
     ·exact HC.out
     refine tk 0 (v := ?_) rfl ?_ ?_
     rotate_left
     ·(intro w hSw; (try dsimp only at hSw); go_simp; try with_reducible rfl)
     simp only [Act.put, AP]
     refine tk 1 (v := ?_) rfl ?_ ?_
     rotate_left
     ·(intro w hSw; (try dsimp only at hSw); go_simp; try with_reducible rfl)
     simp only [Act.put, AP]
     refine tk 2 (v := ?_) rfl ?_ ?_
     rotate_left
     ·(intro w hSw; (try dsimp only at hSw); go_simp; try with_reducible rfl)
     simp only [Act.put, AP]
     refine tk 3 (v := ?_) rfl ?_ ?_
     rotate_left
     ·(intro w hSw; (try dsimp only at hSw); go_simp; try with_reducible rfl)
     simp only [Act.put, AP]
     refine tk 4 (v := ?_) rfl ?_ ?_
     rotate_left
     ·(intro w hSw; (try dsimp only at hSw); go_simp; try with_reducible rfl)
     simp only [Act.put, AP]
     refine tk 5 (v := ?_) rfl ?_ ?_
     rotate_left
     ·(intro w hSw; (try dsimp only at hSw); go_simp; try with_reducible rfl)
     simp only [Act.put, AP]
     refine tk 6 (v := ?_) rfl ?_ ?_
     rotate_left
     ·(intro w hSw; (try dsimp only at hSw); go_simp; try with_reducible rfl)
     simp only [Act.put, AP]
     refine tk 7 (v := ?_) rfl ?_ ?_
     rotate_left
     ·(intro w hSw; (try dsimp only at hSw); go_simp; try with_reducible rfl)
     simp only [Act.put, AP]
     refine tk 8 (v := ?_) rfl ?_ ?_
     rotate_left
     ·(intro w hSw; (try dsimp only at hSw); go_simp; try with_reducible rfl)
     simp only [Act.put, AP]
     refine tk 9 (v := ?_) rfl ?_ ?_
     rotate_left
     ·(intro w hSw; (try dsimp only at hSw); go_simp; try with_reducible rfl)
     simp only [Act.put, AP]
     refine tk 10 (v := ?_) rfl ?_ ?_
     rotate_left
     ·(intro w hSw; (try dsimp only at hSw); go_simp; try with_reducible rfl)
     simp only [Act.put, AP]
     refine tk 12 (v := ?_) rfl ?_ ?_
     rotate_left
     ·(intro w hSw; (try dsimp only at hSw); go_simp; try with_reducible rfl)
     simp only [Act.put, AP]
     refine tk 13 (v := ?_) rfl ?_ ?_
     rotate_left
     ·(intro w hSw; (try dsimp only at hSw); go_simp; try with_reducible rfl)
     simp only [Act.put, AP]
     refine tk 14 (v := ?_) rfl ?_ ?_
     rotate_left
     ·(intro w hSw; (try dsimp only at hSw); go_simp; try with_reducible rfl)
     simp only [Act.put, AP]
     refine tk 16 (v := ?_) rfl ?_ ?_
     rotate_left
     ·(intro w hSw; (try dsimp only at hSw); go_simp; try with_reducible rfl)
     simp only [Act.put, AP]
     refine tk 17 (v := ?_) rfl ?_ ?_
     rotate_left
     ·(intro w hSw; (try dsimp only at hSw); go_simp; try with_reducible rfl)
     simp only [Act.put, AP]
     refine wpAnyH_ready (rs := [11]) (by kernel_rfl) (by simp) ?_
     refine AllReadyH.cons rfl (fun K hK => ?_) AllReadyH.nil
     simp only [AP]
     go_simp
     refine hK.out _ _ ?_ (fun hHeld => ?_)
     ·exact hHeld
     clear hK K
     try simp only [Act.put, AP]
     refine wpAnyH_ready (rs := [15]) (by kernel_rfl) (by simp) ?_
     refine AllReadyH.cons rfl (fun K hK => ?_) AllReadyH.nil
     simp only [AP]
     go_simp
     refine Calls.mono H1.out ?_; rintro e w2 ⟨C, rfl, hk⟩
     go_wp2_with fail
     refine hK.out _ _ ?_ (fun hHeld => ?_)
     ·exact hk.touch.cell (p := ⟨pb, off, none⟩) HC.out (by simp [bsT])
     clear hK K
     try simp only [Act.put, AP]
     refine tk 18 (v := ?_) rfl ?_ ?_
     rotate_left
     ·(intro w hSw; (try dsimp only at hSw); go_simp; try with_reducible rfl)
     simp only [Act.put, AP]
     have hB2 := hk.touch.blk (HT.out.2.drew) (by simp [bsT])
     have e0 := hB2.cell (i := 1) rfl
     have e1 := hB2.frozen 1
     have HF := toHid (with_new (with_right HT.out.1 ⟨fun _ => rfl, trivial, trivial⟩ (by simp [bsT]) ((Touch.refl [] _).drew) hk))
     rw [ptr_ad C] at *
     clear hk hB2
     generalize adT C = ca at *
     refine wpAnyH_ready (rs := [19]) (by kernel_rfl) (by simp) ?_
     refine AllReadyH.cons rfl (fun K hK => ?_) AllReadyH.nil
     simp only [AP]
     go_simp
     refine hK.out _ _ ?_ (fun _ => ?_)
     ·exact ((Touch.refl [w.heap.size] w2).setCell ⟨w.heap.size, 1, none⟩ _ (Or.inl (by simp))).cell hHeld (by simpa using HNE.out)
     clear hK K
     try simp only [Act.put, AP]
     refine wpAnyH_done (by kernel_rfl) ?_ _
     go_wp2
     go_ret
     exact ⟨_, rfl, HF.out⟩
    | x :: p, hp1, ih =>
     have H1 := toHid (ih .nil (w.alloc (.cells #[.pointer none, .pointer none, .bool false, .int .i64 0] 197)).drew (some ⟨pb, off + 1, none⟩) trivial trivial (by simp [bsT]) (PathAt.still (hp1.tail) hd) (fun b' off' e => by simp [bsT]))
     show Calls Tryz.prog 159 #[.pointer none, .slice (some ⟨pb, off, none⟩) (p.length + 1 + 1) (p.length + 1 + 1), .int .i64 (s : Int)] w _
     simp only [List.length_cons] at H1
     have hc : (w.alloc (.cells #[.pointer none, .pointer none, .bool false, .int .i64 0] 197)).cell? ⟨pb, off, none⟩ = some (.int .i64 1) := hc1
     have HC := toHid hc
     have hcw : w.cell? ⟨pb, off, none⟩ = some (.int .i64 1) := hc0
     have hle : (1 : Int) ≤ (p.length : Int) + 1 + 1 := by omega
     unfold BT.ptr at H1
     clear hp hp1 hc0 hc1 HC0 hB hok hnd hT hT1 ih hd hout hpb hta
     go_enter Tryz.func159, Tryz.ntmps159
     go_wp2_with fail
     refine wp_region_held_drew (S := fun w' => w'.cell? ⟨pb, off, none⟩ = some (.int .i64 1)) (by kernel_rfl) ?_ (fun hHeld => ?_)
     ·exact HC.out
     refine tk 0 (v := ?_) rfl ?_ ?_
     rotate_left
     ·(intro w hSw; (try dsimp only at hSw); go_simp; try with_reducible rfl)
     simp only [Act.put, AP]
     refine tk 1 (v := ?_) rfl ?_ ?_
     rotate_left
     ·(intro w hSw; (try dsimp only at hSw); go_simp; try with_reducible rfl)
     simp only [Act.put, AP]
     refine tk 2 (v := ?_) rfl ?_ ?_
     rotate_left
     ·(intro w hSw; (try dsimp only at hSw); go_simp; try with_reducible rfl)
     simp only [Act.put, AP]
     refine tk 3 (v := ?_) rfl ?_ ?_
     rotate_left
     ·(intro w hSw; (try dsimp only at hSw); go_simp; try with_reducible rfl)
     simp only [Act.put, AP]
     refine tk 4 (v := ?_) rfl ?_ ?_
     rotate_left
     ·(intro w hSw; (try dsimp only at hSw); go_simp; try with_reducible rfl)
     simp only [Act.put, AP]
     refine tk 5 (v := ?_) rfl ?_ ?_
     rotate_left
     ·(intro w hSw; (try dsimp only at hSw); go_simp; try with_reducible rfl)
     simp only [Act.put, AP]
     refine tk 6 (v := ?_) rfl ?_ ?_
     rotate_left
     ·(intro w hSw; (try dsimp only at hSw); go_simp; try with_reducible rfl)
     simp only [Act.put, AP]
     refine tk 7 (v := ?_) rfl ?_ ?_
     rotate_left
     ·(intro w hSw; (try dsimp only at hSw); go_simp; try with_reducible rfl)
     simp only [Act.put, AP]
     refine tk 8 (v := ?_) rfl ?_ ?_
     rotate_left
     ·(intro w hSw; (try dsimp only at hSw); go_simp; try with_reducible rfl)
     simp only [Act.put, AP]
     refine tk 9 (v := ?_) rfl ?_ ?_
     rotate_left
     ·(intro w hSw; (try dsimp only at hSw); go_simp; try with_reducible rfl)
     simp only [Act.put, AP]
     refine tk 10 (v := ?_) rfl ?_ ?_
     rotate_left
     ·(intro w hSw; (try dsimp only at hSw); go_simp; try with_reducible rfl)
     simp only [Act.put, AP]
     refine tk 12 (v := ?_) rfl ?_ ?_
     rotate_left
     ·(intro w hSw; (try dsimp only at hSw); go_simp; try with_reducible rfl)
     simp only [Act.put, AP]
     refine tk 13 (v := ?_) rfl ?_ ?_
     rotate_left
     ·(intro w hSw; (try dsimp only at hSw); go_simp; try with_reducible rfl)
     simp only [Act.put, AP]
     refine tk 14 (v := ?_) rfl ?_ ?_
     rotate_left
     ·(intro w hSw; (try dsimp only at hSw); go_simp; try with_reducible rfl)
     simp only [Act.put, AP]
     refine tk 16 (v := ?_) rfl ?_ ?_
     rotate_left
     ·(intro w hSw; (try dsimp only at hSw); go_simp; try with_reducible rfl)
     simp only [Act.put, AP]
     refine tk 17 (v := ?_) rfl ?_ ?_
     rotate_left
     ·(intro w hSw; (try dsimp only at hSw); go_simp; try with_reducible rfl)
     simp only [Act.put, AP]
     refine wpAnyH_ready (rs := [11]) (by kernel_rfl) (by simp) ?_
     refine AllReadyH.cons rfl (fun K hK => ?_) AllReadyH.nil
     simp only [AP]
     go_simp
     refine hK.out _ _ ?_ (fun hHeld => ?_)
     ·exact hHeld
     clear hK K
     try simp only [Act.put, AP]
     refine wpAnyH_ready (rs := [15]) (by kernel_rfl) (by simp) ?_
     refine AllReadyH.cons rfl (fun K hK => ?_) AllReadyH.nil
     simp only [AP]
     go_simp
     refine Calls.mono H1.out ?_; rintro e w2 ⟨C, rfl, hk⟩
     go_wp2_with fail
     refine hK.out _ _ ?_ (fun hHeld => ?_)
     ·exact hk.touch.cell (p := ⟨pb, off, none⟩) HC.out (by simp [bsT])
     clear hK K
     try simp only [Act.put, AP]
     refine tk 18 (v := ?_) rfl ?_ ?_
     rotate_left
     ·(intro w hSw; (try dsimp only at hSw); go_simp; try with_reducible rfl)
     simp only [Act.put, AP]
     have hB2 := hk.touch.blk (HT.out.2.drew) (by simp [bsT])
     have e0 := hB2.cell (i := 1) rfl
     have e1 := hB2.frozen 1
     have HF := toHid (with_new (with_right HT.out.1 ⟨fun _ => rfl, trivial, trivial⟩ (by simp [bsT]) ((Touch.refl [] _).drew) hk))
     rw [ptr_ad C] at *
     clear hk hB2
     generalize adT C = ca at *
     refine wpAnyH_ready (rs := [19]) (by kernel_rfl) (by simp) ?_
     refine AllReadyH.cons rfl (fun K hK => ?_) AllReadyH.nil
     simp only [AP]
     go_simp
     refine hK.out _ _ ?_ (fun _ => ?_)
     ·exact ((Touch.refl [w.heap.size] w2).setCell ⟨w.heap.size, 1, none⟩ _ (Or.inl (by simp))).cell hHeld (by simpa using HNE.out)
     clear hK K
     try simp only [Act.put, AP]
     refine wpAnyH_done (by kernel_rfl) ?_ _
     go_wp2
     go_ret
     exact ⟨_, rfl, HF.out⟩
  | .node b o a l r, hT, hok, hnd =>
   obtain ⟨rfl, hrest⟩ := hT
   have hT : TrAt w (.node b 0 a l r) := ⟨rfl, hrest⟩
   have hB := hT.2.1
   have c0 := hB.cell (i := 0) rfl
   have c1 := hB.cell (i := 1) rfl
   obtain ⟨n1, n2, n3, n4, n5⟩ := nd_node hnd
   have hpl : pb ∉ bsT l ∧ pb ∉ bsT r := ⟨fun hx => hpb (by simp [bsT, hx]), fun hx => hpb (by simp [bsT, hx])⟩
   have HT := toHid (And.intro hT (And.intro hok (And.intro hnd (And.intro hB hpl))))
   have hd : Touch [] w w.drew := (Touch.refl [] w).drew
   cases c with
   | false =>
    match p, hp, ih with
    | [], hp, ih =>
     have H1 := toHid (ih l w.drew (some ⟨pb, off, none⟩) (hT.2.2.1.touch hd (by simp)) hok.2.1 n3 (PathAt.still (PathAt.last _) hd) (fun b' off' e => by injection e with e; injection e with e1; subst e1; exact hpl.1))
     show Calls Tryz.prog 159 #[.pointer (some ⟨b, 0, none⟩), .slice (some ⟨pb, off, none⟩) 1 1, .int .i64 (s : Int)] w _
     simp only [List.length_nil] at H1
     have hc : w.cell? ⟨pb, off, none⟩ = some (.int .i64 0) := hc0
     have HC := toHid hc
     skip
     rw [ptr_ad l] at H1 c0
     have HB := toHid hB
     have HNE : Hid (pb ≠ b) := fun e => hpb (by simp [bsT, e])
     clear hp hc0 HC0 hB hok hnd hT hrest ih hd n1 n2 n3 n4 n5 hpl hout hpb
     go_enter Tryz.func159, Tryz.ntmps159
     go_wp2_with fail
     refine wp_region_held_drew (S := fun w' => w'.cell? ⟨pb, off, none⟩ = some (.int .i64 0)) (by kernel_rfl) ?_ (fun hHeld => ?_)
     ·exact HC.out
     refine tk 0 (v := ?_) rfl ?_ ?_
     rotate_left
     ·(intro w hSw; (try dsimp only at hSw); go_simp; try with_reducible rfl)
     simp only [Act.put, AP]
     refine tk 1 (v := ?_) rfl ?_ ?_
     rotate_left
     ·(intro w hSw; (try dsimp only at hSw); go_simp; try with_reducible rfl)
     simp only [Act.put, AP]
     refine tk 2 (v := ?_) rfl ?_ ?_
     rotate_left
     ·(intro w hSw; (try dsimp only at hSw); go_simp; try with_reducible rfl)
     simp only [Act.put, AP]
     refine tk 3 (v := ?_) rfl ?_ ?_
     rotate_left
     ·(intro w hSw; (try dsimp only at hSw); go_simp; try with_reducible rfl)
     simp only [Act.put, AP]
     refine tk 4 (v := ?_) rfl ?_ ?_
     rotate_left
     ·(intro w hSw; (try dsimp only at hSw); go_simp; try with_reducible rfl)
     simp only [Act.put, AP]
     refine tk 5 (v := ?_) rfl ?_ ?_
     rotate_left
     ·(intro w hSw; (try dsimp only at hSw); go_simp; try with_reducible rfl)
     simp only [Act.put, AP]
     refine tk 6 (v := ?_) rfl ?_ ?_
     rotate_left
     ·(intro w hSw; (try dsimp only at hSw); go_simp; try with_reducible rfl)
     simp only [Act.put, AP]
     refine tk 7 (v := ?_) rfl ?_ ?_
     rotate_left
     ·(intro w hSw; (try dsimp only at hSw); go_simp; try with_reducible rfl)
     simp only [Act.put, AP]
     refine tk 8 (v := ?_) rfl ?_ ?_
     rotate_left
     ·(intro w hSw; (try dsimp only at hSw); go_simp; try with_reducible rfl)
     simp only [Act.put, AP]
     refine tk 9 (v := ?_) rfl ?_ ?_
     rotate_left
     ·(intro w hSw; (try dsimp only at hSw); go_simp; try with_reducible rfl)
     simp only [Act.put, AP]
     refine tk 10 (v := ?_) rfl ?_ ?_
     rotate_left
     ·(intro w hSw; (try dsimp only at hSw); go_simp; try with_reducible rfl)
     simp only [Act.put, AP]
     refine tk 12 (v := ?_) rfl ?_ ?_
     rotate_left
     ·(intro w hSw; (try dsimp only at hSw); go_simp; try with_reducible rfl)
     simp only [Act.put, AP]
     refine tk 13 (v := ?_) rfl ?_ ?_
     rotate_left
     ·(intro w hSw; (try dsimp only at hSw); go_simp; try with_reducible rfl)
     simp only [Act.put, AP]
     refine tk 14 (v := ?_) rfl ?_ ?_
     rotate_left
     ·(intro w hSw; (try dsimp only at hSw); go_simp; try with_reducible rfl)
     simp only [Act.put, AP]
     refine tk 16 (v := ?_) rfl ?_ ?_
     rotate_left
     ·(intro w hSw; (try dsimp only at hSw); go_simp; try with_reducible rfl)
     simp only [Act.put, AP]
     refine tk 17 (v := ?_) rfl ?_ ?_
     rotate_left
     ·(intro w hSw; (try dsimp only at hSw); go_simp; try with_reducible rfl)
     simp only [Act.put, AP]
     refine wpAnyH_ready (rs := [11]) (by kernel_rfl) (by simp) ?_
     refine AllReadyH.cons rfl (fun K hK => ?_) AllReadyH.nil
     simp only [AP]
     go_simp
     refine hK.out _ _ ?_ (fun hHeld => ?_)
     ·exact hHeld
     clear hK K
     try simp only [Act.put, AP]
     refine wpAnyH_ready (rs := [15]) (by kernel_rfl) (by simp) ?_
     refine AllReadyH.cons rfl (fun K hK => ?_) AllReadyH.nil
     simp only [AP]
     go_simp
     refine Calls.mono H1.out ?_; rintro e w2 ⟨C, rfl, hk⟩
     go_wp2_with fail
     refine hK.out _ _ ?_ (fun hHeld => ?_)
     ·exact hk.touch.cell (p := ⟨pb, off, none⟩) HC.out HT.out.2.2.2.2.1
     clear hK K
     try simp only [Act.put, AP]
     refine tk 18 (v := ?_) rfl ?_ ?_
     rotate_left
     ·(intro w hSw; (try dsimp only at hSw); go_simp; try with_reducible rfl)
     simp only [Act.put, AP]
     have hB2 := hk.touch.blk (HB.out.drew) (nd_node HT.out.2.2.1).1
     have e0 := hB2.cell (i := 0) rfl
     have e1 := hB2.frozen 0
     have HF := toHid (And.intro (with_left HT.out.1 HT.out.2.1 HT.out.2.2.1 ((Touch.refl [] w).drew) hk) HT.out.2.2.2.2)
     rw [ptr_ad C] at *
     clear hk hB2
     generalize adT C = ca at *
     refine wpAnyH_ready (rs := [19]) (by kernel_rfl) (by simp) ?_
     refine AllReadyH.cons rfl (fun K hK => ?_) AllReadyH.nil
     simp only [AP]
     go_simp
     refine hK.out _ _ ?_ (fun _ => ?_)
     ·exact ((Touch.refl [b] w2).setCell ⟨b, 0, none⟩ _ (Or.inl (by simp))).cell hHeld (by simpa using HNE.out)
     clear hK K
     try simp only [Act.put, AP]
     refine wpAnyH_done (by kernel_rfl) ?_ _
     go_wp2
     go_ret
     exact ⟨_, rfl, HF.out.1⟩
    | x :: p, hp, ih =>
     have H1 := toHid (ih l w.drew (some ⟨pb, off + 1, none⟩) (hT.2.2.1.touch hd (by simp)) hok.2.1 n3 (PathAt.still (hp.tail) hd) (fun b' off' e => by injection e with e; injection e with e1; subst e1; exact hpl.1))
     show Calls Tryz.prog 159 #[.pointer (some ⟨b, 0, none⟩), .slice (some ⟨pb, off, none⟩) (p.length + 1 + 1) (p.length + 1 + 1), .int .i64 (s : Int)] w _
     simp only [List.length_cons] at H1
     have hc : w.cell? ⟨pb, off, none⟩ = some (.int .i64 0) := hc0
     have HC := toHid hc
     have hle : (1 : Int) ≤ (p.length : Int) + 1 + 1 := by omega
     rw [ptr_ad l] at H1 c0
     have HB := toHid hB
     have HNE : Hid (pb ≠ b) := fun e => hpb (by simp [bsT, e])
     clear hp hc0 HC0 hB hok hnd hT hrest ih hd n1 n2 n3 n4 n5 hpl hout hpb
     go_enter Tryz.func159, Tryz.ntmps159
     go_wp2_with fail
     refine wp_region_held_drew (S := fun w' => w'.cell? ⟨pb, off, none⟩ = some (.int .i64 0)) (by kernel_rfl) ?_ (fun hHeld => ?_)
     ·exact HC.out
     refine tk 0 (v := ?_) rfl ?_ ?_
     rotate_left
     ·(intro w hSw; (try dsimp only at hSw); go_simp; try with_reducible rfl)
     simp only [Act.put, AP]
     refine tk 1 (v := ?_) rfl ?_ ?_
     rotate_left
     ·(intro w hSw; (try dsimp only at hSw); go_simp; try with_reducible rfl)
     simp only [Act.put, AP]
     refine tk 2 (v := ?_) rfl ?_ ?_
     rotate_left
     ·(intro w hSw; (try dsimp only at hSw); go_simp; try with_reducible rfl)
     simp only [Act.put, AP]
     refine tk 3 (v := ?_) rfl ?_ ?_
     rotate_left
     ·(intro w hSw; (try dsimp only at hSw); go_simp; try with_reducible rfl)
     simp only [Act.put, AP]
     refine tk 4 (v := ?_) rfl ?_ ?_
     rotate_left
     ·(intro w hSw; (try dsimp only at hSw); go_simp; try with_reducible rfl)
     simp only [Act.put, AP]
     refine tk 5 (v := ?_) rfl ?_ ?_
     rotate_left
     ·(intro w hSw; (try dsimp only at hSw); go_simp; try with_reducible rfl)
     simp only [Act.put, AP]
     refine tk 6 (v := ?_) rfl ?_ ?_
     rotate_left
     ·(intro w hSw; (try dsimp only at hSw); go_simp; try with_reducible rfl)
     simp only [Act.put, AP]
     refine tk 7 (v := ?_) rfl ?_ ?_
     rotate_left
     ·(intro w hSw; (try dsimp only at hSw); go_simp; try with_reducible rfl)
     simp only [Act.put, AP]
     refine tk 8 (v := ?_) rfl ?_ ?_
     rotate_left
     ·(intro w hSw; (try dsimp only at hSw); go_simp; try with_reducible rfl)
     simp only [Act.put, AP]
     refine tk 9 (v := ?_) rfl ?_ ?_
     rotate_left
     ·(intro w hSw; (try dsimp only at hSw); go_simp; try with_reducible rfl)
     simp only [Act.put, AP]
     refine tk 10 (v := ?_) rfl ?_ ?_
     rotate_left
     ·(intro w hSw; (try dsimp only at hSw); go_simp; try with_reducible rfl)
     simp only [Act.put, AP]
     refine tk 12 (v := ?_) rfl ?_ ?_
     rotate_left
     ·(intro w hSw; (try dsimp only at hSw); go_simp; try with_reducible rfl)
     simp only [Act.put, AP]
     refine tk 13 (v := ?_) rfl ?_ ?_
     rotate_left
     ·(intro w hSw; (try dsimp only at hSw); go_simp; try with_reducible rfl)
     simp only [Act.put, AP]
     refine tk 14 (v := ?_) rfl ?_ ?_
     rotate_left
     ·(intro w hSw; (try dsimp only at hSw); go_simp; try with_reducible rfl)
     simp only [Act.put, AP]
     refine tk 16 (v := ?_) rfl ?_ ?_
     rotate_left
     ·(intro w hSw; (try dsimp only at hSw); go_simp; try with_reducible rfl)
     simp only [Act.put, AP]
     refine tk 17 (v := ?_) rfl ?_ ?_
     rotate_left
     ·(intro w hSw; (try dsimp only at hSw); go_simp; try with_reducible rfl)
     simp only [Act.put, AP]
     refine wpAnyH_ready (rs := [11]) (by kernel_rfl) (by simp) ?_
     refine AllReadyH.cons rfl (fun K hK => ?_) AllReadyH.nil
     simp only [AP]
     go_simp
     refine hK.out _ _ ?_ (fun hHeld => ?_)
     ·exact hHeld
     clear hK K
     try simp only [Act.put, AP]
     refine wpAnyH_ready (rs := [15]) (by kernel_rfl) (by simp) ?_
     refine AllReadyH.cons rfl (fun K hK => ?_) AllReadyH.nil
     simp only [AP]
     go_simp
     refine Calls.mono H1.out ?_; rintro e w2 ⟨C, rfl, hk⟩
     go_wp2_with fail
     refine hK.out _ _ ?_ (fun hHeld => ?_)
     ·exact hk.touch.cell (p := ⟨pb, off, none⟩) HC.out HT.out.2.2.2.2.1
     clear hK K
     try simp only [Act.put, AP]
     refine tk 18 (v := ?_) rfl ?_ ?_
     rotate_left
     ·(intro w hSw; (try dsimp only at hSw); go_simp; try with_reducible rfl)
     simp only [Act.put, AP]
     have hB2 := hk.touch.blk (HB.out.drew) (nd_node HT.out.2.2.1).1
     have e0 := hB2.cell (i := 0) rfl
     have e1 := hB2.frozen 0
     have HF := toHid (And.intro (with_left HT.out.1 HT.out.2.1 HT.out.2.2.1 ((Touch.refl [] w).drew) hk) HT.out.2.2.2.2)
     rw [ptr_ad C] at *
     clear hk hB2
     generalize adT C = ca at *
     refine wpAnyH_ready (rs := [19]) (by kernel_rfl) (by simp) ?_
     refine AllReadyH.cons rfl (fun K hK => ?_) AllReadyH.nil
     simp only [AP]
     go_simp
     refine hK.out _ _ ?_ (fun _ => ?_)
     ·exact ((Touch.refl [b] w2).setCell ⟨b, 0, none⟩ _ (Or.inl (by simp))).cell hHeld (by simpa using HNE.out)
     clear hK K
     try simp only [Act.put, AP]
     refine wpAnyH_done (by kernel_rfl) ?_ _
     go_wp2
     go_ret
     exact ⟨_, rfl, HF.out.1⟩
   | true =>
    match p, hp, ih with
    | [], hp, ih =>
     have H1 := toHid (ih r w.drew (some ⟨pb, off, none⟩) (hT.2.2.2.touch hd (by simp)) hok.2.2 n4 (PathAt.still (PathAt.last _) hd) (fun b' off' e => by injection e with e; injection e with e1; subst e1; exact hpl.2))
     show Calls Tryz.prog 159 #[.pointer (some ⟨b, 0, none⟩), .slice (some ⟨pb, off, none⟩) 1 1, .int .i64 (s : Int)] w _
     simp only [List.length_nil] at H1
     have hc : w.cell? ⟨pb, off, none⟩ = some (.int .i64 1) := hc0
     have HC := toHid hc
     skip
     rw [ptr_ad r] at H1 c1
     have HB := toHid hB
     have HNE : Hid (pb ≠ b) := fun e => hpb (by simp [bsT, e])
     clear hp hc0 HC0 hB hok hnd hT hrest ih hd n1 n2 n3 n4 n5 hpl hout hpb
     go_enter Tryz.func159, Tryz.ntmps159
     go_wp2_with fail
     refine wp_region_held_drew (S := fun w' => w'.cell? ⟨pb, off, none⟩ = some (.int .i64 1)) (by kernel_rfl) ?_ (fun hHeld => ?_)
     ·exact HC.out
     refine tk 0 (v := ?_) rfl ?_ ?_
     rotate_left
     ·(intro w hSw; (try dsimp only at hSw); go_simp; try with_reducible rfl)
     simp only [Act.put, AP]
     refine tk 1 (v := ?_) rfl ?_ ?_
     rotate_left
     ·(intro w hSw; (try dsimp only at hSw); go_simp; try with_reducible rfl)
     simp only [Act.put, AP]
     refine tk 2 (v := ?_) rfl ?_ ?_
     rotate_left
     ·(intro w hSw; (try dsimp only at hSw); go_simp; try with_reducible rfl)
     simp only [Act.put, AP]
     refine tk 3 (v := ?_) rfl ?_ ?_
     rotate_left
     ·(intro w hSw; (try dsimp only at hSw); go_simp; try with_reducible rfl)
     simp only [Act.put, AP]
     refine tk 4 (v := ?_) rfl ?_ ?_
     rotate_left
     ·(intro w hSw; (try dsimp only at hSw); go_simp; try with_reducible rfl)
     simp only [Act.put, AP]
     refine tk 5 (v := ?_) rfl ?_ ?_
     rotate_left
     ·(intro w hSw; (try dsimp only at hSw); go_simp; try with_reducible rfl)
     simp only [Act.put, AP]
     refine tk 6 (v := ?_) rfl ?_ ?_
     rotate_left
     ·(intro w hSw; (try dsimp only at hSw); go_simp; try with_reducible rfl)
     simp only [Act.put, AP]
     refine tk 7 (v := ?_) rfl ?_ ?_
     rotate_left
     ·(intro w hSw; (try dsimp only at hSw); go_simp; try with_reducible rfl)
     simp only [Act.put, AP]
     refine tk 8 (v := ?_) rfl ?_ ?_
     rotate_left
     ·(intro w hSw; (try dsimp only at hSw); go_simp; try with_reducible rfl)
     simp only [Act.put, AP]
     refine tk 9 (v := ?_) rfl ?_ ?_
     rotate_left
     ·(intro w hSw; (try dsimp only at hSw); go_simp; try with_reducible rfl)
     simp only [Act.put, AP]
     refine tk 10 (v := ?_) rfl ?_ ?_
     rotate_left
     ·(intro w hSw; (try dsimp only at hSw); go_simp; try with_reducible rfl)
     simp only [Act.put, AP]
     refine tk 12 (v := ?_) rfl ?_ ?_
     rotate_left
     ·(intro w hSw; (try dsimp only at hSw); go_simp; try with_reducible rfl)
     simp only [Act.put, AP]
     refine tk 13 (v := ?_) rfl ?_ ?_
     rotate_left
     ·(intro w hSw; (try dsimp only at hSw); go_simp; try with_reducible rfl)
     simp only [Act.put, AP]
     refine tk 14 (v := ?_) rfl ?_ ?_
     rotate_left
     ·(intro w hSw; (try dsimp only at hSw); go_simp; try with_reducible rfl)
     simp only [Act.put, AP]
     refine tk 16 (v := ?_) rfl ?_ ?_
     rotate_left
     ·(intro w hSw; (try dsimp only at hSw); go_simp; try with_reducible rfl)
     simp only [Act.put, AP]
     refine tk 17 (v := ?_) rfl ?_ ?_
     rotate_left
     ·(intro w hSw; (try dsimp only at hSw); go_simp; try with_reducible rfl)
     simp only [Act.put, AP]
     refine wpAnyH_ready (rs := [11]) (by kernel_rfl) (by simp) ?_
     refine AllReadyH.cons rfl (fun K hK => ?_) AllReadyH.nil
     simp only [AP]
     go_simp
     refine hK.out _ _ ?_ (fun hHeld => ?_)
     ·exact hHeld
     clear hK K
     try simp only [Act.put, AP]
     refine wpAnyH_ready (rs := [15]) (by kernel_rfl) (by simp) ?_
     refine AllReadyH.cons rfl (fun K hK => ?_) AllReadyH.nil
     simp only [AP]
     go_simp
     refine Calls.mono H1.out ?_; rintro e w2 ⟨C, rfl, hk⟩
     go_wp2_with fail
     refine hK.out _ _ ?_ (fun hHeld => ?_)
     ·exact hk.touch.cell (p := ⟨pb, off, none⟩) HC.out HT.out.2.2.2.2.2
     clear hK K
     try simp only [Act.put, AP]
     refine tk 18 (v := ?_) rfl ?_ ?_
     rotate_left
     ·(intro w hSw; (try dsimp only at hSw); go_simp; try with_reducible rfl)
     simp only [Act.put, AP]
     have hB2 := hk.touch.blk (HB.out.drew) (nd_node HT.out.2.2.1).2.1
     have e0 := hB2.cell (i := 1) rfl
     have e1 := hB2.frozen 1
     have HF := toHid (And.intro (with_right HT.out.1 HT.out.2.1 HT.out.2.2.1 ((Touch.refl [] w).drew) hk) HT.out.2.2.2.2)
     rw [ptr_ad C] at *
     clear hk hB2
     generalize adT C = ca at *
     refine wpAnyH_ready (rs := [19]) (by kernel_rfl) (by simp) ?_
     refine AllReadyH.cons rfl (fun K hK => ?_) AllReadyH.nil
     simp only [AP]
     go_simp
     refine hK.out _ _ ?_ (fun _ => ?_)
     ·exact ((Touch.refl [b] w2).setCell ⟨b, 1, none⟩ _ (Or.inl (by simp))).cell hHeld (by simpa using HNE.out)
     clear hK K
     try simp only [Act.put, AP]
     refine wpAnyH_done (by kernel_rfl) ?_ _
     go_wp2
     go_ret
     exact ⟨_, rfl, HF.out.1⟩
    | x :: p, hp, ih =>
     have H1 := toHid (ih r w.drew (some ⟨pb, off + 1, none⟩) (hT.2.2.2.touch hd (by simp)) hok.2.2 n4 (PathAt.still (hp.tail) hd) (fun b' off' e => by injection e with e; injection e with e1; subst e1; exact hpl.2))
     show Calls Tryz.prog 159 #[.pointer (some ⟨b, 0, none⟩), .slice (some ⟨pb, off, none⟩) (p.length + 1 + 1) (p.length + 1 + 1), .int .i64 (s : Int)] w _
     simp only [List.length_cons] at H1
     have hc : w.cell? ⟨pb, off, none⟩ = some (.int .i64 1) := hc0
     have HC := toHid hc
     have hle : (1 : Int) ≤ (p.length : Int) + 1 + 1 := by omega
     rw [ptr_ad r] at H1 c1
     have HB := toHid hB
     have HNE : Hid (pb ≠ b) := fun e => hpb (by simp [bsT, e])
     clear hp hc0 HC0 hB hok hnd hT hrest ih hd n1 n2 n3 n4 n5 hpl hout hpb
     go_enter Tryz.func159, Tryz.ntmps159
     go_wp2_with fail
     refine wp_region_held_drew (S := fun w' => w'.cell? ⟨pb, off, none⟩ = some (.int .i64 1)) (by kernel_rfl) ?_ (fun hHeld => ?_)
     ·exact HC.out
     refine tk 0 (v := ?_) rfl ?_ ?_
     rotate_left
     ·(intro w hSw; (try dsimp only at hSw); go_simp; try with_reducible rfl)
     simp only [Act.put, AP]
     refine tk 1 (v := ?_) rfl ?_ ?_
     rotate_left
     ·(intro w hSw; (try dsimp only at hSw); go_simp; try with_reducible rfl)
     simp only [Act.put, AP]
     refine tk 2 (v := ?_) rfl ?_ ?_
     rotate_left
     ·(intro w hSw; (try dsimp only at hSw); go_simp; try with_reducible rfl)
     simp only [Act.put, AP]
     refine tk 3 (v := ?_) rfl ?_ ?_
     rotate_left
     ·(intro w hSw; (try dsimp only at hSw); go_simp; try with_reducible rfl)
     simp only [Act.put, AP]
     refine tk 4 (v := ?_) rfl ?_ ?_
     rotate_left
     ·(intro w hSw; (try dsimp only at hSw); go_simp; try with_reducible rfl)
     simp only [Act.put, AP]
     refine tk 5 (v := ?_) rfl ?_ ?_
     rotate_left
     ·(intro w hSw; (try dsimp only at hSw); go_simp; try with_reducible rfl)
     simp only [Act.put, AP]
     refine tk 6 (v := ?_) rfl ?_ ?_
     rotate_left
     ·(intro w hSw; (try dsimp only at hSw); go_simp; try with_reducible rfl)
     simp only [Act.put, AP]
     refine tk 7 (v := ?_) rfl ?_ ?_
     rotate_left
     ·(intro w hSw; (try dsimp only at hSw); go_simp; try with_reducible rfl)
     simp only [Act.put, AP]
     refine tk 8 (v := ?_) rfl ?_ ?_
     rotate_left
     ·(intro w hSw; (try dsimp only at hSw); go_simp; try with_reducible rfl)
     simp only [Act.put, AP]
     refine tk 9 (v := ?_) rfl ?_ ?_
     rotate_left
     ·(intro w hSw; (try dsimp only at hSw); go_simp; try with_reducible rfl)
     simp only [Act.put, AP]
     refine tk 10 (v := ?_) rfl ?_ ?_
     rotate_left
     ·(intro w hSw; (try dsimp only at hSw); go_simp; try with_reducible rfl)
     simp only [Act.put, AP]
     refine tk 12 (v := ?_) rfl ?_ ?_
     rotate_left
     ·(intro w hSw; (try dsimp only at hSw); go_simp; try with_reducible rfl)
     simp only [Act.put, AP]
     refine tk 13 (v := ?_) rfl ?_ ?_
     rotate_left
     ·(intro w hSw; (try dsimp only at hSw); go_simp; try with_reducible rfl)
     simp only [Act.put, AP]
     refine tk 14 (v := ?_) rfl ?_ ?_
     rotate_left
     ·(intro w hSw; (try dsimp only at hSw); go_simp; try with_reducible rfl)
     simp only [Act.put, AP]
     refine tk 16 (v := ?_) rfl ?_ ?_
     rotate_left
     ·(intro w hSw; (try dsimp only at hSw); go_simp; try with_reducible rfl)
     simp only [Act.put, AP]
     refine tk 17 (v := ?_) rfl ?_ ?_
     rotate_left
     ·(intro w hSw; (try dsimp only at hSw); go_simp; try with_reducible rfl)
     simp only [Act.put, AP]
     refine wpAnyH_ready (rs := [11]) (by kernel_rfl) (by simp) ?_
     refine AllReadyH.cons rfl (fun K hK => ?_) AllReadyH.nil
     simp only [AP]
     go_simp
     refine hK.out _ _ ?_ (fun hHeld => ?_)
     ·exact hHeld
     clear hK K
     try simp only [Act.put, AP]
     refine wpAnyH_ready (rs := [15]) (by kernel_rfl) (by simp) ?_
     refine AllReadyH.cons rfl (fun K hK => ?_) AllReadyH.nil
     simp only [AP]
     go_simp
     refine Calls.mono H1.out ?_; rintro e w2 ⟨C, rfl, hk⟩
     go_wp2_with fail
     refine hK.out _ _ ?_ (fun hHeld => ?_)
     ·exact hk.touch.cell (p := ⟨pb, off, none⟩) HC.out HT.out.2.2.2.2.2
     clear hK K
     try simp only [Act.put, AP]
     refine tk 18 (v := ?_) rfl ?_ ?_
     rotate_left
     ·(intro w hSw; (try dsimp only at hSw); go_simp; try with_reducible rfl)
     simp only [Act.put, AP]
     have hB2 := hk.touch.blk (HB.out.drew) (nd_node HT.out.2.2.1).2.1
     have e0 := hB2.cell (i := 1) rfl
     have e1 := hB2.frozen 1
     have HF := toHid (And.intro (with_right HT.out.1 HT.out.2.1 HT.out.2.2.1 ((Touch.refl [] w).drew) hk) HT.out.2.2.2.2)
     rw [ptr_ad C] at *
     clear hk hB2
     generalize adT C = ca at *
     refine wpAnyH_ready (rs := [19]) (by kernel_rfl) (by simp) ?_
     refine AllReadyH.cons rfl (fun K hK => ?_) AllReadyH.nil
     simp only [AP]
     go_simp
     refine hK.out _ _ ?_ (fun _ => ?_)
     ·exact ((Touch.refl [b] w2).setCell ⟨b, 1, none⟩ _ (Or.inl (by simp))).cell hHeld (by simpa using HNE.out)
     clear hK K
     try simp only [Act.put, AP]
     refine wpAnyH_done (by kernel_rfl) ?_ _
     go_wp2
     go_ret
     exact ⟨_, rfl, HF.out.1⟩
end Go.Proofs.YtmhhahmjkopjhaaGreat.Lpm
end
section
namespace Go.Proofs.YtmhhahmjkopjhaaGreat.Lpm
open Go.RowKit Go.Deep
structure OKept (w : World) (T : Tr) (p : List Bool) (T' : Tr) (w' : World) : Prop where
 at_ : TrAt w' T'
 ok : okT T'
 nd : (bsT T').Nodup
 get : ∀ q, atT T' q = if q = p then none else atT T q
 blocks : ∀ b ∈ bsT T', b ∈ bsT T
 touch : Touch (bsT T) w w'
 dep : depT T' ≤ depT T
def OPost (w : World) (T : Tr) (p : List Bool) (e : Ending) (w' : World) : Prop := ∃ T', e = .returned (.pointer (adT T')) ∧ OKept w T p T' w'
theorem info84 : (Tryz.prog.info? 197).map (fun i => (i.zero, i.size, i.bytes)) = some (some (.agg #[.pointer none, .pointer none, .bool false, .int .i64 0]), 4, 32) := by kernel_rfl
theorem info56 : (Tryz.prog.info? 185).map (fun i => (i.zero, i.size, i.bytes)) = some (some (.pointer none), 1, 8) := by kernel_rfl
theorem cells56 : Tryz.prog.cellsOf 185 = 1 := by kernel_rfl
theorem eq56 (x : Option Addr) (w : World) (d : Nat) : (Op.equalIn (d + 1) 185 (.pointer x) (.pointer none)).run Tryz.prog w = .ok x.isNone w := by
 obtain ⟨i, hi, _, _, _⟩ := info_of info84
 cases x with
 | none => simp [Op.equalIn, run_underlying Tryz.underlying185, sizeOf, typeInfo, sameAddr]
 | some x => simp [Op.equalIn, run_underlying Tryz.underlying185, sizeOf, typeInfo, sameAddr]
theorem eq82 (x y : Option Addr) (w : World) : (Op.equalIn 10000 195 (.agg #[.pointer x, .pointer y]) (.agg #[.pointer none, .pointer none])).run Tryz.prog w = .ok (x.isNone && y.isNone) w := by
 obtain ⟨i, hi, _, _, _⟩ := info_of info56
 rw [show (10000 : Nat) = 9999 + 1 from rfl, run_equalIn_array w 9999 #[.pointer x, .pointer y] #[.pointer none, .pointer none] Tryz.underlying195 hi, cells56, show List.range 2 = [0, 1] from rfl]
 have h1 := eq56 x w 9998
 have h2 := eq56 y w 9998
 simp only [Op.eqItems]
 go_simp
 cases x <;> cases y <;> rfl
theorem out_here {w : World} {b : Nat} {a : Bool × Nat} {l r : Tr} (h : TrAt w (.node b 0 a l r)) (ok : okT (.node b 0 a l r)) (nd : (bsT (.node b 0 a l r)).Nodup) :
  OKept w (.node b 0 a l r) [] (.node b 0 (false, 0) l r) ((w.setCell ⟨b, 2, none⟩ (.bool false)).setCell ⟨b, 3, none⟩ (.int .i64 0)) := by
 obtain ⟨n1, n2, n3, n4, n5⟩ := nd_node nd
 have ht : Touch [b] w ((w.setCell ⟨b, 2, none⟩ (.bool false)).setCell ⟨b, 3, none⟩ (.int .i64 0)) := ((Touch.refl [b] w).setCell _ _ (Or.inl (by simp))).setCell _ _ (Or.inl (by simp))
 refine ⟨⟨rfl, (h.2.1.setCell 2 (.bool false)).setCell 3 (.int .i64 0), h.2.2.1.touch ht (fun x hx hy => ?_), h.2.2.2.touch ht (fun x hx hy => ?_)⟩, ⟨fun _ => rfl, ok.2⟩, nd, fun q => ?_, fun x hx => hx, ht.mono (fun x hx => Or.inl (by simp at hx; simp [bsT, hx])), (by simp only [depT]; omega)⟩
 ·simp at hy; subst hy; exact n1 hx
 ·simp at hy; subst hy; exact n2 hx
 ·match q with
  | [] => rfl
  | false :: q => simp [atT]
  | true :: q => simp [atT]
theorem out_prune {w : World} {T : Tr} {p : List Bool} {b : Nat} {a : Bool × Nat} {w' : World} (k : OKept w T p (.node b 0 a .nil .nil) w') (h : a.1 = false) : OKept w T p .nil w' := by
 refine ⟨trivial, trivial, by simp [bsT], fun q => ?_, fun b hb => (by cases hb), k.touch, (by simp [depT])⟩
 rw [← k.get q]
 match q with
 | [] => simp [atT, heldT, h]
 | false :: q => rfl
 | true :: q => rfl
theorem adT_nil {T : Tr} (h : adT T = none) : T = .nil := by
 cases T with
 | nil => rfl
 | node b o a l r => cases h
theorem out_left {w w0 w2 : World} {b : Nat} {a : Bool × Nat} {l r C : Tr} {p : List Bool} (h : TrAt w (.node b 0 a l r)) (ok : okT (.node b 0 a l r)) (nd : (bsT (.node b 0 a l r)).Nodup) (h0 : Touch [] w w0) (k : OKept w0 l p C w2) :
  OKept w (.node b 0 a l r) (false :: p) (.node b 0 a C r) (w2.setCell ⟨b, 0, none⟩ C.ptr) ∧ Blk (w2.setCell ⟨b, 0, none⟩ C.ptr) b [C.ptr, r.ptr, .bool a.1, .int .i64 (a.2 : Int)] 197 := by
 obtain ⟨n1, n2, n3, n4, n5⟩ := nd_node nd
 have ht : Touch (bsT l) w w2 := (Touch.nil h0).trans k.touch (fun y hy => Or.inl hy)
 have hb : b ∉ bsT C := fun hx => n1 (k.blocks b hx)
 have hap : ∀ x ∈ bsT C, x ∉ bsT r := fun x hx hy => n5 x (k.blocks x hx) hy
 have hts : Touch [b] w2 (w2.setCell ⟨b, 0, none⟩ C.ptr) := (Touch.refl [b] w2).setCell _ _ (Or.inl (by simp))
 have hsib : TrAt (w2.setCell ⟨b, 0, none⟩ C.ptr) r := (h.2.2.2.touch ht (fun x hx hy => n5 x hy hx)).touch hts (fun x hx hy => by simp at hy; subst hy; exact n2 hx)
 have hch : TrAt (w2.setCell ⟨b, 0, none⟩ C.ptr) C := k.at_.touch hts (fun x hx hy => by simp at hy; subst hy; exact hb hx)
 have hB : Blk w2 b [l.ptr, r.ptr, .bool a.1, .int .i64 (a.2 : Int)] 197 := ht.blk h.2.1 n1
 have hB2 : Blk (w2.setCell ⟨b, 0, none⟩ C.ptr) b [C.ptr, r.ptr, .bool a.1, .int .i64 (a.2 : Int)] 197 := hB.setCell 0 C.ptr
 refine ⟨⟨⟨rfl, hB2, hch, hsib⟩, ⟨ok.1, k.ok, ok.2.2⟩, nd_mk hb n2 k.nd n4 hap, fun q => ?_, fun x hx => ?_, ?_, (by have := k.dep; simp only [depT]; omega)⟩, hB2⟩
 ·match q with
  | [] => simp [atT]
  | false :: q => simp [atT, k.get q]
  | true :: q => simp [atT]
 ·simp only [bsT, List.mem_cons, List.mem_append] at hx ⊢
  rcases hx with hx | hx | hx
  ·exact Or.inl hx
  ·exact Or.inr (Or.inl (k.blocks x hx))
  ·exact Or.inr (Or.inr hx)
 ·exact (ht.mono (S' := bsT (.node b 0 a l r)) (fun x hx => Or.inl (by simp [bsT, hx]))).trans hts (fun x hx => Or.inl (by simp at hx; simp [bsT, hx]))
theorem out_right {w w0 w2 : World} {b : Nat} {a : Bool × Nat} {l r C : Tr} {p : List Bool} (h : TrAt w (.node b 0 a l r)) (ok : okT (.node b 0 a l r)) (nd : (bsT (.node b 0 a l r)).Nodup) (h0 : Touch [] w w0) (k : OKept w0 r p C w2) :
  OKept w (.node b 0 a l r) (true :: p) (.node b 0 a l C) (w2.setCell ⟨b, 1, none⟩ C.ptr) ∧ Blk (w2.setCell ⟨b, 1, none⟩ C.ptr) b [l.ptr, C.ptr, .bool a.1, .int .i64 (a.2 : Int)] 197 := by
 obtain ⟨n1, n2, n3, n4, n5⟩ := nd_node nd
 have ht : Touch (bsT r) w w2 := (Touch.nil h0).trans k.touch (fun y hy => Or.inl hy)
 have hb : b ∉ bsT C := fun hx => n2 (k.blocks b hx)
 have hap : ∀ x ∈ bsT C, x ∉ bsT l := fun x hx hy => n5 x hy (k.blocks x hx)
 have hts : Touch [b] w2 (w2.setCell ⟨b, 1, none⟩ C.ptr) := (Touch.refl [b] w2).setCell _ _ (Or.inl (by simp))
 have hsib : TrAt (w2.setCell ⟨b, 1, none⟩ C.ptr) l := (h.2.2.1.touch ht (fun x hx hy => n5 x hx hy)).touch hts (fun x hx hy => by simp at hy; subst hy; exact n1 hx)
 have hch : TrAt (w2.setCell ⟨b, 1, none⟩ C.ptr) C := k.at_.touch hts (fun x hx hy => by simp at hy; subst hy; exact hb hx)
 have hB : Blk w2 b [l.ptr, r.ptr, .bool a.1, .int .i64 (a.2 : Int)] 197 := ht.blk h.2.1 n2
 have hB2 : Blk (w2.setCell ⟨b, 1, none⟩ C.ptr) b [l.ptr, C.ptr, .bool a.1, .int .i64 (a.2 : Int)] 197 := hB.setCell 1 C.ptr
 refine ⟨⟨⟨rfl, hB2, hsib, hch⟩, ⟨ok.1, ok.2.1, k.ok⟩, nd_mk n1 hb n3 k.nd (fun x hx hy => hap x hy hx), fun q => ?_, fun x hx => ?_, ?_, (by have := k.dep; simp only [depT]; omega)⟩, hB2⟩
 ·match q with
  | [] => simp [atT]
  | false :: q => simp [atT]
  | true :: q => simp [atT, k.get q]
 ·simp only [bsT, List.mem_cons, List.mem_append] at hx ⊢
  rcases hx with hx | hx | hx
  ·exact Or.inl hx
  ·exact Or.inr (Or.inl hx)
  ·exact Or.inr (Or.inr (k.blocks x hx))
 ·exact (ht.mono (S' := bsT (.node b 0 a l r)) (fun x hx => Or.inl (by simp [bsT, hx]))).trans hts (fun x hx => Or.inl (by simp at hx; simp [bsT, hx]))
theorem without_any : ∀ (p : List Bool) (T : Tr) (w : World) (sa : Option Addr), TrAt w T → okT T → (bsT T).Nodup → PathAt w sa p → (∀ b off, sa = some ⟨b, off, none⟩ → b ∉ bsT T) → (∃ s, atT T p = some s) →
  Calls Tryz.prog 151 #[T.ptr, .slice sa p.length p.length] w (OPost w T p) := by
 intro p
 induction p with
 | nil =>
  intro T w sa hT hok hnd hp hout hin
  match T, hT, hok, hnd, hin with
  | .nil, _, _, _, hin =>
   obtain ⟨s, hs⟩ := hin
   cases hs
  | .node b o a l r, hT, hok, hnd, hin =>
   obtain ⟨rfl, hrest⟩ := hT
   have hT : TrAt w (.node b 0 a l r) := ⟨rfl, hrest⟩
   have hB := hT.2.1
   have c2 := hB.cell (i := 2) rfl
   have c3 := (hB.setCell 2 (.bool false)).cell (i := 3) rfl
   have f2 := hB.frozen 2
   have f3 := (hB.setCell 2 (.bool false)).frozen 3
   have hB3 := (hB.setCell 2 (.bool false)).setCell 3 (.int .i64 0)
   have d0 := hB3.cell (i := 0) rfl
   have d1 := hB3.cell (i := 1) rfl
   have d2 := hB3.cell (i := 2) rfl
   show Calls Tryz.prog 151 #[.pointer (some ⟨b, 0, none⟩), .slice sa 0 0] w _
   have HF := toHid (out_here hT hok hnd)
   have hq := eq82
   clear hp hout hB hB3 hT hrest hok hnd hin
   rw [ptr_ad l] at d0
   rw [ptr_ad r] at d1
   generalize hla : adT l = la at *
   generalize hra : adT r = ra at *
   cases la with
   | none =>
    cases ra with
    | none =>
     have el := adT_nil hla
     have er := adT_nil hra
     subst el er
     have HG : Hid (OPost w (.node b 0 a .nil .nil) [] (.returned (.pointer none)) ((w.setCell ⟨b, 2, none⟩ (.bool false)).setCell ⟨b, 3, none⟩ (.int .i64 0))) := ⟨.nil, rfl, out_prune HF.out rfl⟩
     clear HF hla hra
     go_enter Tryz.func151, Tryz.ntmps151
     go_wp2
     go_ret
     exact HG.out
    | some x =>
     have HG : Hid (OPost w (.node b 0 a l r) [] (.returned (.pointer (some ⟨b, 0, none⟩))) ((w.setCell ⟨b, 2, none⟩ (.bool false)).setCell ⟨b, 3, none⟩ (.int .i64 0))) := ⟨_, rfl, HF.out⟩
     clear HF hla hra
     go_enter Tryz.func151, Tryz.ntmps151
     go_wp2
     go_ret
     exact HG.out
   | some x =>
    have HG : Hid (OPost w (.node b 0 a l r) [] (.returned (.pointer (some ⟨b, 0, none⟩))) ((w.setCell ⟨b, 2, none⟩ (.bool false)).setCell ⟨b, 3, none⟩ (.int .i64 0))) := ⟨_, rfl, HF.out⟩
    clear HF hla hra
    go_enter Tryz.func151, Tryz.ntmps151
    go_wp2
    go_ret
    exact HG.out
 | cons c p ih =>
  intro T w sa hT hok hnd hp hout hin
  obtain ⟨pb, off, rfl, hc0⟩ := hp.head
  have hpb := hout pb off rfl
  match T, hT, hok, hnd, hin with
  | .nil, _, _, _, hin =>
   obtain ⟨s, hs⟩ := hin
   cases hs
  | .node b o a l r, hT, hok, hnd, hin =>
   obtain ⟨rfl, hrest⟩ := hT
   have hT : TrAt w (.node b 0 a l r) := ⟨rfl, hrest⟩
   have hB := hT.2.1
   have c0 := hB.cell (i := 0) rfl
   have c1 := hB.cell (i := 1) rfl
   obtain ⟨n1, n2, n3, n4, n5⟩ := nd_node hnd
   have hpl : pb ∉ bsT l ∧ pb ∉ bsT r := ⟨fun hx => hpb (by simp [bsT, hx]), fun hx => hpb (by simp [bsT, hx])⟩
   have HT := toHid (And.intro hT (And.intro hok (And.intro hnd (And.intro hB hpl))))
   have hd : Touch [] w w.drew := (Touch.refl [] w).drew
   cases c with
   | false =>
    match p, hp, ih, hin with
    | [], hp, ih, hin =>
     have H1 := toHid (ih l w.drew (some ⟨pb, off, none⟩) (hT.2.2.1.touch hd (by simp)) hok.2.1 n3 (PathAt.still (PathAt.last _) hd) (fun b' off' e => by injection e with e; injection e with e1; subst e1; exact hpl.1) hin)
     show Calls Tryz.prog 151 #[.pointer (some ⟨b, 0, none⟩), .slice (some ⟨pb, off, none⟩) 1 1] w _
     simp only [List.length_nil] at H1
     have hc : w.cell? ⟨pb, off, none⟩ = some (.int .i64 0) := hc0
     have HC := toHid hc
     skip
     rw [ptr_ad l] at H1 c0
     have HB := toHid hB
     have HNE : Hid (pb ≠ b) := fun e => hpb (by simp [bsT, e])
     clear hp hc0 hB hok hnd hT hrest ih hd n1 n2 n3 n4 n5 hpl hout hpb hin
     go_enter Tryz.func151, Tryz.ntmps151
     go_wp2_with fail
     refine wp_region_held_drew (S := fun w' => w'.cell? ⟨pb, off, none⟩ = some (.int .i64 0)) (by kernel_rfl) ?_ (fun hHeld => ?_)
     ·exact HC.out
     refine tk 0 (v := ?_) rfl ?_ ?_
     rotate_left
     ·(intro w hSw; (try dsimp only at hSw); go_simp; try with_reducible rfl)
     simp only [Act.put, AP]
     refine tk 1 (v := ?_) rfl ?_ ?_
     rotate_left
     ·(intro w hSw; (try dsimp only at hSw); go_simp; try with_reducible rfl)
     simp only [Act.put, AP]
     refine tk 2 (v := ?_) rfl ?_ ?_
     rotate_left
     ·(intro w hSw; (try dsimp only at hSw); go_simp; try with_reducible rfl)
     simp only [Act.put, AP]
     refine tk 3 (v := ?_) rfl ?_ ?_
     rotate_left
     ·(intro w hSw; (try dsimp only at hSw); go_simp; try with_reducible rfl)
     simp only [Act.put, AP]
     refine tk 4 (v := ?_) rfl ?_ ?_
     rotate_left
     ·(intro w hSw; (try dsimp only at hSw); go_simp; try with_reducible rfl)
     simp only [Act.put, AP]
     refine tk 5 (v := ?_) rfl ?_ ?_
     rotate_left
     ·(intro w hSw; (try dsimp only at hSw); go_simp; try with_reducible rfl)
     simp only [Act.put, AP]
     refine tk 6 (v := ?_) rfl ?_ ?_
     rotate_left
     ·(intro w hSw; (try dsimp only at hSw); go_simp; try with_reducible rfl)
     simp only [Act.put, AP]
     refine tk 7 (v := ?_) rfl ?_ ?_
     rotate_left
     ·(intro w hSw; (try dsimp only at hSw); go_simp; try with_reducible rfl)
     simp only [Act.put, AP]
     refine tk 8 (v := ?_) rfl ?_ ?_
     rotate_left
     ·(intro w hSw; (try dsimp only at hSw); go_simp; try with_reducible rfl)
     simp only [Act.put, AP]
     refine tk 9 (v := ?_) rfl ?_ ?_
     rotate_left
     ·(intro w hSw; (try dsimp only at hSw); go_simp; try with_reducible rfl)
     simp only [Act.put, AP]
     refine tk 10 (v := ?_) rfl ?_ ?_
     rotate_left
     ·(intro w hSw; (try dsimp only at hSw); go_simp; try with_reducible rfl)
     simp only [Act.put, AP]
     refine tk 12 (v := ?_) rfl ?_ ?_
     rotate_left
     ·(intro w hSw; (try dsimp only at hSw); go_simp; try with_reducible rfl)
     simp only [Act.put, AP]
     refine tk 13 (v := ?_) rfl ?_ ?_
     rotate_left
     ·(intro w hSw; (try dsimp only at hSw); go_simp; try with_reducible rfl)
     simp only [Act.put, AP]
     refine tk 15 (v := ?_) rfl ?_ ?_
     rotate_left
     ·(intro w hSw; (try dsimp only at hSw); go_simp; try with_reducible rfl)
     simp only [Act.put, AP]
     refine tk 16 (v := ?_) rfl ?_ ?_
     rotate_left
     ·(intro w hSw; (try dsimp only at hSw); go_simp; try with_reducible rfl)
     simp only [Act.put, AP]
     refine wpAnyH_ready (rs := [11]) (by kernel_rfl) (by simp) ?_
     refine AllReadyH.cons rfl (fun K hK => ?_) AllReadyH.nil
     simp only [AP]
     go_simp
     refine hK.out _ _ ?_ (fun hHeld => ?_)
     ·exact hHeld
     clear hK K
     try simp only [Act.put, AP]
     refine wpAnyH_ready (rs := [14]) (by kernel_rfl) (by simp) ?_
     refine AllReadyH.cons rfl (fun K hK => ?_) AllReadyH.nil
     simp only [AP]
     go_simp
     refine Calls.mono H1.out ?_; rintro e w2 ⟨C, rfl, hk⟩
     go_wp2_with fail
     refine hK.out _ _ ?_ (fun hHeld => ?_)
     ·exact hk.touch.cell (p := ⟨pb, off, none⟩) HC.out HT.out.2.2.2.2.1
     clear hK K
     try simp only [Act.put, AP]
     refine tk 17 (v := ?_) rfl ?_ ?_
     rotate_left
     ·(intro w hSw; (try dsimp only at hSw); go_simp; try with_reducible rfl)
     simp only [Act.put, AP]
     have hB2 := hk.touch.blk (HB.out.drew) (nd_node HT.out.2.2.1).1
     have e0 := hB2.cell (i := 0) rfl
     have e1 := hB2.frozen 0
     have hF := out_left HT.out.1 HT.out.2.1 HT.out.2.2.1 ((Touch.refl [] w).drew) hk
     have d0 := hF.2.cell (i := 0) rfl
     have d1 := hF.2.cell (i := 1) rfl
     have d2 := hF.2.cell (i := 2) rfl
     have HF := toHid hF.1
     rw [ptr_ad C] at *
     rw [ptr_ad r] at d1
     clear hk hB2 hF
     generalize hca : adT C = ca at *
     generalize hsb : adT r = sb at *
     refine wpAnyH_ready (rs := [18]) (by kernel_rfl) (by simp) ?_
     refine AllReadyH.cons rfl (fun K hK => ?_) AllReadyH.nil
     simp only [AP]
     go_simp
     refine hK.out _ _ ?_ (fun _ => ?_)
     ·exact ((Touch.refl [b] w2).setCell ⟨b, 0, none⟩ _ (Or.inl (by simp))).cell hHeld (by simpa using HNE.out)
     clear hK K
     try simp only [Act.put, AP]
     refine wpAnyH_done (by kernel_rfl) ?_ _
     generalize hw3 : w2.setCell ⟨b, 0, none⟩ (Value.pointer ca) = w3 at *
     clear hw3 e0 e1 c0 c1 hc H1 hHeld HC HNE HB
     have HA : Hid (∃ hb : Bool, a.1 = hb) := ⟨a.1, rfl⟩
     generalize hab : a.1 = hb at d2
     have hq := eq82
     cases hb with
     | true =>
      have HG : Hid (OPost w (.node b 0 a l r) (false :: []) (.returned (.pointer (some ⟨b, 0, none⟩))) w3) := ⟨_, rfl, HF.out⟩
      clear HF HA hab hca hsb HT
      go_wp2
      go_ret
      exact HG.out
     | false =>
      cases ca with
      | some x =>
       have HG : Hid (OPost w (.node b 0 a l r) (false :: []) (.returned (.pointer (some ⟨b, 0, none⟩))) w3) := ⟨_, rfl, HF.out⟩
       clear HF HA hab hca hsb HT
       go_wp2
       go_ret
       exact HG.out
      | none =>
       cases sb with
       | some x =>
        have HG : Hid (OPost w (.node b 0 a l r) (false :: []) (.returned (.pointer (some ⟨b, 0, none⟩))) w3) := ⟨_, rfl, HF.out⟩
        clear HF HA hab hca hsb HT
        go_wp2
        go_ret
        exact HG.out
       | none =>
        have HG : Hid (OPost w (.node b 0 a l r) (false :: []) (.returned (.pointer none)) w3) := by
         have e1 := adT_nil hca
         have e2 := adT_nil hsb
         have hf := HF.out
         clear HF
         subst e1 e2
         exact ⟨.nil, rfl, out_prune hf hab⟩
        clear HF HA hab hca hsb HT
        go_wp2
        go_ret
        exact HG.out
    | x0 :: p, hp, ih, hin =>
     have H1 := toHid (ih l w.drew (some ⟨pb, off + 1, none⟩) (hT.2.2.1.touch hd (by simp)) hok.2.1 n3 (PathAt.still (hp.tail) hd) (fun b' off' e => by injection e with e; injection e with e1; subst e1; exact hpl.1) hin)
     show Calls Tryz.prog 151 #[.pointer (some ⟨b, 0, none⟩), .slice (some ⟨pb, off, none⟩) (p.length + 1 + 1) (p.length + 1 + 1)] w _
     simp only [List.length_cons] at H1
     have hc : w.cell? ⟨pb, off, none⟩ = some (.int .i64 0) := hc0
     have HC := toHid hc
     have hle : (1 : Int) ≤ (p.length : Int) + 1 + 1 := by omega
     rw [ptr_ad l] at H1 c0
     have HB := toHid hB
     have HNE : Hid (pb ≠ b) := fun e => hpb (by simp [bsT, e])
     clear hp hc0 hB hok hnd hT hrest ih hd n1 n2 n3 n4 n5 hpl hout hpb hin
     go_enter Tryz.func151, Tryz.ntmps151
     go_wp2_with fail
     refine wp_region_held_drew (S := fun w' => w'.cell? ⟨pb, off, none⟩ = some (.int .i64 0)) (by kernel_rfl) ?_ (fun hHeld => ?_)
     ·exact HC.out
     refine tk 0 (v := ?_) rfl ?_ ?_
     rotate_left
     ·(intro w hSw; (try dsimp only at hSw); go_simp; try with_reducible rfl)
     simp only [Act.put, AP]
     refine tk 1 (v := ?_) rfl ?_ ?_
     rotate_left
     ·(intro w hSw; (try dsimp only at hSw); go_simp; try with_reducible rfl)
     simp only [Act.put, AP]
     refine tk 2 (v := ?_) rfl ?_ ?_
     rotate_left
     ·(intro w hSw; (try dsimp only at hSw); go_simp; try with_reducible rfl)
     simp only [Act.put, AP]
     refine tk 3 (v := ?_) rfl ?_ ?_
     rotate_left
     ·(intro w hSw; (try dsimp only at hSw); go_simp; try with_reducible rfl)
     simp only [Act.put, AP]
     refine tk 4 (v := ?_) rfl ?_ ?_
     rotate_left
     ·(intro w hSw; (try dsimp only at hSw); go_simp; try with_reducible rfl)
     simp only [Act.put, AP]
     refine tk 5 (v := ?_) rfl ?_ ?_
     rotate_left
     ·(intro w hSw; (try dsimp only at hSw); go_simp; try with_reducible rfl)
     simp only [Act.put, AP]
     refine tk 6 (v := ?_) rfl ?_ ?_
     rotate_left
     ·(intro w hSw; (try dsimp only at hSw); go_simp; try with_reducible rfl)
     simp only [Act.put, AP]
     refine tk 7 (v := ?_) rfl ?_ ?_
     rotate_left
     ·(intro w hSw; (try dsimp only at hSw); go_simp; try with_reducible rfl)
     simp only [Act.put, AP]
     refine tk 8 (v := ?_) rfl ?_ ?_
     rotate_left
     ·(intro w hSw; (try dsimp only at hSw); go_simp; try with_reducible rfl)
     simp only [Act.put, AP]
     refine tk 9 (v := ?_) rfl ?_ ?_
     rotate_left
     ·(intro w hSw; (try dsimp only at hSw); go_simp; try with_reducible rfl)
     simp only [Act.put, AP]
     refine tk 10 (v := ?_) rfl ?_ ?_
     rotate_left
     ·(intro w hSw; (try dsimp only at hSw); go_simp; try with_reducible rfl)
     simp only [Act.put, AP]
     refine tk 12 (v := ?_) rfl ?_ ?_
     rotate_left
     ·(intro w hSw; (try dsimp only at hSw); go_simp; try with_reducible rfl)
     simp only [Act.put, AP]
     refine tk 13 (v := ?_) rfl ?_ ?_
     rotate_left
     ·(intro w hSw; (try dsimp only at hSw); go_simp; try with_reducible rfl)
     simp only [Act.put, AP]
     refine tk 15 (v := ?_) rfl ?_ ?_
     rotate_left
     ·(intro w hSw; (try dsimp only at hSw); go_simp; try with_reducible rfl)
     simp only [Act.put, AP]
     refine tk 16 (v := ?_) rfl ?_ ?_
     rotate_left
     ·(intro w hSw; (try dsimp only at hSw); go_simp; try with_reducible rfl)
     simp only [Act.put, AP]
     refine wpAnyH_ready (rs := [11]) (by kernel_rfl) (by simp) ?_
     refine AllReadyH.cons rfl (fun K hK => ?_) AllReadyH.nil
     simp only [AP]
     go_simp
     refine hK.out _ _ ?_ (fun hHeld => ?_)
     ·exact hHeld
     clear hK K
     try simp only [Act.put, AP]
     refine wpAnyH_ready (rs := [14]) (by kernel_rfl) (by simp) ?_
     refine AllReadyH.cons rfl (fun K hK => ?_) AllReadyH.nil
     simp only [AP]
     go_simp
     refine Calls.mono H1.out ?_; rintro e w2 ⟨C, rfl, hk⟩
     go_wp2_with fail
     refine hK.out _ _ ?_ (fun hHeld => ?_)
     ·exact hk.touch.cell (p := ⟨pb, off, none⟩) HC.out HT.out.2.2.2.2.1
     clear hK K
     try simp only [Act.put, AP]
     refine tk 17 (v := ?_) rfl ?_ ?_
     rotate_left
     ·(intro w hSw; (try dsimp only at hSw); go_simp; try with_reducible rfl)
     simp only [Act.put, AP]
     have hB2 := hk.touch.blk (HB.out.drew) (nd_node HT.out.2.2.1).1
     have e0 := hB2.cell (i := 0) rfl
     have e1 := hB2.frozen 0
     have hF := out_left HT.out.1 HT.out.2.1 HT.out.2.2.1 ((Touch.refl [] w).drew) hk
     have d0 := hF.2.cell (i := 0) rfl
     have d1 := hF.2.cell (i := 1) rfl
     have d2 := hF.2.cell (i := 2) rfl
     have HF := toHid hF.1
     rw [ptr_ad C] at *
     rw [ptr_ad r] at d1
     clear hk hB2 hF
     generalize hca : adT C = ca at *
     generalize hsb : adT r = sb at *
     refine wpAnyH_ready (rs := [18]) (by kernel_rfl) (by simp) ?_
     refine AllReadyH.cons rfl (fun K hK => ?_) AllReadyH.nil
     simp only [AP]
     go_simp
     refine hK.out _ _ ?_ (fun _ => ?_)
     ·exact ((Touch.refl [b] w2).setCell ⟨b, 0, none⟩ _ (Or.inl (by simp))).cell hHeld (by simpa using HNE.out)
     clear hK K
     try simp only [Act.put, AP]
     refine wpAnyH_done (by kernel_rfl) ?_ _
     generalize hw3 : w2.setCell ⟨b, 0, none⟩ (Value.pointer ca) = w3 at *
     clear hw3 e0 e1 c0 c1 hc H1 hHeld HC HNE HB
     have HA : Hid (∃ hb : Bool, a.1 = hb) := ⟨a.1, rfl⟩
     generalize hab : a.1 = hb at d2
     have hq := eq82
     cases hb with
     | true =>
      have HG : Hid (OPost w (.node b 0 a l r) (false :: (x0 :: p)) (.returned (.pointer (some ⟨b, 0, none⟩))) w3) := ⟨_, rfl, HF.out⟩
      clear HF HA hab hca hsb HT
      go_wp2
      go_ret
      exact HG.out
     | false =>
      cases ca with
      | some x =>
       have HG : Hid (OPost w (.node b 0 a l r) (false :: (x0 :: p)) (.returned (.pointer (some ⟨b, 0, none⟩))) w3) := ⟨_, rfl, HF.out⟩
       clear HF HA hab hca hsb HT
       go_wp2
       go_ret
       exact HG.out
      | none =>
       cases sb with
       | some x =>
        have HG : Hid (OPost w (.node b 0 a l r) (false :: (x0 :: p)) (.returned (.pointer (some ⟨b, 0, none⟩))) w3) := ⟨_, rfl, HF.out⟩
        clear HF HA hab hca hsb HT
        go_wp2
        go_ret
        exact HG.out
       | none =>
        have HG : Hid (OPost w (.node b 0 a l r) (false :: (x0 :: p)) (.returned (.pointer none)) w3) := by
         have e1 := adT_nil hca
         have e2 := adT_nil hsb
         have hf := HF.out
         clear HF
         subst e1 e2
         exact ⟨.nil, rfl, out_prune hf hab⟩
        clear HF HA hab hca hsb HT
        go_wp2
        go_ret
        exact HG.out
   | true =>
    match p, hp, ih, hin with
    | [], hp, ih, hin =>
     have H1 := toHid (ih r w.drew (some ⟨pb, off, none⟩) (hT.2.2.2.touch hd (by simp)) hok.2.2 n4 (PathAt.still (PathAt.last _) hd) (fun b' off' e => by injection e with e; injection e with e1; subst e1; exact hpl.2) hin)
     show Calls Tryz.prog 151 #[.pointer (some ⟨b, 0, none⟩), .slice (some ⟨pb, off, none⟩) 1 1] w _
     simp only [List.length_nil] at H1
     have hc : w.cell? ⟨pb, off, none⟩ = some (.int .i64 1) := hc0
     have HC := toHid hc
     skip
     rw [ptr_ad r] at H1 c1
     have HB := toHid hB
     have HNE : Hid (pb ≠ b) := fun e => hpb (by simp [bsT, e])
     clear hp hc0 hB hok hnd hT hrest ih hd n1 n2 n3 n4 n5 hpl hout hpb hin
     go_enter Tryz.func151, Tryz.ntmps151
     go_wp2_with fail
     refine wp_region_held_drew (S := fun w' => w'.cell? ⟨pb, off, none⟩ = some (.int .i64 1)) (by kernel_rfl) ?_ (fun hHeld => ?_)
     ·exact HC.out
     refine tk 0 (v := ?_) rfl ?_ ?_
     rotate_left
     ·(intro w hSw; (try dsimp only at hSw); go_simp; try with_reducible rfl)
     simp only [Act.put, AP]
     refine tk 1 (v := ?_) rfl ?_ ?_
     rotate_left
     ·(intro w hSw; (try dsimp only at hSw); go_simp; try with_reducible rfl)
     simp only [Act.put, AP]
     refine tk 2 (v := ?_) rfl ?_ ?_
     rotate_left
     ·(intro w hSw; (try dsimp only at hSw); go_simp; try with_reducible rfl)
     simp only [Act.put, AP]
     refine tk 3 (v := ?_) rfl ?_ ?_
     rotate_left
     ·(intro w hSw; (try dsimp only at hSw); go_simp; try with_reducible rfl)
     simp only [Act.put, AP]
     refine tk 4 (v := ?_) rfl ?_ ?_
     rotate_left
     ·(intro w hSw; (try dsimp only at hSw); go_simp; try with_reducible rfl)
     simp only [Act.put, AP]
     refine tk 5 (v := ?_) rfl ?_ ?_
     rotate_left
     ·(intro w hSw; (try dsimp only at hSw); go_simp; try with_reducible rfl)
     simp only [Act.put, AP]
     refine tk 6 (v := ?_) rfl ?_ ?_
     rotate_left
     ·(intro w hSw; (try dsimp only at hSw); go_simp; try with_reducible rfl)
     simp only [Act.put, AP]
     refine tk 7 (v := ?_) rfl ?_ ?_
     rotate_left
     ·(intro w hSw; (try dsimp only at hSw); go_simp; try with_reducible rfl)
     simp only [Act.put, AP]
     refine tk 8 (v := ?_) rfl ?_ ?_
     rotate_left
     ·(intro w hSw; (try dsimp only at hSw); go_simp; try with_reducible rfl)
     simp only [Act.put, AP]
     refine tk 9 (v := ?_) rfl ?_ ?_
     rotate_left
     ·(intro w hSw; (try dsimp only at hSw); go_simp; try with_reducible rfl)
     simp only [Act.put, AP]
     refine tk 10 (v := ?_) rfl ?_ ?_
     rotate_left
     ·(intro w hSw; (try dsimp only at hSw); go_simp; try with_reducible rfl)
     simp only [Act.put, AP]
     refine tk 12 (v := ?_) rfl ?_ ?_
     rotate_left
     ·(intro w hSw; (try dsimp only at hSw); go_simp; try with_reducible rfl)
     simp only [Act.put, AP]
     refine tk 13 (v := ?_) rfl ?_ ?_
     rotate_left
     ·(intro w hSw; (try dsimp only at hSw); go_simp; try with_reducible rfl)
     simp only [Act.put, AP]
     refine tk 15 (v := ?_) rfl ?_ ?_
     rotate_left
     ·(intro w hSw; (try dsimp only at hSw); go_simp; try with_reducible rfl)
     simp only [Act.put, AP]
     refine tk 16 (v := ?_) rfl ?_ ?_
     rotate_left
     ·(intro w hSw; (try dsimp only at hSw); go_simp; try with_reducible rfl)
     simp only [Act.put, AP]
     refine wpAnyH_ready (rs := [11]) (by kernel_rfl) (by simp) ?_
     refine AllReadyH.cons rfl (fun K hK => ?_) AllReadyH.nil
     simp only [AP]
     go_simp
     refine hK.out _ _ ?_ (fun hHeld => ?_)
     ·exact hHeld
     clear hK K
     try simp only [Act.put, AP]
     refine wpAnyH_ready (rs := [14]) (by kernel_rfl) (by simp) ?_
     refine AllReadyH.cons rfl (fun K hK => ?_) AllReadyH.nil
     simp only [AP]
     go_simp
     refine Calls.mono H1.out ?_; rintro e w2 ⟨C, rfl, hk⟩
     go_wp2_with fail
     refine hK.out _ _ ?_ (fun hHeld => ?_)
     ·exact hk.touch.cell (p := ⟨pb, off, none⟩) HC.out HT.out.2.2.2.2.2
     clear hK K
     try simp only [Act.put, AP]
     refine tk 17 (v := ?_) rfl ?_ ?_
     rotate_left
     ·(intro w hSw; (try dsimp only at hSw); go_simp; try with_reducible rfl)
     simp only [Act.put, AP]
     have hB2 := hk.touch.blk (HB.out.drew) (nd_node HT.out.2.2.1).2.1
     have e0 := hB2.cell (i := 1) rfl
     have e1 := hB2.frozen 1
     have hF := out_right HT.out.1 HT.out.2.1 HT.out.2.2.1 ((Touch.refl [] w).drew) hk
     have d0 := hF.2.cell (i := 0) rfl
     have d1 := hF.2.cell (i := 1) rfl
     have d2 := hF.2.cell (i := 2) rfl
     have HF := toHid hF.1
     rw [ptr_ad C] at *
     rw [ptr_ad l] at d0
     clear hk hB2 hF
     generalize hca : adT C = ca at *
     generalize hsb : adT l = sb at *
     refine wpAnyH_ready (rs := [18]) (by kernel_rfl) (by simp) ?_
     refine AllReadyH.cons rfl (fun K hK => ?_) AllReadyH.nil
     simp only [AP]
     go_simp
     refine hK.out _ _ ?_ (fun _ => ?_)
     ·exact ((Touch.refl [b] w2).setCell ⟨b, 1, none⟩ _ (Or.inl (by simp))).cell hHeld (by simpa using HNE.out)
     clear hK K
     try simp only [Act.put, AP]
     refine wpAnyH_done (by kernel_rfl) ?_ _
     generalize hw3 : w2.setCell ⟨b, 1, none⟩ (Value.pointer ca) = w3 at *
     clear hw3 e0 e1 c0 c1 hc H1 hHeld HC HNE HB
     have HA : Hid (∃ hb : Bool, a.1 = hb) := ⟨a.1, rfl⟩
     generalize hab : a.1 = hb at d2
     have hq := eq82
     cases hb with
     | true =>
      have HG : Hid (OPost w (.node b 0 a l r) (true :: []) (.returned (.pointer (some ⟨b, 0, none⟩))) w3) := ⟨_, rfl, HF.out⟩
      clear HF HA hab hca hsb HT
      go_wp2
      go_ret
      exact HG.out
     | false =>
      cases ca with
      | some x =>
       have HG : Hid (OPost w (.node b 0 a l r) (true :: []) (.returned (.pointer (some ⟨b, 0, none⟩))) w3) := ⟨_, rfl, HF.out⟩
       clear HF HA hab hca hsb HT
       go_wp2
       go_ret
       exact HG.out
      | none =>
       cases sb with
       | some x =>
        have HG : Hid (OPost w (.node b 0 a l r) (true :: []) (.returned (.pointer (some ⟨b, 0, none⟩))) w3) := ⟨_, rfl, HF.out⟩
        clear HF HA hab hca hsb HT
        go_wp2
        go_ret
        exact HG.out
       | none =>
        have HG : Hid (OPost w (.node b 0 a l r) (true :: []) (.returned (.pointer none)) w3) := by
         have e1 := adT_nil hca
         have e2 := adT_nil hsb
         have hf := HF.out
         clear HF
         subst e1 e2
         exact ⟨.nil, rfl, out_prune hf hab⟩
        clear HF HA hab hca hsb HT
        go_wp2
        go_ret
        exact HG.out
    | x0 :: p, hp, ih, hin =>
     have H1 := toHid (ih r w.drew (some ⟨pb, off + 1, none⟩) (hT.2.2.2.touch hd (by simp)) hok.2.2 n4 (PathAt.still (hp.tail) hd) (fun b' off' e => by injection e with e; injection e with e1; subst e1; exact hpl.2) hin)
     show Calls Tryz.prog 151 #[.pointer (some ⟨b, 0, none⟩), .slice (some ⟨pb, off, none⟩) (p.length + 1 + 1) (p.length + 1 + 1)] w _
     simp only [List.length_cons] at H1
     have hc : w.cell? ⟨pb, off, none⟩ = some (.int .i64 1) := hc0
     have HC := toHid hc
     have hle : (1 : Int) ≤ (p.length : Int) + 1 + 1 := by omega
     rw [ptr_ad r] at H1 c1
     have HB := toHid hB
     have HNE : Hid (pb ≠ b) := fun e => hpb (by simp [bsT, e])
     clear hp hc0 hB hok hnd hT hrest ih hd n1 n2 n3 n4 n5 hpl hout hpb hin
     go_enter Tryz.func151, Tryz.ntmps151
     go_wp2_with fail
     refine wp_region_held_drew (S := fun w' => w'.cell? ⟨pb, off, none⟩ = some (.int .i64 1)) (by kernel_rfl) ?_ (fun hHeld => ?_)
     ·exact HC.out
     refine tk 0 (v := ?_) rfl ?_ ?_
     rotate_left
     ·(intro w hSw; (try dsimp only at hSw); go_simp; try with_reducible rfl)
     simp only [Act.put, AP]
     refine tk 1 (v := ?_) rfl ?_ ?_
     rotate_left
     ·(intro w hSw; (try dsimp only at hSw); go_simp; try with_reducible rfl)
     simp only [Act.put, AP]
     refine tk 2 (v := ?_) rfl ?_ ?_
     rotate_left
     ·(intro w hSw; (try dsimp only at hSw); go_simp; try with_reducible rfl)
     simp only [Act.put, AP]
     refine tk 3 (v := ?_) rfl ?_ ?_
     rotate_left
     ·(intro w hSw; (try dsimp only at hSw); go_simp; try with_reducible rfl)
     simp only [Act.put, AP]
     refine tk 4 (v := ?_) rfl ?_ ?_
     rotate_left
     ·(intro w hSw; (try dsimp only at hSw); go_simp; try with_reducible rfl)
     simp only [Act.put, AP]
     refine tk 5 (v := ?_) rfl ?_ ?_
     rotate_left
     ·(intro w hSw; (try dsimp only at hSw); go_simp; try with_reducible rfl)
     simp only [Act.put, AP]
     refine tk 6 (v := ?_) rfl ?_ ?_
     rotate_left
     ·(intro w hSw; (try dsimp only at hSw); go_simp; try with_reducible rfl)
     simp only [Act.put, AP]
     refine tk 7 (v := ?_) rfl ?_ ?_
     rotate_left
     ·(intro w hSw; (try dsimp only at hSw); go_simp; try with_reducible rfl)
     simp only [Act.put, AP]
     refine tk 8 (v := ?_) rfl ?_ ?_
     rotate_left
     ·(intro w hSw; (try dsimp only at hSw); go_simp; try with_reducible rfl)
     simp only [Act.put, AP]
     refine tk 9 (v := ?_) rfl ?_ ?_
     rotate_left
     ·(intro w hSw; (try dsimp only at hSw); go_simp; try with_reducible rfl)
     simp only [Act.put, AP]
     refine tk 10 (v := ?_) rfl ?_ ?_
     rotate_left
     ·(intro w hSw; (try dsimp only at hSw); go_simp; try with_reducible rfl)
     simp only [Act.put, AP]
     refine tk 12 (v := ?_) rfl ?_ ?_
     rotate_left
     ·(intro w hSw; (try dsimp only at hSw); go_simp; try with_reducible rfl)
     simp only [Act.put, AP]
     refine tk 13 (v := ?_) rfl ?_ ?_
     rotate_left
     ·(intro w hSw; (try dsimp only at hSw); go_simp; try with_reducible rfl)
     simp only [Act.put, AP]
     refine tk 15 (v := ?_) rfl ?_ ?_
     rotate_left
     ·(intro w hSw; (try dsimp only at hSw); go_simp; try with_reducible rfl)
     simp only [Act.put, AP]
     refine tk 16 (v := ?_) rfl ?_ ?_
     rotate_left
     ·(intro w hSw; (try dsimp only at hSw); go_simp; try with_reducible rfl)
     simp only [Act.put, AP]
     refine wpAnyH_ready (rs := [11]) (by kernel_rfl) (by simp) ?_
     refine AllReadyH.cons rfl (fun K hK => ?_) AllReadyH.nil
     simp only [AP]
     go_simp
     refine hK.out _ _ ?_ (fun hHeld => ?_)
     ·exact hHeld
     clear hK K
     try simp only [Act.put, AP]
     refine wpAnyH_ready (rs := [14]) (by kernel_rfl) (by simp) ?_
     refine AllReadyH.cons rfl (fun K hK => ?_) AllReadyH.nil
     simp only [AP]
     go_simp
     refine Calls.mono H1.out ?_; rintro e w2 ⟨C, rfl, hk⟩
     go_wp2_with fail
     refine hK.out _ _ ?_ (fun hHeld => ?_)
     ·exact hk.touch.cell (p := ⟨pb, off, none⟩) HC.out HT.out.2.2.2.2.2
     clear hK K
     try simp only [Act.put, AP]
     refine tk 17 (v := ?_) rfl ?_ ?_
     rotate_left
     ·(intro w hSw; (try dsimp only at hSw); go_simp; try with_reducible rfl)
     simp only [Act.put, AP]
     have hB2 := hk.touch.blk (HB.out.drew) (nd_node HT.out.2.2.1).2.1
     have e0 := hB2.cell (i := 1) rfl
     have e1 := hB2.frozen 1
     have hF := out_right HT.out.1 HT.out.2.1 HT.out.2.2.1 ((Touch.refl [] w).drew) hk
     have d0 := hF.2.cell (i := 0) rfl
     have d1 := hF.2.cell (i := 1) rfl
     have d2 := hF.2.cell (i := 2) rfl
     have HF := toHid hF.1
     rw [ptr_ad C] at *
     rw [ptr_ad l] at d0
     clear hk hB2 hF
     generalize hca : adT C = ca at *
     generalize hsb : adT l = sb at *
     refine wpAnyH_ready (rs := [18]) (by kernel_rfl) (by simp) ?_
     refine AllReadyH.cons rfl (fun K hK => ?_) AllReadyH.nil
     simp only [AP]
     go_simp
     refine hK.out _ _ ?_ (fun _ => ?_)
     ·exact ((Touch.refl [b] w2).setCell ⟨b, 1, none⟩ _ (Or.inl (by simp))).cell hHeld (by simpa using HNE.out)
     clear hK K
     try simp only [Act.put, AP]
     refine wpAnyH_done (by kernel_rfl) ?_ _
     generalize hw3 : w2.setCell ⟨b, 1, none⟩ (Value.pointer ca) = w3 at *
     clear hw3 e0 e1 c0 c1 hc H1 hHeld HC HNE HB
     have HA : Hid (∃ hb : Bool, a.1 = hb) := ⟨a.1, rfl⟩
     generalize hab : a.1 = hb at d2
     have hq := eq82
     cases hb with
     | true =>
      have HG : Hid (OPost w (.node b 0 a l r) (true :: (x0 :: p)) (.returned (.pointer (some ⟨b, 0, none⟩))) w3) := ⟨_, rfl, HF.out⟩
      clear HF HA hab hca hsb HT
      go_wp2
      go_ret
      exact HG.out
     | false =>
      cases ca with
      | some x =>
       have HG : Hid (OPost w (.node b 0 a l r) (true :: (x0 :: p)) (.returned (.pointer (some ⟨b, 0, none⟩))) w3) := ⟨_, rfl, HF.out⟩
       clear HF HA hab hca hsb HT
       go_wp2
       go_ret
       exact HG.out
      | none =>
       cases sb with
       | some x =>
        have HG : Hid (OPost w (.node b 0 a l r) (true :: (x0 :: p)) (.returned (.pointer (some ⟨b, 0, none⟩))) w3) := ⟨_, rfl, HF.out⟩
        clear HF HA hab hca hsb HT
        go_wp2
        go_ret
        exact HG.out
       | none =>
        have HG : Hid (OPost w (.node b 0 a l r) (true :: (x0 :: p)) (.returned (.pointer none)) w3) := by
         have e1 := adT_nil hca
         have e2 := adT_nil hsb
         have hf := HF.out
         clear HF
         subst e1 e2
         exact ⟨.nil, rfl, out_prune hf hab⟩
        clear HF HA hab hca hsb HT
        go_wp2
        go_ret
        exact HG.out
end Go.Proofs.YtmhhahmjkopjhaaGreat.Lpm
end
section
namespace Go.Proofs.YtmhhahmjkopjhaaGreat.Lpm
open Go.RowKit Go.Deep
structure Same (n : Nat) (w : World) (T T' : Tr) : Prop where
 at_ : TrAt w T'
 ok : okT T'
 nd : (bsT T').Nodup
 get : ∀ q, atT T' q = atT T q
 blocks : ∀ b ∈ bsT T', n ≤ b
 dep : depT T' ≤ depT T
theorem Same.touch {n : Nat} {w w' : World} {T T' : Tr} (h : Same n w T T') {S : List Nat} (ht : Touch S w w') (hn : ∀ x ∈ S, x < n) : Same n w' T T' :=
 ⟨h.at_.touch ht (fun x hx hy => by have := hn x hy; have := h.blocks x hx; omega), h.ok, h.nd, h.get, h.blocks, h.dep⟩
def CPost (w : World) (T : Tr) (e : Ending) (w' : World) : Prop := ∃ T', e = .returned (.pointer (adT T')) ∧ Same w.heap.size w' T T' ∧ Touch [] w w'
def TW (w : World) (a : Bool × Nat) (l r : Tr) (k : Nat) (wr : World) : Prop := ∃ L R : Tr, Blk wr w.heap.size [L.ptr, R.ptr, .bool a.1, .int .i64 (a.2 : Int)] 197 ∧ Touch [] w wr ∧
 (if 1 ≤ k then Same (w.heap.size + 1) wr l L else L = l) ∧ (if 2 ≤ k then Same (w.heap.size + 1) wr r R ∧ ∀ x ∈ bsT L, x ∉ bsT R else R = r)
theorem tw_one {w wr w2 : World} {a : Bool × Nat} {l r C : Tr} (h : TW w a l r 0 wr) (hk : Same wr.heap.size w2 l C) (ht : Touch [] wr w2) : TW w a l r 1 (w2.setCell ⟨w.heap.size, 0, none⟩ C.ptr) := by
 obtain ⟨L, R, hB, ht0, h1, h2⟩ := h
 rw [if_neg (by omega)] at h1 h2
 subst h1 h2
 have hlt := hB.lt
 have hB2 := ht.blk hB (by simp)
 have hts : Touch [w.heap.size] w2 (w2.setCell ⟨w.heap.size, 0, none⟩ C.ptr) := (Touch.refl _ w2).setCell _ _ (Or.inl (by simp))
 refine ⟨C, R, hB2.setCell 0 C.ptr, (ht0.trans ht (by simp)).trans hts (fun y hy => Or.inr (by simp at hy; omega)), ?_, ?_⟩
 ·rw [if_pos (by omega)]
  have h3 := hk.touch hts (fun x hx => by simp at hx; omega)
  exact ⟨h3.at_, h3.ok, h3.nd, h3.get, (fun b hb => by have := h3.blocks b hb; omega), h3.dep⟩
 ·rw [if_neg (by omega)]
theorem tw_two {w wr w2 : World} {a : Bool × Nat} {l r C : Tr} (h : TW w a l r 1 wr) (hk : Same wr.heap.size w2 r C) (ht : Touch [] wr w2) : TW w a l r 2 (w2.setCell ⟨w.heap.size, 1, none⟩ C.ptr) := by
 obtain ⟨L, R, hB, ht0, h1, h2⟩ := h
 rw [if_pos (by omega)] at h1
 rw [if_neg (by omega)] at h2
 subst h2
 have hlt := hB.lt
 have hB2 := ht.blk hB (by simp)
 have hts : Touch [w.heap.size] w2 (w2.setCell ⟨w.heap.size, 1, none⟩ C.ptr) := (Touch.refl _ w2).setCell _ _ (Or.inl (by simp))
 refine ⟨L, C, hB2.setCell 1 C.ptr, (ht0.trans ht (by simp)).trans hts (fun y hy => Or.inr (by simp at hy; omega)), ?_, ?_⟩
 ·rw [if_pos (by omega)]
  exact (h1.touch ht (by simp)).touch hts (fun x hx => by simp at hx; omega)
 ·rw [if_pos (by omega)]
  have h3 := hk.touch hts (fun x hx => by simp at hx; omega)
  refine ⟨⟨h3.at_, h3.ok, h3.nd, h3.get, (fun b hb => by have := h3.blocks b hb; omega), h3.dep⟩, fun x hx hy => ?_⟩
  have q1 := TrAt.lt h1.at_ x hx
  have q2 := h3.blocks x hy
  omega
theorem tw_end {w wr : World} {b : Nat} {a : Bool × Nat} {l r : Tr} (ok : okT (.node b 0 a l r)) (h : TW w a l r 2 wr) : CPost w (.node b 0 a l r) (.returned (.pointer (some ⟨w.heap.size, 0, none⟩))) wr := by
 obtain ⟨L, R, hB, ht0, h1, h2⟩ := h
 rw [if_pos (by omega)] at h1 h2
 obtain ⟨h2, h3⟩ := h2
 refine ⟨.node w.heap.size 0 a L R, rfl, ⟨⟨rfl, hB, h1.at_, h2.at_⟩, ⟨ok.1, h1.ok, h2.ok⟩, nd_mk (fun hx => by have := h1.blocks _ hx; omega) (fun hx => by have := h2.blocks _ hx; omega) h1.nd h2.nd h3, fun q => ?_, fun x hx => ?_, (by have := h1.dep; have := h2.dep; simp only [depT]; omega)⟩, ht0⟩
 ·match q with
  | [] => rfl
  | false :: q => exact h1.get q
  | true :: q => exact h2.get q
 ·simp only [bsT, List.mem_cons, List.mem_append] at hx
  rcases hx with rfl | hx | hx
  ·omega
  ·have := h1.blocks x hx; omega
  ·have := h2.blocks x hx; omega
theorem TW.cells {w wr : World} {a : Bool × Nat} {l r : Tr} {k : Nat} (h : TW w a l r k wr) : (∃ v, wr.cell? ⟨w.heap.size, 0, none⟩ = some (.pointer v)) ∧ (∃ v, wr.cell? ⟨w.heap.size, 1, none⟩ = some (.pointer v)) ∧ wr.frozen? ⟨w.heap.size, 0, none⟩ = false ∧ wr.frozen? ⟨w.heap.size, 1, none⟩ = false := by
 obtain ⟨L, R, hB, _⟩ := h
 exact ⟨⟨adT L, by rw [← ptr_ad]; exact hB.cell (i := 0) rfl⟩, ⟨adT R, by rw [← ptr_ad]; exact hB.cell (i := 1) rfl⟩, hB.frozen 0, hB.frozen 1⟩
theorem TW.still {w wr w2 : World} {a : Bool × Nat} {l r : Tr} {k : Nat} (h : TW w a l r k wr) (ht : Touch [] wr w2) : TW w a l r k w2 := by
 obtain ⟨L, R, hB, ht0, h1, h2⟩ := h
 refine ⟨L, R, ht.blk hB (by simp), ht0.trans ht (by simp), ?_, ?_⟩
 ·split
  ·rename_i h; rw [if_pos h] at h1; exact h1.touch ht (by simp)
  ·rename_i h; rw [if_neg h] at h1; exact h1
 ·split
  ·rename_i h; rw [if_pos h] at h2; exact ⟨h2.1.touch ht (by simp), h2.2⟩
  ·rename_i h; rw [if_neg h] at h2; exact h2
theorem idx82a (x y : Option Addr) (w : World) : (Instr.index 195 (.agg #[.pointer x, .pointer y]) (.int .i64 0)).run Tryz.prog w = .ok (.pointer x) w := by
 obtain ⟨i, hi, _, hs, _⟩ := info_of info56
 simp [Instr.index, run_underlying Tryz.underlying195, asIntOf, sizeOf, typeInfo, hi, hs, go_sem]
theorem idx82b (x y : Option Addr) (w : World) : (Instr.index 195 (.agg #[.pointer x, .pointer y]) (.int .i64 1)).run Tryz.prog w = .ok (.pointer y) w := by
 obtain ⟨i, hi, _, hs, _⟩ := info_of info56
 simp [Instr.index, run_underlying Tryz.underlying195, asIntOf, sizeOf, typeInfo, hi, hs, go_sem]
theorem twin_any : ∀ (T : Tr) (w : World), TrAt w T → okT T → Calls Tryz.prog 91 #[T.ptr] w (CPost w T) := by
 intro T
 induction T with
 | nil =>
  intro w _ _
  show Calls Tryz.prog 91 #[.pointer none] w _
  have HF : Hid (CPost w .nil (.returned (.pointer none)) w) := ⟨.nil, rfl, ⟨trivial, trivial, by simp [bsT], fun _ => rfl, (fun b hb => by cases hb), Nat.le_refl _⟩, Touch.refl _ _⟩
  go_enter Tryz.func91, Tryz.ntmps91
  go_wp2
  go_ret
  exact HF.out
 | node b o a l r ihl ihr =>
  intro w hT hok
  obtain ⟨rfl, hrest⟩ := hT
  have hB := hrest.1
  have c0 := hB.cell (i := 0) rfl
  have c1 := hB.cell (i := 1) rfl
  have c2 := hB.cell (i := 2) rfl
  have c3 := hB.cell (i := 3) rfl
  have hta : Touch [] w (w.alloc (.cells #[l.ptr, r.ptr, .bool a.1, .int .i64 (a.2 : Int)] 197)) := (Touch.refl [] w).alloc _
  have hB1 := hta.blk hB (by simp)
  have d0 := hB1.cell (i := 0) rfl
  have d1 := hB1.cell (i := 1) rfl
  have HI0 : Hid (TW w a l r 0 (w.alloc (.cells #[l.ptr, r.ptr, .bool a.1, .int .i64 (a.2 : Int)] 197))) := ⟨l, r, Blk.newA w #[l.ptr, r.ptr, .bool a.1, .int .i64 (a.2 : Int)] _ 197 rfl, hta, by rw [if_neg (by omega)], by rw [if_neg (by omega)]⟩
  show Calls Tryz.prog 91 #[.pointer (some ⟨b, 0, none⟩)] w _
  have HL := toHid (And.intro hrest.2.1 hok.2.1)
  have HR := toHid (And.intro hrest.2.2 hok.2.2)
  have HO := toHid hok
  have hxa := idx82a
  have hxb := idx82b
  have HIL := toHid ihl
  have HIR := toHid ihr
  rw [ptr_ad l, ptr_ad r] at *
  clear hB hB1 hta hrest hok ihl ihr
  go_enter Tryz.func91, Tryz.ntmps91
  go_wp2_with fail
  go_loopw [15] (fun t wr => ∃ k : Nat, k ≤ 2 ∧ t = .int .i64 k ∧ Hid (TW w a l r k wr)) (fun t _ => 2 - (intOf t).toNat)
  case atStart => exact ⟨0, by omega, rfl, HI0⟩
  case round =>
   clear HI0 c0 c1 c2 c3 d0 d1
   obtain ⟨k, hk, rfl, HI⟩ := hrel
   have : k = 0 ∨ k = 1 ∨ k = 2 := by omega
   rcases this with rfl | rfl | rfl
   ·have hTr : TrAt wr l := HL.out.1.touch HI.out.choose_spec.choose_spec.2.1 (by simp)
    have H1 := toHid (HIL.out wr hTr HL.out.2)
    clear hTr
    go_wp2_with fail
    refine Calls.mono H1.out ?_
    rintro e w2 ⟨C, rfl, hk, ht⟩
    obtain ⟨⟨v, e0⟩, _, e1, _⟩ := (HI.out.still ht).cells
    have HN := toHid (tw_one HI.out hk ht)
    rw [ptr_ad C] at HN
    clear hk ht H1
    generalize adT C = ca at *
    go_wp2
    go_roundw
    case rel => exact ⟨1, by omega, rfl, HN⟩
    case measure => simp [intOf]
   ·have hTr : TrAt wr r := HR.out.1.touch HI.out.choose_spec.choose_spec.2.1 (by simp)
    have H1 := toHid (HIR.out wr hTr HR.out.2)
    clear hTr
    go_wp2_with fail
    refine Calls.mono H1.out ?_
    rintro e w2 ⟨C, rfl, hk, ht⟩
    obtain ⟨_, ⟨v, e0⟩, _, e1⟩ := (HI.out.still ht).cells
    have HN := toHid (tw_two HI.out hk ht)
    rw [ptr_ad C] at HN
    clear hk ht H1
    generalize adT C = ca at *
    go_wp2
    go_roundw
    case rel => exact ⟨2, by omega, rfl, HN⟩
    case measure => simp [intOf]
   ·have HF := toHid (tw_end HO.out HI.out)
    go_wp2
    go_ret
    exact HF.out
end Go.Proofs.YtmhhahmjkopjhaaGreat.Lpm
end
section
namespace Go.Proofs.YtmhhahmjkopjhaaGreat.Lpm
open Go.RowKit
theorem or_place (a x : Int) (k : Nat) (hk : k ≤ 3) (ha0 : 0 ≤ a) (ha1 : a < 256 ^ k) (hx0 : 0 ≤ x) (hx1 : x ≤ 255) :
  bits .or .u32 a (x * 2 ^ (8 * k) % 4294967296) = a + x * 256 ^ k := by
 obtain ⟨A, rfl⟩ := Int.eq_ofNat_of_zero_le ha0
 obtain ⟨X, rfl⟩ := Int.eq_ofNat_of_zero_le hx0
 have hp : (2 : Int) ^ (8 * k) = 256 ^ k := by rw [Int.pow_mul]; rfl
 have hA : A < 2 ^ (8 * k) := by
  have : ((A : Nat) : Int) < ((2 ^ (8 * k) : Nat) : Int) := by rw [Int.natCast_pow]; show (A : Int) < (2 : Int) ^ (8 * k); rw [hp]; exact ha1
  omega
 have hle : (2 : Nat) ^ (8 * k) ≤ 2 ^ 24 := Nat.pow_le_pow_right (by omega) (by omega)
 have hX : 2 ^ (8 * k) * X < 4294967296 := by
  have : 2 ^ (8 * k) * X ≤ 2 ^ 24 * 255 := Nat.mul_le_mul hle (by omega)
  omega
 have hc : (X : Int) * 2 ^ (8 * k) = ((2 ^ (8 * k) * X : Nat) : Int) := by rw [Int.natCast_mul, Int.natCast_pow, Int.mul_comm]; rfl
 rw [← hp, hc, Int.emod_eq_of_lt (by omega) (by omega), u32_or_nat A _ (by omega) hX, Nat.or_comm, ← Nat.two_pow_add_eq_or_of_lt hA]
 omega
theorem length_any (b off n c : Nat) (bs : Nat → Int) (w : World) (hn : n ≤ 4)
  (hc : ∀ j, j < n → w.cell? ⟨b, off + j, none⟩ = some (.int .u8 (bs j))) (hb : ∀ j, j < n → 0 ≤ bs j ∧ bs j ≤ 255) :
  Calls Tryz.prog 158 #[.slice (some ⟨b, off, none⟩) n c] w fun e w' => e = .returned (.int .u32 (num bs n)) ∧ w' = w := by
 have HC := toHid hc
 have HB := toHid hb
 clear hc hb
 go_enter Tryz.func158, Tryz.ntmps158
 go_wp2_with fail
 go_loop [3, 8] (fun x t => ∃ k : Nat, k ≤ n ∧ t = .int .i64 k ∧ x = .int .u32 (num bs k)) (fun _ t => n - (intOf t).toNat)
 case atStart => exact ⟨0, by omega, rfl, rfl⟩
 case round =>
  obtain ⟨k, hk, rfl, rfl⟩ := hrel
  by_cases hlt : k < n
  ·have c1 := HC.out k hlt
   have c2 := HB.out k hlt
   go_wp2
   refine ⟨⟨k + 1, by omega, by go_num, ?_⟩, by simp [intOf]; omega⟩
   have h1 := num_bd bs k (fun j hj => HB.out j (by omega))
   rw [or_place _ _ k (by omega) h1.1 h1.2 c2.1 c2.2]
   rfl
  ·obtain rfl : k = n := by omega
   go_wp2
   go_ret
   exact ⟨rfl, rfl⟩
theorem length_key {w : World} {sa : Option Addr} {sl : Nat} {bs : List Int} (h : KeyAt w sa sl bs) (h4 : 4 ≤ bs.length) (sc : Nat) :
  Calls Tryz.prog 158 #[.slice sa 4 sc] w fun e w' => e = .returned (.int .u32 (keyNum bs)) ∧ w' = w := by
 obtain ⟨b, off, rfl, _, hcell⟩ := h.cut4 h4
 exact length_any b off 4 sc (fun j => bs.getD j 0) w (by omega) (fun j hj => hcell j (by omega)) (fun j _ => getD_bd h.2.1 j)
def bitV (b : Bool) : Value := .int .i64 (bI b)
def OwnPath (w0 w : World) (v : Value) (p : List Bool) : Prop := ∃ g, v = .slice (some ⟨g, 0, none⟩) p.length p.length ∧ Blk w g (p.map bitV) 3 ∧ w0.heap.size ≤ g ∧ p.length ≤ 1000
theorem blk_path {w : World} {g : Nat} {p : List Bool} (h : Blk w g (p.map bitV) 3) (hp : p.length ≤ 1000) : PathAt w (some ⟨g, 0, none⟩) p := by
 refine ⟨hp, fun _ => ⟨g, 0, rfl, fun j hj => ?_⟩⟩
 rw [Nat.zero_add]
 refine h.cell ?_
 rw [List.getElem?_map, List.getD_eq_getElem?_getD, List.getElem?_eq_getElem hj]
 rfl
def fitsK (bs : List Int) (n : Nat) : Bool := decide (bs.length = n + 4) && decide (keyNum bs ≤ 8 * (n : Int))
def PathPost (w : World) (n : Nat) (bs : List Int) (e : Ending) (w' : World) : Prop :=
 if fitsK bs n = true then ∃ g, e = .returned (.tuple #[.slice (some ⟨g, 0, none⟩) (pathP bs).length (pathP bs).length, .bool true]) ∧ Blk w' g ((pathP bs).map bitV) 3 ∧ w.heap.size ≤ g ∧ (pathP bs).length ≤ 1000 ∧ Touch [] w w'
 else e = .returned (.tuple #[.slice none 0 0, .bool false]) ∧ w' = w
theorem PathPost.no {w : World} {n : Nat} {bs : List Int} (h : fitsK bs n = false) : PathPost w n bs (.returned (.tuple #[.slice none 0 0, .bool false])) w := by
 unfold PathPost
 rw [if_neg (by rw [h]; decide)]
 exact ⟨rfl, rfl⟩
def PathTo (w : World) (bs : List Int) (n k : Nat) (wr : World) : Prop := Blk wr w.heap.size (((pathP bs).take k).map bitV ++ List.replicate (n - k) (.int .i64 0)) 3 ∧ Touch [] w wr
theorem PathTo.next {w wr : World} {bs : List Int} {n k : Nat} (h : PathTo w bs n k wr) (hk : k < n) (hn : (pathP bs).length = n) : PathTo w bs n (k + 1) (wr.setCell ⟨w.heap.size, k, none⟩ (.int .i64 (bitP bs k))) := by
 refine ⟨?_, h.2.setCell _ _ (Or.inr (Nat.le_refl _))⟩
 have h1 := h.1.setCell k (.int .i64 (bitP bs k))
 have hl : (((pathP bs).take k).map bitV).length = k := by simp; omega
 rw [List.set_append_right _ _ (by omega), hl, Nat.sub_self] at h1
 obtain ⟨q, hq⟩ : ∃ q, n - k = q + 1 := ⟨n - k - 1, by omega⟩
 rw [hq, List.replicate_succ, List.set_cons_zero] at h1
 rw [show n - (k + 1) = q by omega, List.take_add_one, List.map_append]
 have e : (pathP bs)[k]?.toList.map bitV = [.int .i64 (bitP bs k)] := by
  have hg : (pathP bs)[k]? = some (decide (bitP bs k = 1)) := by
   have := pathP_len bs
   unfold pathP
   rw [List.getElem?_map, List.getElem?_range (by omega)]
   rfl
  rw [hg]
  show [bitV (decide (bitP bs k = 1))] = _
  unfold bitV
  rw [bI_of (bitP_bd bs k)]
 rw [e, List.append_assoc]
 exact h1
theorem PathTo.cell {w wr : World} {bs : List Int} {n k : Nat} (h : PathTo w bs n k wr) (hk : k < n) (hn : (pathP bs).length = n) : ∃ v, wr.cell? ⟨w.heap.size, k, none⟩ = some v :=
 ⟨_, h.1.cellN (i := k) (by simp; omega)⟩
theorem wrap64_id {x : Int} (h0 : 0 ≤ x) (h1 : x ≤ 255) : wrap64 x = x := by
 unfold wrap64
 omega
theorem i64_and1 (n : Int) : bits .and .i64 n 1 = n % 2 := by
 have h1 : (BitVec.ofInt 64 1).toNat = 2 ^ 1 - 1 := by decide
 have key : (BitVec.ofInt 64 n &&& BitVec.ofInt 64 1).toNat = (n % ((2 ^ 64 : Nat) : Int)).toNat % 2 ^ 1 := by
  rw [BitVec.toNat_and, BitVec.toNat_ofInt, h1, Nat.and_two_pow_sub_one_eq_mod]
 show IntKind.i64.wrap ((BitVec.ofInt 64 n &&& BitVec.ofInt 64 1).toNat : Nat) = n % 2
 rw [key, IntKind.wrap_i64]
 omega
theorem pathOf_any {w : World} {sa : Option Addr} {sl : Nat} {bs : List Int} (h : KeyAt w sa sl bs) (n : Nat) (hn : n ≤ 12) (sc : Nat) (hsc : sl ≤ sc) :
  Calls Tryz.prog 149 #[.slice sa sl sc, .int .i64 (n : Int)] w (PathPost w n bs) := by
 have hl := h.1
 have hb := h.2.2.1
 by_cases h4 : bs.length = n + 4
 ·have hs : ((sl : Int) != 4 + n) = false := by simp; omega
  have hsc4 : (4 : Int) ≤ sc := by omega
  have hsl4 : (4 : Int) ≤ sl := by omega
  have hw : IntKind.u32.wrap (8 * (n : Int)) = 8 * n := by rw [IntKind.wrap_u32]; omega
  have H1 := toHid (length_key h (by omega) sc)
  have HL := toHid (length_key h (by omega) 4)
  have hkb := keyNum_bd h.2.1
  obtain ⟨kb, off, rfl, _, hcell⟩ := h.cut4 (by omega)
  by_cases hk : keyNum bs ≤ 8 * (n : Int)
  ·have HW : Hid (∀ e w', ((∃ g, e = .returned (.tuple #[.slice (some ⟨g, 0, none⟩) (pathP bs).length (pathP bs).length, .bool true]) ∧ Blk w' g ((pathP bs).map bitV) 3 ∧ w.heap.size ≤ g ∧ (pathP bs).length ≤ 1000 ∧ Touch [] w w')) → PathPost w n bs e w') := by
    intro e w' h9
    unfold PathPost
    rw [if_pos (by simp [fitsK, h4, hk])]
    exact h9
   have hpl := pathP_len bs
   obtain ⟨q, hq⟩ : ∃ q : Nat, keyNum bs = q := ⟨(keyNum bs).toNat, by omega⟩
   rw [hq] at H1 HL hk hkb hpl
   rw [Int.toNat_natCast] at hpl
   have HPL := toHid hpl
   have HKA := toHid (And.intro h (And.intro hcell h4))
   have hmk := @run_make_blk Tryz.prog 112 3 (.int .i64 0) 8 Tryz.underlying112 info3 rfl q (by omega) (by omega) .u32 w
   have HI0 : Hid (PathTo w bs q 0 (w.alloc (.cells (List.replicate q (.int .i64 0)).toArray 3))) := ⟨by simpa using Blk.newA w (List.replicate q (Value.int .i64 0)).toArray _ 3 rfl, (Touch.refl [] w).alloc _⟩
   clear h hb hl hcell hq hpl h4
   go_enter Tryz.func149, Tryz.ntmps149
   go_wp2_with fail
   refine Calls.mono H1.out ?_
   rintro e w ⟨rfl, rfl⟩
   go_wp2_with fail
   clear H1 HL
   go_loopw [26] (fun t wr => ∃ k : Nat, k ≤ q ∧ t = .int .i64 k ∧ Hid (PathTo w bs q k wr)) (fun t _ => q - (intOf t).toNat)
   case atStart => exact ⟨0, by omega, rfl, HI0⟩
   case round =>
    clear HI0 hmk
    obtain ⟨k, hkq, rfl, HI⟩ := hrel
    by_cases hlt : k < q
    ·have c1 := HI.out.2.cell (HKA.out.2.1 (4 + k / 8) (by have := HKA.out.2.2; omega)) (by simp)
     have hbd := getD_bd HKA.out.1.2.1 (4 + k / 8)
     have hsl : 4 + k / 8 < sl := by have := HKA.out.2.2; have := HKA.out.1.1; omega
     have HV : Hid (bitP bs k = bs.getD (4 + k / 8) 0 / 2 ^ (7 - k % 8) % 2) := rfl
     have HN := toHid (HI.out.next hlt HPL.out)
     obtain ⟨old, d1⟩ := HI.out.cell hlt HPL.out
     have d2 := HI.out.1.frozen k
     generalize bs.getD (4 + k / 8) 0 = v at *
     generalize bitP bs k = r at *
     have e1 : ((k : Int) / 8) = ((k / 8 : Nat) : Int) := by omega
     have e2 : ((k : Int) % 8) = ((k % 8 : Nat) : Int) := by omega
     have hm8 : k % 8 < 8 := Nat.mod_lt _ (by omega)
     generalize hd : k / 8 = d at *
     generalize hm : k % 8 = m at *
     clear HI
     have HB1 : Hid (bits .and .i64 (wrap64 (v / 2 ^ (7 - m))) 1 = r) := by
      have q0 : 0 ≤ v / 2 ^ (7 - m) := Int.ediv_nonneg hbd.1 (Int.pow_nonneg (by omega))
      have q1 : v / 2 ^ (7 - m) ≤ v := Int.ediv_le_self _ hbd.1
      show bits .and .i64 (wrap64 (v / 2 ^ (7 - m))) 1 = r
      rw [HV.out, i64_and1]
      rw [show wrap64 (v / 2 ^ (7 - m)) = v / 2 ^ (7 - m) from wrap64_id q0 (by omega)]
     go_wp2
     refine ⟨⟨k + 1, by omega, by go_num, ?_⟩, by simp [intOf]; omega⟩
     rw [HB1.out]
     exact HN
    ·obtain rfl : k = q := by omega
     have HF := toHid (HW.out _ _ ⟨w.heap.size, rfl, by
      have := HI.out.1
      rw [Nat.sub_self, List.take_of_length_le (by have := HPL.out; omega)] at this
      simpa using this, Nat.le_refl _, by have := HPL.out; omega, HI.out.2⟩)
     rw [HPL.out] at HF
     go_wp2
     go_ret2
     exact HF.out
  ·have HF := toHid (PathPost.no (w := w) (n := n) (bs := bs) (by simp [fitsK]; intro _; omega))
   have hk' : 8 * (n : Int) < keyNum bs := by omega
   generalize keyNum bs = kn at *
   clear h hb hl h4 hcell hk
   go_enter Tryz.func149, Tryz.ntmps149
   go_wp2_with fail
   refine Calls.mono H1.out ?_
   rintro e w ⟨rfl, rfl⟩
   go_wp2
   go_ret2
   exact HF.out
 ·have hs : ((sl : Int) != 4 + n) = true := by simp; omega
  have HF := toHid (PathPost.no (w := w) (n := n) (bs := bs) (by simp [fitsK, h4]))
  clear h hb hl h4
  go_enter Tryz.func149, Tryz.ntmps149
  go_wp2
  go_ret2
  exact HF.out
end Go.Proofs.YtmhhahmjkopjhaaGreat.Lpm
end
section
namespace Go.Proofs.YtmhhahmjkopjhaaGreat.Lpm
open Go.RowKit
theorem take_getD (p : List Bool) (k x : Nat) : (p.take k).getD x false = (decide (x < k) && p.getD x false) := by
 rw [List.getD_eq_getElem?_getD, List.getD_eq_getElem?_getD, List.getElem?_take]
 by_cases h : x < k
 ·rw [if_pos h]; simp [h]
 ·rw [if_neg h]; simp [h]
theorem byteB_other (p : List Bool) {k i : Nat} (h : i ≠ k / 8) : byteB (p.take (k + 1)) i = byteB (p.take k) i := by
 unfold byteB
 refine accB_congr 8 fun j hj => ?_
 rw [take_getD, take_getD]
 by_cases h1 : 8 * i + j < k
 ·rw [decide_eq_true h1, decide_eq_true (by omega)]
 ·rw [decide_eq_false h1, decide_eq_false (by omega)]
theorem byteB_step (p : List Bool) (k : Nat) : byteB (p.take (k + 1)) (k / 8) = byteB (p.take k) (k / 8) + bI (p.getD k false) * 2 ^ (7 - k % 8) ∧ byteB (p.take k) (k / 8) % 2 ^ (8 - k % 8) = 0 := by
 have hm : k % 8 < 8 := Nat.mod_lt _ (by omega)
 have hz : ∀ j, k % 8 ≤ j → (p.take k).getD (8 * (k / 8) + j) false = false := fun j hj => by
  rw [take_getD, decide_eq_false (by omega)]
  rfl
 refine ⟨?_, ?_⟩
 ·unfold byteB
  have h := accB_set (f := fun j => (p.take k).getD (8 * (k / 8) + j) false) (g := fun j => (p.take (k + 1)).getD (8 * (k / 8) + j) false) (m := k % 8) (n := 8) hm
   (fun j hj => by
    show (p.take k).getD _ false = (p.take (k + 1)).getD _ false
    rw [take_getD, take_getD, decide_eq_true (by omega), decide_eq_true (by omega)])
   (fun j hj h8 => ⟨hz j (by omega), by
    show (p.take (k + 1)).getD _ false = false
    rw [take_getD, decide_eq_false (by omega)]
    rfl⟩) (hz _ (Nat.le_refl _))
  rw [h]
  congr 2
  show bI ((p.take (k + 1)).getD (8 * (k / 8) + k % 8) false) = _
  rw [take_getD, show 8 * (k / 8) + k % 8 = k by omega, decide_eq_true (by omega), Bool.true_and]
 ·exact accB_low hm (fun j hj _ => hz j hj)
theorem or_bit (a x : Int) (m : Nat) (hm : m < 8) (ha0 : 0 ≤ a) (ha1 : a ≤ 255) (hl : a % 2 ^ (8 - m) = 0) (hx : 0 ≤ x ∧ x ≤ 1) : bits .or .u8 a (x * 2 ^ (7 - m)) = a + x * 2 ^ (7 - m) := by
 obtain ⟨A, rfl⟩ := Int.eq_ofNat_of_zero_le ha0
 obtain ⟨X, rfl⟩ := Int.eq_ofNat_of_zero_le hx.1
 have hp : (2 : Nat) ^ (8 - m) = 2 * 2 ^ (7 - m) := by rw [show 8 - m = (7 - m) + 1 by omega, Nat.pow_succ, Nat.mul_comm]
 have hp7 : (2 : Nat) ^ (7 - m) ≤ 2 ^ 7 := Nat.pow_le_pow_right (by omega) (by omega)
 have hpp : 0 < (2 : Nat) ^ (7 - m) := Nat.pow_pos (by omega)
 have hc : (X : Int) * 2 ^ (7 - m) = ((X * 2 ^ (7 - m) : Nat) : Int) := by rw [Int.natCast_mul, Int.natCast_pow]; rfl
 have hX : X = 0 ∨ X = 1 := by omega
 have hXl : X * 2 ^ (7 - m) < 2 ^ (8 - m) := by rcases hX with rfl | rfl <;> omega
 have hX256 : X * 2 ^ (7 - m) < 256 := by rcases hX with rfl | rfl <;> omega
 have hA : A % 2 ^ (8 - m) = 0 := by
  have h1 : ((A % 2 ^ (8 - m) : Nat) : Int) = 0 := by rw [Int.natCast_emod, Int.natCast_pow]; exact hl
  omega
 obtain ⟨q, hq⟩ := Nat.dvd_of_mod_eq_zero hA
 rw [hc, u8_or_nat A _ (by omega) hX256, hq, ← Nat.two_pow_add_eq_or_of_lt hXl]
 omega
theorem bytesP_step (p : List Bool) (n k : Nat) (h : k / 8 < n) : bytesP (p.take (k + 1)) n = (bytesP (p.take k) n).set (k / 8) (byteB (p.take (k + 1)) (k / 8)) := by
 refine List.ext_getElem? fun i => ?_
 rw [List.getElem?_set, bytesP_len]
 unfold bytesP
 rw [List.getElem?_map, List.getElem?_map]
 by_cases hi : k / 8 = i
 ·rw [if_pos hi, if_pos h, ← hi, List.getElem?_range h]
  rfl
 ·rw [if_neg hi]
  by_cases hin : i < n
  ·rw [List.getElem?_range hin]
   simp only [Option.map_some]
   rw [byteB_other p (by omega)]
  ·rw [List.getElem?_eq_none (by simpa using hin)]
   rfl
theorem le4_get (v : Int) {k : Nat} (h : k < 4) : (le4 v)[k]? = some (byteOf v k) := by
 unfold le4
 rw [List.getElem?_map, List.getElem?_range h]
 rfl
def LenTo (w : World) (p : List Bool) (n k : Nat) (wr : World) : Prop := Blk wr w.heap.size (((le4 (p.length : Int)).take k).map (Value.int .u8) ++ List.replicate (n + 4 - k) (.int .u8 0)) 5 ∧ Touch [] w wr
theorem LenTo.next {w wr : World} {p : List Bool} {n k : Nat} (h : LenTo w p n k wr) (hk : k < 4) : LenTo w p n (k + 1) (wr.setCell ⟨w.heap.size, k, none⟩ (.int .u8 (byteOf (p.length : Int) k))) := by
 refine ⟨?_, h.2.setCell _ _ (Or.inr (Nat.le_refl _))⟩
 have h1 := h.1.setCell k (.int .u8 (byteOf (p.length : Int) k))
 have hl : (((le4 (p.length : Int)).take k).map (Value.int .u8)).length = k := by rw [List.length_map, List.length_take, le4_len]; omega
 rw [List.set_append_right _ _ (by omega), hl, Nat.sub_self] at h1
 obtain ⟨q, hq⟩ : ∃ q, n + 4 - k = q + 1 := ⟨n + 4 - k - 1, by omega⟩
 rw [hq, List.replicate_succ, List.set_cons_zero] at h1
 rw [show n + 4 - (k + 1) = q by omega, List.take_add_one, List.map_append, le4_get _ hk, List.append_assoc]
 exact h1
theorem LenTo.cell {w wr : World} {p : List Bool} {n k : Nat} (h : LenTo w p n k wr) (hk : k < 4) : (∃ v, wr.cell? ⟨w.heap.size, k, none⟩ = some v) ∧ wr.frozen? ⟨w.heap.size, k, none⟩ = false :=
 ⟨⟨_, h.1.cellN (i := k) (by simp [le4_len]; omega)⟩, h.1.frozen k⟩
def KeyTo (w : World) (p : List Bool) (n k : Nat) (wr : World) : Prop := Blk wr w.heap.size ((le4 (p.length : Int) ++ bytesP (p.take k) n).map (Value.int .u8)) 5 ∧ Touch [] w wr
theorem LenTo.done {w wr : World} {p : List Bool} {n : Nat} (h : LenTo w p n 4 wr) : KeyTo w p n 0 wr := by
 refine ⟨?_, h.2⟩
 have h1 := h.1
 rw [List.take_of_length_le (by rw [le4_len]; omega), Nat.add_sub_cancel] at h1
 have hz : bytesP (p.take 0) n = List.replicate n 0 := by
  unfold bytesP
  rw [List.take_zero]
  have : ∀ i, byteB [] i = 0 := fun i => by
   have := accB_tail (f := fun k => ([] : List Bool).getD (8 * i + k) false) 0 8 (fun j _ _ => by simp)
   unfold byteB
   rw [Nat.zero_add] at this
   rw [this]
   rfl
  rw [List.map_congr_left (fun i _ => this i), List.map_const', List.length_range]
 rw [hz, List.map_append, List.map_replicate]
 exact h1
theorem KeyTo.next {w wr : World} {p : List Bool} {n k : Nat} (h : KeyTo w p n k wr) (hk : k / 8 < n) : KeyTo w p n (k + 1) (wr.setCell ⟨w.heap.size, 4 + k / 8, none⟩ (.int .u8 (byteB (p.take (k + 1)) (k / 8)))) := by
 refine ⟨?_, h.2.setCell _ _ (Or.inr (Nat.le_refl _))⟩
 have h1 := h.1.setCell (4 + k / 8) (.int .u8 (byteB (p.take (k + 1)) (k / 8)))
 rw [bytesP_step p n k hk, ← List.map_set, List.set_append_right _ _ (by rw [le4_len]; omega), le4_len, show 4 + k / 8 - 4 = k / 8 by omega] at *
 exact h1
theorem KeyTo.cell {w wr : World} {p : List Bool} {n k : Nat} (h : KeyTo w p n k wr) (hk : k / 8 < n) : wr.cell? ⟨w.heap.size, 4 + k / 8, none⟩ = some (.int .u8 (byteB (p.take k) (k / 8))) := by
 refine h.1.cell ?_
 rw [List.getElem?_map, List.getElem?_append_right (by rw [le4_len]; omega), le4_len, show 4 + k / 8 - 4 = k / 8 by omega]
 unfold bytesP
 rw [List.getElem?_map, List.getElem?_range hk]
 rfl
def KeyOfPost (w : World) (p : List Bool) (n : Nat) (e : Ending) (w' : World) : Prop := e = .returned (.slice (some ⟨w.heap.size, 0, none⟩) (n + 4) (n + 4)) ∧ Blk w' w.heap.size ((keyP p n).map (Value.int .u8)) 5 ∧ Touch [] w w'
theorem keyOf_any {w : World} {sa : Option Addr} {p : List Bool} (h : PathAt w sa p) (n : Nat) (hn : n ≤ 12) (hp : p.length ≤ 8 * n) (cap : Nat) :
  Calls Tryz.prog 155 #[.slice sa p.length cap, .int .i64 (n : Int)] w (KeyOfPost w p n) := by
 have hmk : (Instr.makeSlice 39 (.int .i64 (4 + (n : Int))) (.int .i64 (4 + (n : Int)))).run Tryz.prog w = .ok (.slice (some ⟨w.heap.size, 0, none⟩) (n + 4) (n + 4)) (w.alloc (.cells (List.replicate (n + 4) (.int .u8 0)).toArray 5)) := by
  have := @run_make_blk Tryz.prog 39 5 (.int .u8 0) 1 Tryz.underlying39 info5 rfl (n + 4) (by omega) (by omega) .i64 w
  rw [show ((n + 4 : Nat) : Int) = 4 + (n : Int) by omega] at this
  exact this
 have HI0 : Hid (LenTo w p n 0 (w.alloc (.cells (List.replicate (n + 4) (.int .u8 0)).toArray 5))) := ⟨by simpa using Blk.newA w (List.replicate (n + 4) (Value.int .u8 0)).toArray _ 5 rfl, (Touch.refl [] w).alloc _⟩
 have HP := toHid h
 generalize hpl : p.length = q at *
 have HPL := toHid hpl
 clear h hpl
 go_enter Tryz.func155, Tryz.ntmps155
 go_wp2_with fail
 clear hmk
 go_loopw [12] (fun t wr => ∃ k : Nat, k ≤ 4 ∧ t = .int .i64 k ∧ Hid (LenTo w p n k wr)) (fun t _ => 4 - (intOf t).toNat)
 case atStart => exact ⟨0, by omega, rfl, HI0⟩
 case round =>
  clear HI0
  obtain ⟨k, hk, rfl, HI⟩ := hrel
  by_cases hlt : k < 4
  ·obtain ⟨⟨v, d1⟩, d2⟩ := HI.out.cell hlt
   have HN := toHid (HI.out.next hlt)
   rw [HPL.out] at HN
   clear HI
   have HBY := toHid (byte_shift (q : Int) k)
   generalize byteOf (q : Int) k = r at *
   go_wp2
   refine ⟨⟨k + 1, by omega, by go_num, ?_⟩, by simp [intOf]; omega⟩
   rw [HBY.out]
   exact HN
  ·obtain rfl : k = 4 := by omega
   have HI0 : Hid (KeyTo w p n 0 wr) := HI.out.done
   clear HI
   go_wp2_with fail
   go_loopw [27] (fun t w2 => ∃ k : Nat, k ≤ q ∧ t = .int .i64 k ∧ Hid (KeyTo w p n k w2)) (fun t _ => q - (intOf t).toNat)
   case atStart => exact ⟨0, by omega, rfl, HI0⟩
   case round =>
    clear HI0
    obtain ⟨k, hk, rfl, HI⟩ := hrel
    by_cases hlt : k < q
    ·obtain ⟨pb, off, rfl, hc⟩ := HP.out.2 (by rw [HPL.out]; omega)
     have c1 := HI.out.2.cell (hc k (by rw [HPL.out]; exact hlt)) (by simp)
     have hk8 : k / 8 < n := by omega
     have d1 := HI.out.cell hk8
     have d2 := HI.out.1.frozen (4 + k / 8)
     have HN := toHid (HI.out.next hk8)
     have hst := byteB_step p k
     have hbd := byteB_bd (p.take k) (k / 8)
     have hor := or_bit _ (bI (p.getD k false)) (k % 8) (Nat.mod_lt _ (by omega)) hbd.1 hbd.2 hst.2 (bI_bd _)
     have HST := toHid (hst.1.trans hor.symm)
     have hbb := bI_bd (p.getD k false)
     generalize byteB (p.take (k + 1)) (k / 8) = z at *
     generalize byteB (p.take k) (k / 8) = y at *
     generalize bI (p.getD k false) = x at *
     have e1 : ((k : Int) / 8) = ((k / 8 : Nat) : Int) := by omega
     have e2 : ((k : Int) % 8) = ((k % 8 : Nat) : Int) := by omega
     have hm8 : k % 8 < 8 := Nat.mod_lt _ (by omega)
     have h48 : 4 + k / 8 < n + 4 := by omega
     generalize hd : k / 8 = d at *
     generalize hm : k % 8 = m at *
     clear hc HI hst hor
     go_wp2_with fail
     go_region
     go_wp2
     refine ⟨⟨k + 1, by omega, by go_num, ?_⟩, by simp [intOf]; omega⟩
     have hp7 : (2 : Int) ^ (7 - m) ≤ 2 ^ 7 := by
      have : (2 : Nat) ^ (7 - m) ≤ 2 ^ 7 := Nat.pow_le_pow_right (by omega) (by omega)
      have h2 : ((2 ^ (7 - m) : Nat) : Int) ≤ ((2 ^ 7 : Nat) : Int) := by omega
      rw [Int.natCast_pow] at h2
      exact h2
     have hpp : (0 : Int) < 2 ^ (7 - m) := Int.pow_pos (by omega)
     have hxx : 0 ≤ x * 2 ^ (7 - m) ∧ x * 2 ^ (7 - m) ≤ 255 := by
      have : x = 0 ∨ x = 1 := by omega
      rcases this with rfl | rfl <;> omega
     rw [wrap64_id hxx.1 hxx.2, Int.emod_eq_of_lt hxx.1 (by omega), ← HST.out]
     exact ⟨HN.out.1.drew, HN.out.2.drew⟩
    ·obtain rfl : k = q := by omega
     have HF : Hid (KeyOfPost w p n (.returned (.slice (some ⟨w.heap.size, 0, none⟩) (n + 4) (n + 4))) wr) := by
      refine ⟨rfl, ?_, HI.out.2⟩
      have := HI.out.1
      rw [List.take_of_length_le (by have := HPL.out; omega)] at this
      exact this
     go_wp2
     go_ret
     exact HF.out
end Go.Proofs.YtmhhahmjkopjhaaGreat.Lpm
end
section
namespace Go.Proofs.YtmhhahmjkopjhaaGreat.Lpm
open Go.RowKit Go.Deep
theorem RowAt.shorter {w : World} {e : TypeId} {g : Option Nat} {n cap : Nat} {cs : List Value} {v : Value} (h : RowAt w e 1 g (n + 1) cap (cs ++ [v])) : RowAt w e 1 g n cap cs := by
 obtain ⟨h1, h2, h3, h4⟩ := h
 refine ⟨by simp at h1; omega, by omega, h3, ?_⟩
 cases g with
 | none => exact h4
 | some b =>
  obtain ⟨rest, hB, hc⟩ := h4
  exact ⟨v :: rest, by simpa using hB, by simpa using hc⟩
theorem run_append_keep {P : Program} (w : World) (t ty e : TypeId) (i : TypeInfo) (z : Value) (ht : P.underlying t = some (.slice e)) (hi : P.info? e = some i) (hz : i.zero = some z)
  (hsz : i.size = 1) (hzs : z.cells.size = 1) (g : Option Nat) (n cap : Nat) (cs : List Value) (h : RowAt w e 1 g n cap cs)
  (a : Addr) (c : Nat) (v : Value) (hnews : w.cell? a = some v) (h1 : v.oneCell' = true)
  (hbig : (n + 1) * i.bytes ≤ 140737488355328) (hmax : n + 1 ≤ 140737488355328) :
  ∃ g' cap' w', (Builtin.append_ #[t, t] ty #[slV g n cap, .slice (some a) 1 c]).run P w = .ok (slV g' (n + 1) cap') w' ∧ RowAt w' e 1 g' (n + 1) cap' (cs ++ [v]) ∧ RowAt w' e 1 g n cap cs ∧ Touch g.toList w w' ∧
   ((g' = g ∧ cap' = cap) ∨ g' = some w.heap.size) := by
 have hrow := h
 obtain ⟨hcl, hnc, hcm, hg⟩ := h
 have hspot : a.spot = none := by
  obtain ⟨b, off, spot⟩ := a
  exact World.cell?_spot hnews
 have hnews' : ∀ j u, [v][j]? = some u → w.cell? (a.add j) = some u := fun j u hj => by
  have : j = 0 := by have := (List.getElem?_eq_some_iff.1 hj).1; simp at this; exact this
  subst this
  injection hj with hj
  subst hj
  obtain ⟨b, off, spot⟩ := a
  have : spot = none := hspot
  subst this
  rw [Addr.add_lit]
  exact hnews
 have hlen : (cs ++ [v]).length = (n + 1) * 1 := by rw [List.length_append, hcl]; simp
 have hgrow : ∀ old, old < n + 1 → RowAt (w.drew.alloc (.cells (cs.toArray ++ [v].toArray ++ Builtin.zeroCells z.cells (grownCap w (n + 1) old e - (n + 1))) e)) e 1 (some w.heap.size) (n + 1) (grownCap w (n + 1) old e) (cs ++ [v]) := by
  intro old ho
  have hge := grownCap_ge w (n + 1) old e
  have hle := grownCap_le_maxLen w (n + 1) old e (by unfold maxLen; omega)
  refine ⟨hlen, hge, hle, (Builtin.zeroCells z.cells (grownCap w (n + 1) old e - (n + 1))).toList, ?_, ?_⟩
  ·exact Blk.newA w.drew _ _ e (by simp)
  ·rw [List.length_append, hlen, Array.length_toList, size_zeroCells, hzs]
   omega
 cases g with
 | none =>
  have hg : cap = 0 := hg
  subst hg
  obtain rfl : n = 0 := by omega
  obtain rfl : cs = [] := List.eq_nil_of_length_eq_zero (by simpa using hcl)
  have hr := run_append_nil (P := P) w t ty e i z ht hi hz a 1 c [v] (by rw [hsz]; rfl) hnews' (by omega) (by omega) (by simp only [Nat.zero_add] at hbig; omega)
  have hgr := hgrow 0 (by omega)
  simp only [Nat.zero_add, List.nil_append, Array.empty_append] at hgr ⊢
  exact ⟨some w.heap.size, _, _, hr, hgr, ⟨rfl, Nat.le_refl _, hcm, rfl⟩, (Touch.refl _ w).drew.alloc _, Or.inr rfl⟩
 | some b =>
  obtain ⟨rest, hb, hcap⟩ := hg
  by_cases hroom : n + 1 ≤ cap
  ·have hfit : n * i.size + [v].length ≤ (cs ++ rest).toArray.size := by
    rw [hsz]
    simp at hcap hcl ⊢
    omega
   have hr := run_append_room (P := P) w t ty e i ht hi b n cap _ hb a 1 c [v] (by rw [hsz]; rfl) hnews' (fun u hu => by simp at hu; rw [hu]; exact h1) hroom hfit
   refine ⟨some b, cap, _, hr, ?_, RowAt.shorter (v := v) ?_, (Touch.refl _ w).setRow _ _ (Or.inl (by simp)), Or.inl ⟨rfl, rfl⟩⟩
   all_goals
    refine ⟨hlen, hroom, hcm, rest.drop [v].length, ?_, ?_⟩
    ·rw [splice_rest cs rest [v] (n * i.size) (by rw [hsz]; exact hcl)]
     exact hb.setRow _
    ·simp only [List.length_append, List.length_drop] at hcap ⊢
     rw [hsz] at hfit
     simp at hfit hcap hcl ⊢
     omega
  ·have hold : ∀ j u, cs[j]? = some u → w.cell? ((⟨b, 0, none⟩ : Addr).add j) = some u := fun j u hj => by
    have hadd : (⟨b, 0, none⟩ : Addr).add j = ⟨b, j, none⟩ := by unfold Addr.add; split <;> simp_all
    rw [hadd]
    exact hb.cell (by rw [List.getElem?_append_left (List.getElem?_eq_some_iff.1 hj).1]; exact hj)
   have hr := run_append_grow (P := P) w t ty e i z ht hi hz ⟨b, 0, none⟩ n cap cs (by rw [hsz]; exact hcl) hold a 1 c [v] (by rw [hsz]; rfl) hnews' (by omega) (by omega) (growslice_fits (by omega) hbig)
   have ht0 : Touch [] w (w.drew.alloc (.cells (cs.toArray ++ [v].toArray ++ Builtin.zeroCells z.cells (grownCap w (n + 1) cap e - (n + 1))) e)) := (Touch.refl _ w).drew.alloc _
   exact ⟨some w.heap.size, _, _, hr, hgrow cap (by omega), hrow.touch ht0 (by simp), Touch.nil ht0, Or.inr rfl⟩
def allT : Tr → List Bool → List (List Bool × Nat)
 | .nil, _ => []
 | .node _ _ a l r, pre => (if a.1 = true then [(pre, a.2)] else []) ++ (allT l (pre ++ [false]) ++ allT r (pre ++ [true]))
theorem mem_allT : ∀ (T : Tr) (pre : List Bool) (x : List Bool × Nat), x ∈ allT T pre ↔ ∃ q, x.1 = pre ++ q ∧ atT T q = some x.2
 | .nil, pre, x => by simp [allT, atT]
 | .node b o a l r, pre, x => by
  simp only [allT, List.mem_append, mem_allT l, mem_allT r]
  constructor
  ·rintro (h | ⟨q, h1, h2⟩ | ⟨q, h1, h2⟩)
   ·split at h
    ·rename_i ha
     simp at h
     exact ⟨[], by rw [h]; simp, by rw [h]; simp [atT, heldT, ha]⟩
    ·simp at h
   ·exact ⟨false :: q, by rw [h1]; simp, h2⟩
   ·exact ⟨true :: q, by rw [h1]; simp, h2⟩
  ·rintro ⟨q, h1, h2⟩
   match q with
   | [] =>
    simp only [atT, heldT] at h2
    split at h2
    ·rename_i ha
     injection h2 with h2
     refine Or.inl ?_
     rw [if_pos ha]
     simp only [List.mem_singleton, List.append_nil] at h1 ⊢
     rw [h2, ← h1]
    ·cases h2
   | false :: q => exact Or.inr (Or.inl ⟨q, by rw [h1]; simp, h2⟩)
   | true :: q => exact Or.inr (Or.inr ⟨q, by rw [h1]; simp, h2⟩)
def PRow (w : World) (g : Option Nat) (cap : Nat) (p : List Bool) : Prop := RowAt w 3 1 g p.length cap (p.map bitV)
theorem PRow.path {w : World} {g : Option Nat} {cap : Nat} {p : List Bool} (h : PRow w g cap p) (hp : p.length ≤ 1000) : PathAt w (g.map fun b => ⟨b, 0, none⟩) p := by
 refine ⟨hp, fun h1 => ?_⟩
 obtain ⟨_, h2, _, h4⟩ := h
 cases g with
 | none =>
  have h4 : cap = 0 := h4
  omega
 | some b =>
  obtain ⟨rest, hB, _⟩ := h4
  refine ⟨b, 0, rfl, fun j hj => ?_⟩
  rw [Nat.zero_add]
  refine hB.cell ?_
  rw [List.getElem?_append_left (by simpa using hj), List.getElem?_map, List.getD_eq_getElem?_getD, List.getElem?_eq_getElem hj]
  rfl
theorem PRow.lt {w : World} {b cap : Nat} {p : List Bool} (h : PRow w (some b) cap p) : b < w.heap.size := by
 obtain ⟨_, _, _, rest, hB, _⟩ := h
 exact hB.lt
structure Teller (S : List Nat) (ok : List Bool → Nat → Prop) (I : List (List Bool × Nat) → List Nat → World → Prop) (C : Value → Value → World → (Ending → World → Prop) → Prop) : Prop where
 call : ∀ L K pre s sa cap w, I L K w → PathAt w sa pre → ok pre s → C (.slice sa pre.length cap) (.int .i64 (s : Int)) w (fun e w' => e = .returned (.tuple #[]) ∧ ∃ K', I (L ++ [(pre, s)]) K' w' ∧ (∀ x ∈ K', x ∈ K ∨ w.heap.size ≤ x) ∧ Touch S w w')
 still : ∀ L K w w' G, I L K w → Touch G w w' → (∀ x ∈ G, x ∉ K) → I L K w'
 lt : ∀ L K w, I L K w → ∀ x ∈ K, x < w.heap.size
def ETo (S : List Nat) (I : List (List Bool × Nat) → List Nat → World → Prop) (w : World) (g : Option Nat) (cap : Nat) (pre : List Bool) (L : List (List Bool × Nat)) (K : List Nat) (w' : World) : Prop :=
 ∃ K', I L K' w' ∧ (∀ x ∈ K', x ∈ K ∨ w.heap.size ≤ x) ∧ PRow w' g cap pre ∧ Touch (S ++ g.toList) w w'
theorem each_push {w : World} {g : Option Nat} {cap : Nat} {pre : List Bool} (h : PRow w g cap pre) (c : Bool) (hp : pre.length ≤ 1000) :
  ∃ g' cap' w', (Builtin.append_ #[112, 112] 112 #[slV g pre.length cap, .slice (some ⟨w.heap.size, 0, none⟩) 1 1]).run Tryz.prog (w.alloc (.cells #[bitV c] 3)) = .ok (slV g' (pre.length + 1) cap') w' ∧ PRow w' g' cap' (pre ++ [c]) ∧ PRow w' g cap pre ∧ Touch g.toList w w' ∧
   ((g' = g ∧ cap' = cap) ∨ ∃ b, g' = some b ∧ w.heap.size ≤ b) := by
 have hta : Touch [] w (w.alloc (.cells #[bitV c] 3)) := (Touch.refl _ w).alloc _
 have hN := Blk.newA w #[bitV c] _ 3 rfl
 obtain ⟨i, hi, hz, hs, hb⟩ := info_of info3
 obtain ⟨g', cap', w', hr, h2, h3, h4, h5⟩ := run_append_keep (P := Tryz.prog) (w.alloc (.cells #[bitV c] 3)) 112 112 3 i (.int .i64 0) Tryz.underlying112 hi hz hs rfl g pre.length cap _ (RowAt.touch h hta (by simp)) ⟨w.heap.size, 0, none⟩ 1 (bitV c) (hN.cell rfl) rfl (by rw [hb]; omega) (by omega)
 refine ⟨g', cap', w', hr, ?_, h3, (Touch.nil hta).trans h4 (fun y hy => Or.inl hy), ?_⟩
 ·unfold PRow
  rw [List.length_append, List.map_append]
  exact h2
 ·rcases h5 with h5 | h5
  ·exact Or.inl h5
  ·exact Or.inr ⟨_, h5, by rw [World.size_alloc]; omega⟩
theorem each_ready {S : List Nat} {ok : List Bool → Nat → Prop} {I : List (List Bool × Nat) → List Nat → World → Prop} {C : Value → Value → World → (Ending → World → Prop) → Prop} (hT : Teller S ok I C)
  {w wr w2 : World} {g g' : Option Nat} {cap cap' : Nat} {L : List (List Bool × Nat)} {K K' : List Nat} {T : Tr}
  (hK : I L K' wr) (hKK : ∀ x ∈ K', x ∈ K ∨ w.heap.size ≤ x) (ht : Touch (S ++ g.toList) w wr) (ht2 : Touch g.toList wr w2) (hg' : (g' = g ∧ cap' = cap) ∨ ∃ b, g' = some b ∧ wr.heap.size ≤ b)
  (hA : TrAt w T) (hgT : ∀ b, g = some b → b ∉ bsT T ∧ b ∉ K ∧ b ∉ S ∧ b < w.heap.size) (hST : ∀ x ∈ S, x ∉ bsT T) (hSw : ∀ x ∈ S, x < w.heap.size) :
  TrAt w2 T ∧ I L K' w2 ∧ (∀ b, g' = some b → b ∉ bsT T ∧ b ∉ K' ∧ b ∉ S) := by
 have hdis : ∀ x ∈ bsT T, x ∉ S ++ g.toList := fun x hx hy => by
  rcases List.mem_append.1 hy with hy | hy
  ·exact hST x hy hx
  ·cases g with
   | none => cases hy
   | some b => simp at hy; subst hy; exact (hgT _ rfl).1 hx
 have hgK : ∀ b, g = some b → b ∉ K' := fun b hb hx => by
  rcases hKK b hx with h | h
  ·exact (hgT b hb).2.1 h
  ·have := (hgT b hb).2.2.2
   omega
 have hsz := ht.size
 refine ⟨(hA.touch ht hdis).touch ht2 (fun x hx hy => hdis x hx (List.mem_append_right _ hy)), hT.still _ _ _ _ _ hK ht2 (fun x hx => ?_), fun b hb => ?_⟩
 ·cases g with
  | none => cases hx
  | some b => simp at hx; subst hx; exact hgK _ rfl
 ·rcases hg' with ⟨e, _⟩ | ⟨b', e, hb'⟩
  ·rw [e] at hb
   exact ⟨(hgT b hb).1, hgK b hb, (hgT b hb).2.2.1⟩
  ·rw [e] at hb
   injection hb with hb
   subst hb
   refine ⟨fun hx => ?_, fun hx => ?_, fun hx => ?_⟩
   ·have := hA.lt _ hx
    omega
   ·have := hT.lt _ _ _ hK _ hx
    omega
   ·have := hSw _ hx
    omega
theorem each_next {S : List Nat} {I : List (List Bool × Nat) → List Nat → World → Prop}
  {w wr w2 w3 : World} {g g' : Option Nat} {cap cap' : Nat} {pre : List Bool} {c : Bool} {L : List (List Bool × Nat)} {K K' : List Nat}
  (hKK : ∀ x ∈ K', x ∈ K ∨ w.heap.size ≤ x) (ht : Touch (S ++ g.toList) w wr) (ht2 : Touch g.toList wr w2) (hg' : (g' = g ∧ cap' = cap) ∨ ∃ b, g' = some b ∧ wr.heap.size ≤ b) (hr2 : PRow w2 g cap pre) (hgS : ∀ b, g = some b → b ∉ S ∧ b < w.heap.size)
  (h : ETo S I w2 g' cap' (pre ++ [c]) L K' w3) : ETo S I w g cap pre L K w3 := by
 obtain ⟨K2, hI, hK2, hR, ht3⟩ := h
 have hsz := ht.size
 have hsz2 := ht2.size
 refine ⟨K2, hI, fun x hx => ?_, ?_, ?_⟩
 ·rcases hK2 x hx with h | h
  ·exact hKK x h
  ·exact Or.inr (by omega)
 ·rcases hg' with ⟨e1, e2⟩ | ⟨b, e1, e2⟩
  ·rw [e1, e2] at hR
   unfold PRow at hR
   rw [List.length_append, List.map_append] at hR
   exact RowAt.shorter hR
  ·refine RowAt.touch hr2 ht3 (fun x hx hy => ?_)
   rw [e1] at hy
   rcases List.mem_append.1 hy with hy | hy
   ·exact (hgS x hx).1 hy
   ·simp at hy
    have := (hgS x hx).2
    omega
 ·refine ((ht.trans ht2 (fun y hy => Or.inl (List.mem_append_right _ hy)))).trans ht3 (fun y hy => ?_)
  rcases List.mem_append.1 hy with hy | hy
  ·exact Or.inl (List.mem_append_left _ hy)
  ·rcases hg' with ⟨e1, _⟩ | ⟨b, e1, e2⟩
   ·rw [e1] at hy
    exact Or.inl (List.mem_append_right _ hy)
   ·rw [e1] at hy
    simp at hy
    exact Or.inr (by omega)
def EPost (S : List Nat) (I : List (List Bool × Nat) → List Nat → World → Prop) (w : World) (g : Option Nat) (cap : Nat) (pre : List Bool) (L : List (List Bool × Nat)) (K : List Nat) (e : Ending) (w' : World) : Prop := e = .returned (.tuple #[]) ∧ ETo S I w g cap pre L K w'
def toldK (L : List (List Bool × Nat)) (a : Bool × Nat) (l r : Tr) (pre : List Bool) (k : Nat) : List (List Bool × Nat) := L ++ (if a.1 = true then [(pre, a.2)] else []) ++ (if 1 ≤ k then allT l (pre ++ [false]) else []) ++ (if 2 ≤ k then allT r (pre ++ [true]) else [])
theorem told0 (L : List (List Bool × Nat)) (a : Bool × Nat) (l r : Tr) (pre : List Bool) : toldK L a l r pre 0 = L ++ (if a.1 = true then [(pre, a.2)] else []) := by simp [toldK]
theorem told1 (L : List (List Bool × Nat)) (a : Bool × Nat) (l r : Tr) (pre : List Bool) : toldK L a l r pre 1 = toldK L a l r pre 0 ++ allT l (pre ++ [false]) := by simp [toldK]
theorem told2 (L : List (List Bool × Nat)) (a : Bool × Nat) (l r : Tr) (pre : List Bool) : toldK L a l r pre 2 = toldK L a l r pre 1 ++ allT r (pre ++ [true]) := by simp [toldK]
theorem toldE (L : List (List Bool × Nat)) (b o : Nat) (a : Bool × Nat) (l r : Tr) (pre : List Bool) : toldK L a l r pre 2 = L ++ allT (.node b o a l r) pre := by simp [toldK, allT]
theorem each_free (tb : Nat) {S : List Nat} {ok : List Bool → Nat → Prop} {I : List (List Bool × Nat) → List Nat → World → Prop}
  (hT : Teller S ok I (fun a b w Q => Calls Tryz.prog 160 #[a, b, .pointer (some ⟨tb, 0, none⟩)] w Q)) : ∀ (T : Tr) (w : World) (g : Option Nat) (cap : Nat) (pre : List Bool) (L : List (List Bool × Nat)) (K : List Nat), TrAt w T → (∀ x ∈ allT T pre, ok x.1 x.2) → I L K w → PRow w g cap pre →
   (∀ b, g = some b → b ∉ bsT T ∧ b ∉ K ∧ b ∉ S) → (∀ x ∈ S, x ∉ bsT T) → (∀ x ∈ S, x < w.heap.size) → pre.length + depT T ≤ 200 →
   Calls Tryz.prog 153 #[T.ptr, slV g pre.length cap, .func (.func 160) #[] #[.pointer (some ⟨tb, 0, none⟩)]] w (EPost S I w g cap pre (L ++ allT T pre) K) := by
 intro T
 induction T with
 | nil =>
  intro w g cap pre L K hA hok hI hP hg hS _ hd
  show Calls Tryz.prog 153 #[.pointer none, slV g pre.length cap, .func (.func 160) #[] #[.pointer (some ⟨tb, 0, none⟩)]] w _
  have HF : Hid (ETo S I w g cap pre (L ++ allT .nil pre) K w) := ⟨K, by simpa [allT] using hI, fun x hx => Or.inl hx, hP, Touch.refl _ _⟩
  clear hA hok hI hP hg hS hd hT
  unfold slV
  generalize (g.map fun b => (⟨b, 0, none⟩ : Addr)) = sg
  go_enter Tryz.func153, Tryz.ntmps153
  go_wp2
  exact bodyPost_ret (v := .tuple #[]) (by simp [results, Tryz.results153]) rfl ⟨rfl, HF.out⟩
 | node b o a l r ihl ihr =>
  intro w g cap pre L K hA hok hI hP hg hS hSw hd
  obtain ⟨rfl, hB, hAl, hAr⟩ := hA
  have hdl : depT (.node b 0 a l r) = 1 + max (depT l) (depT r) := rfl
  have c0 := hB.cell (i := 0) rfl
  have c1 := hB.cell (i := 1) rfl
  have c2 := hB.cell (i := 2) rfl
  have c3 := hB.cell (i := 3) rfl
  have hxa := idx82a
  have hxb := idx82b
  have HTT := toHid (And.intro hAl (And.intro hAr hB))
  have HG : Hid (∀ b, g = some b → b ∉ bsT l ∧ b ∉ bsT r ∧ b ∉ K ∧ b ∉ S ∧ b < w.heap.size) := fun b hb => by
   have h1 := hg b hb
   refine ⟨fun hx => h1.1 (by simp [bsT, hx]), fun hx => h1.1 (by simp [bsT, hx]), h1.2.1, h1.2.2, ?_⟩
   rw [hb] at hP
   exact hP.lt
  have HSS : Hid (∀ x ∈ S, x ∉ bsT l ∧ x ∉ bsT r ∧ x < w.heap.size) := fun x hx => ⟨fun hy => hS x hx (by simp [bsT, hy]), fun hy => hS x hx (by simp [bsT, hy]), hSw x hx⟩
  have HBS : Hid (b ∉ S) := fun hx => hS b hx (by simp [bsT])
  have HBG : Hid (∀ x, g = some x → b ≠ x) := fun x hx e => (hg x hx).1 (by simp [bsT, e])
  have HOK : Hid ((∀ x ∈ allT l (pre ++ [false]), ok x.1 x.2) ∧ (∀ x ∈ allT r (pre ++ [true]), ok x.1 x.2)) := ⟨fun x hx => hok x (by simp [allT, hx]), fun x hx => hok x (by simp [allT, hx])⟩
  have HIL := toHid ihl
  have HIR := toHid ihr
  rw [ptr_ad l] at c0
  rw [ptr_ad r] at c1
  have HPI := toHid (And.intro hI hP)
  show Calls Tryz.prog 153 #[.pointer (some ⟨b, 0, none⟩), slV g pre.length cap, .func (.func 160) #[] #[.pointer (some ⟨tb, 0, none⟩)]] w _
  unfold slV
  have HG0 : Hid (∃ sg, (g.map fun b => (⟨b, 0, none⟩ : Addr)) = sg) := ⟨_, rfl⟩
  generalize hsg0 : (g.map fun b => (⟨b, 0, none⟩ : Addr)) = sg at *
  clear HG0
  have HG0 := toHid hsg0
  obtain ⟨hb, s⟩ := a
  cases hb with
  | false =>
   have HI0 : Hid (ETo S I w g cap pre (toldK L (false, s) l r pre 0) K w) := by
    rw [told0]
    exact ⟨K, by simpa using HPI.out.1, fun x hx => Or.inl hx, HPI.out.2, Touch.refl _ _⟩
   clear hB hAl hAr hok hI hP hg hS hsg0 ihl ihr hSw
   go_enter Tryz.func153, Tryz.ntmps153
   go_wp2_with fail
   clear c0 c1 c2 c3
   go_loopw [25] (fun t wr => ∃ k : Nat, k ≤ 2 ∧ t = .int .i64 k ∧ Hid (ETo S I w g cap pre (toldK L (false, s) l r pre k) K wr)) (fun t _ => 2 - (intOf t).toNat)
   case atStart => exact ⟨0, by omega, rfl, HI0⟩
   case round =>
    clear HI0
    obtain ⟨k, hk, rfl, HI⟩ := hrel
    have : k = 0 ∨ k = 1 ∨ k = 2 := by omega
    rcases this with rfl | rfl | rfl
    ·obtain ⟨K1, hI1, hK1, hR1, ht1⟩ := HI.out
     obtain ⟨g', cap', w2, hr, hP2, hPo, ht2, hg'⟩ := each_push hR1 false (by omega)
     have hrd := each_ready hT hI1 hK1 ht1 ht2 hg' HTT.out.1 (fun b hb => ⟨(HG.out b hb).1, (HG.out b hb).2.2⟩) (fun x hx => (HSS.out x hx).1) (fun x hx => (HSS.out x hx).2.2)
     have H1 := toHid ((HIL.out w2 g' cap' (pre ++ [false]) (toldK L (false, s) l r pre 0) K1 hrd.1 HOK.out.1 hrd.2.1 hP2 hrd.2.2 (fun x hx => (HSS.out x hx).1) (fun x hx => by have := (HSS.out x hx).2.2; have := ht1.size; have := ht2.size; omega) (by simp; omega)).mono (fun e w' h => (⟨h.1, by
      have h9 := each_next (w := w) hK1 ht1 ht2 hg' hPo (fun b hb => ⟨(HG.out b hb).2.2.2.1, (HG.out b hb).2.2.2.2⟩) h.2
      rw [← told1] at h9
      exact h9⟩ : e = .returned (.tuple #[]) ∧ ETo S I w g cap pre (toldK L (false, s) l r pre 1) K w')))
     have HRR := toHid hr
     rw [List.length_append] at H1
     unfold slV at HRR H1
     unfold bitV bI at HRR
     simp only [List.length_cons, List.length_nil, Nat.zero_add, ↓reduceIte, Bool.false_eq_true] at HRR H1
     clear hr hP2 hPo ht2 hg' hrd hI1 hK1 hR1 ht1
     rw [ptr_ad l] at H1
     generalize hsg : (g'.map fun b => (⟨b, 0, none⟩ : Addr)) = sg' at *
     rw [HG0.out] at HRR
     clear hsg
     go_wp2_with (at_builtin; refine Lib.wpList_append_run _ rfl _ _ _ _ rfl _ _ rfl rfl _ _ HRR.out ?_)
     refine Calls.mono H1.out ?_
     rintro e w3 ⟨rfl, hE⟩
     have HN := toHid hE
     clear hE H1 HRR
     go_wp2
     go_roundw
     case rel => exact ⟨1, by omega, rfl, HN⟩
     case measure => simp [intOf]
    ·obtain ⟨K1, hI1, hK1, hR1, ht1⟩ := HI.out
     obtain ⟨g', cap', w2, hr, hP2, hPo, ht2, hg'⟩ := each_push hR1 true (by omega)
     have hrd := each_ready hT hI1 hK1 ht1 ht2 hg' HTT.out.2.1 (fun b hb => ⟨(HG.out b hb).2.1, (HG.out b hb).2.2⟩) (fun x hx => (HSS.out x hx).2.1) (fun x hx => (HSS.out x hx).2.2)
     have H1 := toHid ((HIR.out w2 g' cap' (pre ++ [true]) (toldK L (false, s) l r pre 1) K1 hrd.1 HOK.out.2 hrd.2.1 hP2 hrd.2.2 (fun x hx => (HSS.out x hx).2.1) (fun x hx => by have := (HSS.out x hx).2.2; have := ht1.size; have := ht2.size; omega) (by simp; omega)).mono (fun e w' h => (⟨h.1, by
      have h9 := each_next (w := w) hK1 ht1 ht2 hg' hPo (fun b hb => ⟨(HG.out b hb).2.2.2.1, (HG.out b hb).2.2.2.2⟩) h.2
      rw [← told2] at h9
      exact h9⟩ : e = .returned (.tuple #[]) ∧ ETo S I w g cap pre (toldK L (false, s) l r pre 2) K w')))
     have HRR := toHid hr
     rw [List.length_append] at H1
     unfold slV at HRR H1
     unfold bitV bI at HRR
     simp only [List.length_cons, List.length_nil, Nat.zero_add, ↓reduceIte] at HRR H1
     clear hr hP2 hPo ht2 hg' hrd hI1 hK1 hR1 ht1
     rw [ptr_ad r] at H1
     generalize hsg : (g'.map fun b => (⟨b, 0, none⟩ : Addr)) = sg' at *
     rw [HG0.out] at HRR
     clear hsg
     go_wp2_with (at_builtin; refine Lib.wpList_append_run _ rfl _ _ _ _ rfl _ _ rfl rfl _ _ HRR.out ?_)
     refine Calls.mono H1.out ?_
     rintro e w3 ⟨rfl, hE⟩
     have HN := toHid hE
     clear hE H1 HRR
     go_wp2
     go_roundw
     case rel => exact ⟨2, by omega, rfl, HN⟩
     case measure => simp [intOf]
    ·have HF : Hid (ETo S I w g cap pre (L ++ allT (.node b 0 (false, s) l r) pre) K wr) := by
      have := HI.out
      rw [toldE L b 0] at this
      exact this
     go_wp2
     exact bodyPost_ret (v := .tuple #[]) (by simp [results, Tryz.results153]) rfl ⟨rfl, HF.out⟩
  | true =>
   have hcl := hT.call L K pre s sg cap w hI (by rw [← hsg0]; exact hP.path (by omega)) (hok (pre, s) (by simp [allT]))
   have H0 := toHid hcl
   clear hcl hB hAl hAr hok hI hP hg hS hsg0 ihl ihr hSw
   go_enter Tryz.func153, Tryz.ntmps153
   go_wp2_with fail
   refine Calls.mono H0.out ?_
   rintro e w1 ⟨rfl, K1, hI1, hK1, ht1⟩
   have hB1 := ht1.blk HTT.out.2.2 HBS.out
   have d0 := hB1.cell (i := 0) rfl
   have d1 := hB1.cell (i := 1) rfl
   rw [ptr_ad l] at d0
   rw [ptr_ad r] at d1
   have HI0 : Hid (ETo S I w g cap pre (toldK L (true, s) l r pre 0) K w1) := by
    rw [told0]
    exact ⟨K1, hI1, hK1, RowAt.touch HPI.out.2 ht1 (fun x hx => (HG.out x hx).2.2.2.1), ht1.mono (fun x hx => Or.inl (List.mem_append_left _ hx))⟩
   clear hI1 hK1 ht1 hB1 H0
   go_wp2_with fail
   clear c0 c1 c2 c3 d0 d1
   go_loopw [25] (fun t wr => ∃ k : Nat, k ≤ 2 ∧ t = .int .i64 k ∧ Hid (ETo S I w g cap pre (toldK L (true, s) l r pre k) K wr)) (fun t _ => 2 - (intOf t).toNat)
   case atStart => exact ⟨0, by omega, rfl, HI0⟩
   case round =>
    clear HI0
    obtain ⟨k, hk, rfl, HI⟩ := hrel
    have : k = 0 ∨ k = 1 ∨ k = 2 := by omega
    rcases this with rfl | rfl | rfl
    ·obtain ⟨K1, hI1, hK1, hR1, ht1⟩ := HI.out
     obtain ⟨g', cap', w2, hr, hP2, hPo, ht2, hg'⟩ := each_push hR1 false (by omega)
     have hrd := each_ready hT hI1 hK1 ht1 ht2 hg' HTT.out.1 (fun b hb => ⟨(HG.out b hb).1, (HG.out b hb).2.2⟩) (fun x hx => (HSS.out x hx).1) (fun x hx => (HSS.out x hx).2.2)
     have H1 := toHid ((HIL.out w2 g' cap' (pre ++ [false]) (toldK L (true, s) l r pre 0) K1 hrd.1 HOK.out.1 hrd.2.1 hP2 hrd.2.2 (fun x hx => (HSS.out x hx).1) (fun x hx => by have := (HSS.out x hx).2.2; have := ht1.size; have := ht2.size; omega) (by simp; omega)).mono (fun e w' h => (⟨h.1, by
      have h9 := each_next (w := w) hK1 ht1 ht2 hg' hPo (fun b hb => ⟨(HG.out b hb).2.2.2.1, (HG.out b hb).2.2.2.2⟩) h.2
      rw [← told1] at h9
      exact h9⟩ : e = .returned (.tuple #[]) ∧ ETo S I w g cap pre (toldK L (true, s) l r pre 1) K w')))
     have HRR := toHid hr
     rw [List.length_append] at H1
     unfold slV at HRR H1
     unfold bitV bI at HRR
     simp only [List.length_cons, List.length_nil, Nat.zero_add, ↓reduceIte, Bool.false_eq_true] at HRR H1
     clear hr hP2 hPo ht2 hg' hrd hI1 hK1 hR1 ht1
     rw [ptr_ad l] at H1
     generalize hsg : (g'.map fun b => (⟨b, 0, none⟩ : Addr)) = sg' at *
     rw [HG0.out] at HRR
     clear hsg
     go_wp2_with (at_builtin; refine Lib.wpList_append_run _ rfl _ _ _ _ rfl _ _ rfl rfl _ _ HRR.out ?_)
     refine Calls.mono H1.out ?_
     rintro e w3 ⟨rfl, hE⟩
     have HN := toHid hE
     clear hE H1 HRR
     go_wp2
     go_roundw
     case rel => exact ⟨1, by omega, rfl, HN⟩
     case measure => simp [intOf]
    ·obtain ⟨K1, hI1, hK1, hR1, ht1⟩ := HI.out
     obtain ⟨g', cap', w2, hr, hP2, hPo, ht2, hg'⟩ := each_push hR1 true (by omega)
     have hrd := each_ready hT hI1 hK1 ht1 ht2 hg' HTT.out.2.1 (fun b hb => ⟨(HG.out b hb).2.1, (HG.out b hb).2.2⟩) (fun x hx => (HSS.out x hx).2.1) (fun x hx => (HSS.out x hx).2.2)
     have H1 := toHid ((HIR.out w2 g' cap' (pre ++ [true]) (toldK L (true, s) l r pre 1) K1 hrd.1 HOK.out.2 hrd.2.1 hP2 hrd.2.2 (fun x hx => (HSS.out x hx).2.1) (fun x hx => by have := (HSS.out x hx).2.2; have := ht1.size; have := ht2.size; omega) (by simp; omega)).mono (fun e w' h => (⟨h.1, by
      have h9 := each_next (w := w) hK1 ht1 ht2 hg' hPo (fun b hb => ⟨(HG.out b hb).2.2.2.1, (HG.out b hb).2.2.2.2⟩) h.2
      rw [← told2] at h9
      exact h9⟩ : e = .returned (.tuple #[]) ∧ ETo S I w g cap pre (toldK L (true, s) l r pre 2) K w')))
     have HRR := toHid hr
     rw [List.length_append] at H1
     unfold slV at HRR H1
     unfold bitV bI at HRR
     simp only [List.length_cons, List.length_nil, Nat.zero_add, ↓reduceIte] at HRR H1
     clear hr hP2 hPo ht2 hg' hrd hI1 hK1 hR1 ht1
     rw [ptr_ad r] at H1
     generalize hsg : (g'.map fun b => (⟨b, 0, none⟩ : Addr)) = sg' at *
     rw [HG0.out] at HRR
     clear hsg
     go_wp2_with (at_builtin; refine Lib.wpList_append_run _ rfl _ _ _ _ rfl _ _ rfl rfl _ _ HRR.out ?_)
     refine Calls.mono H1.out ?_
     rintro e w3 ⟨rfl, hE⟩
     have HN := toHid hE
     clear hE H1 HRR
     go_wp2
     go_roundw
     case rel => exact ⟨2, by omega, rfl, HN⟩
     case measure => simp [intOf]
    ·have HF : Hid (ETo S I w g cap pre (L ++ allT (.node b 0 (true, s) l r) pre) K wr) := by
      have := HI.out
      rw [toldE L b 0] at this
      exact this
     go_wp2
     exact bodyPost_ret (v := .tuple #[]) (by simp [results, Tryz.results153]) rfl ⟨rfl, HF.out⟩
theorem each_keys (xb tb : Nat) {S : List Nat} {ok : List Bool → Nat → Prop} {I : List (List Bool × Nat) → List Nat → World → Prop}
  (hT : Teller S ok I (fun a b w Q => Calls Tryz.prog 154 #[a, b, .pointer (some ⟨xb, 0, none⟩), .pointer (some ⟨tb, 0, none⟩)] w Q)) : ∀ (T : Tr) (w : World) (g : Option Nat) (cap : Nat) (pre : List Bool) (L : List (List Bool × Nat)) (K : List Nat), TrAt w T → (∀ x ∈ allT T pre, ok x.1 x.2) → I L K w → PRow w g cap pre →
   (∀ b, g = some b → b ∉ bsT T ∧ b ∉ K ∧ b ∉ S) → (∀ x ∈ S, x ∉ bsT T) → (∀ x ∈ S, x < w.heap.size) → pre.length + depT T ≤ 200 →
   Calls Tryz.prog 153 #[T.ptr, slV g pre.length cap, .func (.func 154) #[] #[.pointer (some ⟨xb, 0, none⟩), .pointer (some ⟨tb, 0, none⟩)]] w (EPost S I w g cap pre (L ++ allT T pre) K) := by
 intro T
 induction T with
 | nil =>
  intro w g cap pre L K hA hok hI hP hg hS _ hd
  show Calls Tryz.prog 153 #[.pointer none, slV g pre.length cap, .func (.func 154) #[] #[.pointer (some ⟨xb, 0, none⟩), .pointer (some ⟨tb, 0, none⟩)]] w _
  have HF : Hid (ETo S I w g cap pre (L ++ allT .nil pre) K w) := ⟨K, by simpa [allT] using hI, fun x hx => Or.inl hx, hP, Touch.refl _ _⟩
  clear hA hok hI hP hg hS hd hT
  unfold slV
  generalize (g.map fun b => (⟨b, 0, none⟩ : Addr)) = sg
  go_enter Tryz.func153, Tryz.ntmps153
  go_wp2
  exact bodyPost_ret (v := .tuple #[]) (by simp [results, Tryz.results153]) rfl ⟨rfl, HF.out⟩
 | node b o a l r ihl ihr =>
  intro w g cap pre L K hA hok hI hP hg hS hSw hd
  obtain ⟨rfl, hB, hAl, hAr⟩ := hA
  have hdl : depT (.node b 0 a l r) = 1 + max (depT l) (depT r) := rfl
  have c0 := hB.cell (i := 0) rfl
  have c1 := hB.cell (i := 1) rfl
  have c2 := hB.cell (i := 2) rfl
  have c3 := hB.cell (i := 3) rfl
  have hxa := idx82a
  have hxb := idx82b
  have HTT := toHid (And.intro hAl (And.intro hAr hB))
  have HG : Hid (∀ b, g = some b → b ∉ bsT l ∧ b ∉ bsT r ∧ b ∉ K ∧ b ∉ S ∧ b < w.heap.size) := fun b hb => by
   have h1 := hg b hb
   refine ⟨fun hx => h1.1 (by simp [bsT, hx]), fun hx => h1.1 (by simp [bsT, hx]), h1.2.1, h1.2.2, ?_⟩
   rw [hb] at hP
   exact hP.lt
  have HSS : Hid (∀ x ∈ S, x ∉ bsT l ∧ x ∉ bsT r ∧ x < w.heap.size) := fun x hx => ⟨fun hy => hS x hx (by simp [bsT, hy]), fun hy => hS x hx (by simp [bsT, hy]), hSw x hx⟩
  have HBS : Hid (b ∉ S) := fun hx => hS b hx (by simp [bsT])
  have HBG : Hid (∀ x, g = some x → b ≠ x) := fun x hx e => (hg x hx).1 (by simp [bsT, e])
  have HOK : Hid ((∀ x ∈ allT l (pre ++ [false]), ok x.1 x.2) ∧ (∀ x ∈ allT r (pre ++ [true]), ok x.1 x.2)) := ⟨fun x hx => hok x (by simp [allT, hx]), fun x hx => hok x (by simp [allT, hx])⟩
  have HIL := toHid ihl
  have HIR := toHid ihr
  rw [ptr_ad l] at c0
  rw [ptr_ad r] at c1
  have HPI := toHid (And.intro hI hP)
  show Calls Tryz.prog 153 #[.pointer (some ⟨b, 0, none⟩), slV g pre.length cap, .func (.func 154) #[] #[.pointer (some ⟨xb, 0, none⟩), .pointer (some ⟨tb, 0, none⟩)]] w _
  unfold slV
  have HG0 : Hid (∃ sg, (g.map fun b => (⟨b, 0, none⟩ : Addr)) = sg) := ⟨_, rfl⟩
  generalize hsg0 : (g.map fun b => (⟨b, 0, none⟩ : Addr)) = sg at *
  clear HG0
  have HG0 := toHid hsg0
  obtain ⟨hb, s⟩ := a
  cases hb with
  | false =>
   have HI0 : Hid (ETo S I w g cap pre (toldK L (false, s) l r pre 0) K w) := by
    rw [told0]
    exact ⟨K, by simpa using HPI.out.1, fun x hx => Or.inl hx, HPI.out.2, Touch.refl _ _⟩
   clear hB hAl hAr hok hI hP hg hS hsg0 ihl ihr hSw
   go_enter Tryz.func153, Tryz.ntmps153
   go_wp2_with fail
   clear c0 c1 c2 c3
   go_loopw [25] (fun t wr => ∃ k : Nat, k ≤ 2 ∧ t = .int .i64 k ∧ Hid (ETo S I w g cap pre (toldK L (false, s) l r pre k) K wr)) (fun t _ => 2 - (intOf t).toNat)
   case atStart => exact ⟨0, by omega, rfl, HI0⟩
   case round =>
    clear HI0
    obtain ⟨k, hk, rfl, HI⟩ := hrel
    have : k = 0 ∨ k = 1 ∨ k = 2 := by omega
    rcases this with rfl | rfl | rfl
    ·obtain ⟨K1, hI1, hK1, hR1, ht1⟩ := HI.out
     obtain ⟨g', cap', w2, hr, hP2, hPo, ht2, hg'⟩ := each_push hR1 false (by omega)
     have hrd := each_ready hT hI1 hK1 ht1 ht2 hg' HTT.out.1 (fun b hb => ⟨(HG.out b hb).1, (HG.out b hb).2.2⟩) (fun x hx => (HSS.out x hx).1) (fun x hx => (HSS.out x hx).2.2)
     have H1 := toHid ((HIL.out w2 g' cap' (pre ++ [false]) (toldK L (false, s) l r pre 0) K1 hrd.1 HOK.out.1 hrd.2.1 hP2 hrd.2.2 (fun x hx => (HSS.out x hx).1) (fun x hx => by have := (HSS.out x hx).2.2; have := ht1.size; have := ht2.size; omega) (by simp; omega)).mono (fun e w' h => (⟨h.1, by
      have h9 := each_next (w := w) hK1 ht1 ht2 hg' hPo (fun b hb => ⟨(HG.out b hb).2.2.2.1, (HG.out b hb).2.2.2.2⟩) h.2
      rw [← told1] at h9
      exact h9⟩ : e = .returned (.tuple #[]) ∧ ETo S I w g cap pre (toldK L (false, s) l r pre 1) K w')))
     have HRR := toHid hr
     rw [List.length_append] at H1
     unfold slV at HRR H1
     unfold bitV bI at HRR
     simp only [List.length_cons, List.length_nil, Nat.zero_add, ↓reduceIte, Bool.false_eq_true] at HRR H1
     clear hr hP2 hPo ht2 hg' hrd hI1 hK1 hR1 ht1
     rw [ptr_ad l] at H1
     generalize hsg : (g'.map fun b => (⟨b, 0, none⟩ : Addr)) = sg' at *
     rw [HG0.out] at HRR
     clear hsg
     go_wp2_with (at_builtin; refine Lib.wpList_append_run _ rfl _ _ _ _ rfl _ _ rfl rfl _ _ HRR.out ?_)
     refine Calls.mono H1.out ?_
     rintro e w3 ⟨rfl, hE⟩
     have HN := toHid hE
     clear hE H1 HRR
     go_wp2
     go_roundw
     case rel => exact ⟨1, by omega, rfl, HN⟩
     case measure => simp [intOf]
    ·obtain ⟨K1, hI1, hK1, hR1, ht1⟩ := HI.out
     obtain ⟨g', cap', w2, hr, hP2, hPo, ht2, hg'⟩ := each_push hR1 true (by omega)
     have hrd := each_ready hT hI1 hK1 ht1 ht2 hg' HTT.out.2.1 (fun b hb => ⟨(HG.out b hb).2.1, (HG.out b hb).2.2⟩) (fun x hx => (HSS.out x hx).2.1) (fun x hx => (HSS.out x hx).2.2)
     have H1 := toHid ((HIR.out w2 g' cap' (pre ++ [true]) (toldK L (false, s) l r pre 1) K1 hrd.1 HOK.out.2 hrd.2.1 hP2 hrd.2.2 (fun x hx => (HSS.out x hx).2.1) (fun x hx => by have := (HSS.out x hx).2.2; have := ht1.size; have := ht2.size; omega) (by simp; omega)).mono (fun e w' h => (⟨h.1, by
      have h9 := each_next (w := w) hK1 ht1 ht2 hg' hPo (fun b hb => ⟨(HG.out b hb).2.2.2.1, (HG.out b hb).2.2.2.2⟩) h.2
      rw [← told2] at h9
      exact h9⟩ : e = .returned (.tuple #[]) ∧ ETo S I w g cap pre (toldK L (false, s) l r pre 2) K w')))
     have HRR := toHid hr
     rw [List.length_append] at H1
     unfold slV at HRR H1
     unfold bitV bI at HRR
     simp only [List.length_cons, List.length_nil, Nat.zero_add, ↓reduceIte] at HRR H1
     clear hr hP2 hPo ht2 hg' hrd hI1 hK1 hR1 ht1
     rw [ptr_ad r] at H1
     generalize hsg : (g'.map fun b => (⟨b, 0, none⟩ : Addr)) = sg' at *
     rw [HG0.out] at HRR
     clear hsg
     go_wp2_with (at_builtin; refine Lib.wpList_append_run _ rfl _ _ _ _ rfl _ _ rfl rfl _ _ HRR.out ?_)
     refine Calls.mono H1.out ?_
     rintro e w3 ⟨rfl, hE⟩
     have HN := toHid hE
     clear hE H1 HRR
     go_wp2
     go_roundw
     case rel => exact ⟨2, by omega, rfl, HN⟩
     case measure => simp [intOf]
    ·have HF : Hid (ETo S I w g cap pre (L ++ allT (.node b 0 (false, s) l r) pre) K wr) := by
      have := HI.out
      rw [toldE L b 0] at this
      exact this
     go_wp2
     exact bodyPost_ret (v := .tuple #[]) (by simp [results, Tryz.results153]) rfl ⟨rfl, HF.out⟩
  | true =>
   have hcl := hT.call L K pre s sg cap w hI (by rw [← hsg0]; exact hP.path (by omega)) (hok (pre, s) (by simp [allT]))
   have H0 := toHid hcl
   clear hcl hB hAl hAr hok hI hP hg hS hsg0 ihl ihr hSw
   go_enter Tryz.func153, Tryz.ntmps153
   go_wp2_with fail
   refine Calls.mono H0.out ?_
   rintro e w1 ⟨rfl, K1, hI1, hK1, ht1⟩
   have hB1 := ht1.blk HTT.out.2.2 HBS.out
   have d0 := hB1.cell (i := 0) rfl
   have d1 := hB1.cell (i := 1) rfl
   rw [ptr_ad l] at d0
   rw [ptr_ad r] at d1
   have HI0 : Hid (ETo S I w g cap pre (toldK L (true, s) l r pre 0) K w1) := by
    rw [told0]
    exact ⟨K1, hI1, hK1, RowAt.touch HPI.out.2 ht1 (fun x hx => (HG.out x hx).2.2.2.1), ht1.mono (fun x hx => Or.inl (List.mem_append_left _ hx))⟩
   clear hI1 hK1 ht1 hB1 H0
   go_wp2_with fail
   clear c0 c1 c2 c3 d0 d1
   go_loopw [25] (fun t wr => ∃ k : Nat, k ≤ 2 ∧ t = .int .i64 k ∧ Hid (ETo S I w g cap pre (toldK L (true, s) l r pre k) K wr)) (fun t _ => 2 - (intOf t).toNat)
   case atStart => exact ⟨0, by omega, rfl, HI0⟩
   case round =>
    clear HI0
    obtain ⟨k, hk, rfl, HI⟩ := hrel
    have : k = 0 ∨ k = 1 ∨ k = 2 := by omega
    rcases this with rfl | rfl | rfl
    ·obtain ⟨K1, hI1, hK1, hR1, ht1⟩ := HI.out
     obtain ⟨g', cap', w2, hr, hP2, hPo, ht2, hg'⟩ := each_push hR1 false (by omega)
     have hrd := each_ready hT hI1 hK1 ht1 ht2 hg' HTT.out.1 (fun b hb => ⟨(HG.out b hb).1, (HG.out b hb).2.2⟩) (fun x hx => (HSS.out x hx).1) (fun x hx => (HSS.out x hx).2.2)
     have H1 := toHid ((HIL.out w2 g' cap' (pre ++ [false]) (toldK L (true, s) l r pre 0) K1 hrd.1 HOK.out.1 hrd.2.1 hP2 hrd.2.2 (fun x hx => (HSS.out x hx).1) (fun x hx => by have := (HSS.out x hx).2.2; have := ht1.size; have := ht2.size; omega) (by simp; omega)).mono (fun e w' h => (⟨h.1, by
      have h9 := each_next (w := w) hK1 ht1 ht2 hg' hPo (fun b hb => ⟨(HG.out b hb).2.2.2.1, (HG.out b hb).2.2.2.2⟩) h.2
      rw [← told1] at h9
      exact h9⟩ : e = .returned (.tuple #[]) ∧ ETo S I w g cap pre (toldK L (true, s) l r pre 1) K w')))
     have HRR := toHid hr
     rw [List.length_append] at H1
     unfold slV at HRR H1
     unfold bitV bI at HRR
     simp only [List.length_cons, List.length_nil, Nat.zero_add, ↓reduceIte, Bool.false_eq_true] at HRR H1
     clear hr hP2 hPo ht2 hg' hrd hI1 hK1 hR1 ht1
     rw [ptr_ad l] at H1
     generalize hsg : (g'.map fun b => (⟨b, 0, none⟩ : Addr)) = sg' at *
     rw [HG0.out] at HRR
     clear hsg
     go_wp2_with (at_builtin; refine Lib.wpList_append_run _ rfl _ _ _ _ rfl _ _ rfl rfl _ _ HRR.out ?_)
     refine Calls.mono H1.out ?_
     rintro e w3 ⟨rfl, hE⟩
     have HN := toHid hE
     clear hE H1 HRR
     go_wp2
     go_roundw
     case rel => exact ⟨1, by omega, rfl, HN⟩
     case measure => simp [intOf]
    ·obtain ⟨K1, hI1, hK1, hR1, ht1⟩ := HI.out
     obtain ⟨g', cap', w2, hr, hP2, hPo, ht2, hg'⟩ := each_push hR1 true (by omega)
     have hrd := each_ready hT hI1 hK1 ht1 ht2 hg' HTT.out.2.1 (fun b hb => ⟨(HG.out b hb).2.1, (HG.out b hb).2.2⟩) (fun x hx => (HSS.out x hx).2.1) (fun x hx => (HSS.out x hx).2.2)
     have H1 := toHid ((HIR.out w2 g' cap' (pre ++ [true]) (toldK L (true, s) l r pre 1) K1 hrd.1 HOK.out.2 hrd.2.1 hP2 hrd.2.2 (fun x hx => (HSS.out x hx).2.1) (fun x hx => by have := (HSS.out x hx).2.2; have := ht1.size; have := ht2.size; omega) (by simp; omega)).mono (fun e w' h => (⟨h.1, by
      have h9 := each_next (w := w) hK1 ht1 ht2 hg' hPo (fun b hb => ⟨(HG.out b hb).2.2.2.1, (HG.out b hb).2.2.2.2⟩) h.2
      rw [← told2] at h9
      exact h9⟩ : e = .returned (.tuple #[]) ∧ ETo S I w g cap pre (toldK L (true, s) l r pre 2) K w')))
     have HRR := toHid hr
     rw [List.length_append] at H1
     unfold slV at HRR H1
     unfold bitV bI at HRR
     simp only [List.length_cons, List.length_nil, Nat.zero_add, ↓reduceIte] at HRR H1
     clear hr hP2 hPo ht2 hg' hrd hI1 hK1 hR1 ht1
     rw [ptr_ad r] at H1
     generalize hsg : (g'.map fun b => (⟨b, 0, none⟩ : Addr)) = sg' at *
     rw [HG0.out] at HRR
     clear hsg
     go_wp2_with (at_builtin; refine Lib.wpList_append_run _ rfl _ _ _ _ rfl _ _ rfl rfl _ _ HRR.out ?_)
     refine Calls.mono H1.out ?_
     rintro e w3 ⟨rfl, hE⟩
     have HN := toHid hE
     clear hE H1 HRR
     go_wp2
     go_roundw
     case rel => exact ⟨2, by omega, rfl, HN⟩
     case measure => simp [intOf]
    ·have HF : Hid (ETo S I w g cap pre (L ++ allT (.node b 0 (true, s) l r) pre) K wr) := by
      have := HI.out
      rw [toldE L b 0] at this
      exact this
     go_wp2
     exact bodyPost_ret (v := .tuple #[]) (by simp [results, Tryz.results153]) rfl ⟨rfl, HF.out⟩
end Go.Proofs.YtmhhahmjkopjhaaGreat.Lpm
end
section
namespace Go.Proofs.YtmhhahmjkopjhaaGreat.Lpm
open Go.RowKit Go.Deep
structure TiedT (n : Nat) (T : Tr) (l : List (Option (List Int))) : Prop where
 at_ : ∀ p s, atT T p = some s ↔ p.length ≤ 8 * n ∧ l[s]? = some (some (keyP p n))
 form : ∀ bs, some bs ∈ l → ∃ p : List Bool, p.length ≤ 8 * n ∧ bs = keyP p n
theorem TiedT.lt {n : Nat} {T : Tr} {l : List (Option (List Int))} (h : TiedT n T l) {p : List Bool} {s : Nat} (hs : atT T p = some s) : s < l.length := by
 have := ((h.at_ p s).1 hs).2
 exact (List.getElem?_eq_some_iff.1 this).1
theorem TiedT.len {n : Nat} {T : Tr} {l : List (Option (List Int))} (h : TiedT n T l) {p : List Bool} {s : Nat} (hs : atT T p = some s) : p.length ≤ 8 * n := ((h.at_ p s).1 hs).1
theorem TiedT.start (n m : Nat) : TiedT n .nil (List.replicate m none) := by
 refine ⟨fun p s => ?_, fun bs hb => ?_⟩
 ·simp only [atT, reduceCtorEq, false_iff, not_and]
  intro _ h
  rw [List.getElem?_replicate] at h
  split at h
  ·cases h
  ·cases h
 ·rw [List.mem_replicate] at hb
  cases hb.2
theorem TiedT.same {n : Nat} {T : Tr} {l : List (Option (List Int))} (h : TiedT n T l) (_hn : n ≤ 100) {p : List Bool} (hp : p.length ≤ 8 * n) : sameP l (keyP p n) = atT T p := by
 cases ha : atT T p with
 | none =>
  unfold sameP
  rw [List.findIdx?_eq_none_iff]
  intro x hx
  obtain ⟨j, hj, rfl⟩ := List.getElem_of_mem hx
  by_cases he : l[j] = some (keyP p n)
  ·have := (h.at_ p j).2 ⟨hp, by rw [List.getElem?_eq_getElem hj, he]⟩
   rw [ha] at this
   cases this
  ·simpa using he
 | some s =>
  have hs := ((h.at_ p s).1 ha).2
  unfold sameP
  rw [List.findIdx?_eq_some_iff_getElem]
  obtain ⟨hlt, hv⟩ := List.getElem?_eq_some_iff.1 hs
  refine ⟨hlt, by rw [hv]; simp, fun j hj => ?_⟩
  have hjl : j < l.length := by omega
  by_cases he : l[j]'hjl = some (keyP p n)
  ·have := (h.at_ p j).2 ⟨hp, by rw [List.getElem?_eq_getElem hjl, he]⟩
   rw [ha] at this
   injection this with this
   omega
  ·simpa using he
theorem TiedT.put {n : Nat} {T T' : Tr} {l : List (Option (List Int))} (h : TiedT n T l) (hn : n ≤ 100) {p : List Bool} (hp : p.length ≤ 8 * n) (ha : atT T p = none) {f : Nat} (hf : l[f]? = some none)
  (hT : ∀ q, atT T' q = if q = p then some f else atT T q) : TiedT n T' (l.set f (some (keyP p n))) := by
 have hfl : f < l.length := (List.getElem?_eq_some_iff.1 hf).1
 refine ⟨fun q s => ?_, fun bs hb => ?_⟩
 ·rw [hT q, List.getElem?_set]
  by_cases hq : q = p
  ·rw [if_pos hq, hq]
   by_cases hs : f = s
   ·rw [if_pos hs, if_pos hfl, hs]
    exact ⟨fun _ => ⟨hp, rfl⟩, fun _ => rfl⟩
   ·rw [if_neg hs]
    refine ⟨fun e => by injection e with e; exact absurd e hs, fun e => ?_⟩
    have := (h.at_ p s).2 e
    rw [ha] at this
    cases this
  ·rw [if_neg hq]
   by_cases hs : f = s
   ·rw [if_pos hs, if_pos hfl]
    refine ⟨fun e => ?_, fun e => ?_⟩
    ·have := ((h.at_ q s).1 e).2
     rw [← hs, hf] at this
     cases this
    ·obtain ⟨e1, e2⟩ := e
     injection e2 with e2
     injection e2 with e2
     exact absurd (keyP_inj hp e1 hn e2).symm hq
   ·rw [if_neg hs]
    exact h.at_ q s
 ·rcases List.mem_or_eq_of_mem_set hb with hb | hb
  ·exact h.form bs hb
  ·injection hb with hb
   exact ⟨p, hp, hb⟩
theorem TiedT.inj {n : Nat} {T : Tr} {l : List (Option (List Int))} (h : TiedT n T l) (hn : n ≤ 100) {p q : List Bool} {s : Nat} (hp : atT T p = some s) (hq : atT T q = some s) : p = q := by
 obtain ⟨a1, a2⟩ := (h.at_ p s).1 hp
 obtain ⟨b1, b2⟩ := (h.at_ q s).1 hq
 rw [a2] at b2
 injection b2 with b2
 injection b2 with b2
 exact keyP_inj a1 b1 hn b2
theorem TiedT.del {n : Nat} {T T' : Tr} {l : List (Option (List Int))} (h : TiedT n T l) (hn : n ≤ 100) {p : List Bool} {f : Nat} (ha : atT T p = some f)
  (hT : ∀ q, atT T' q = if q = p then none else atT T q) : TiedT n T' (l.set f none) := by
 have hfl : f < l.length := h.lt ha
 refine ⟨fun q s => ?_, fun bs hb => ?_⟩
 ·rw [hT q, List.getElem?_set]
  by_cases hq : q = p
  ·rw [if_pos hq, hq]
   by_cases hs : f = s
   ·rw [if_pos hs, if_pos hfl]
    exact ⟨fun e => (by cases e), fun e => (by cases e.2)⟩
   ·rw [if_neg hs]
    refine ⟨fun e => (by cases e), fun e => ?_⟩
    have := (h.at_ p s).2 e
    rw [ha] at this
    injection this with this
    exact absurd this hs
  ·rw [if_neg hq]
   by_cases hs : f = s
   ·rw [if_pos hs, if_pos hfl]
    refine ⟨fun e => ?_, fun e => (by cases e.2)⟩
    rw [← hs] at e
    exact absurd (h.inj hn e ha) hq
   ·rw [if_neg hs]
    exact h.at_ q s
 ·rcases List.mem_or_eq_of_mem_set hb with hb | hb
  ·exact h.form bs hb
  ·cases hb
theorem longT_get : ∀ (p : List Bool) (T : Tr), (longT T p = none ∧ ∀ j, atT T (p.take j) = none) ∨ (∃ s k, longT T p = some s ∧ k ≤ p.length ∧ atT T (p.take k) = some s ∧ ∀ j, k < j → j ≤ p.length → atT T (p.take j) = none)
 | [], .nil => Or.inl ⟨rfl, fun _ => by simp [atT]⟩
 | c :: p, .nil => Or.inl ⟨rfl, fun _ => rfl⟩
 | [], .node b o a l r => by
  cases ha : heldT a with
  | none => exact Or.inl ⟨ha, fun j => by simpa [atT] using ha⟩
  | some s => exact Or.inr ⟨s, 0, ha, Nat.le_refl _, by simpa [atT] using ha, fun j h1 h2 => by simp at h2; omega⟩
 | c :: p, .node b o a l r => by
  have key : ∀ C : Tr, (∀ q, atT (.node b o a l r) (c :: q) = atT C q) → longT (.node b o a l r) (c :: p) = (longT C p).or (heldT a) →
    (longT (.node b o a l r) (c :: p) = none ∧ ∀ j, atT (.node b o a l r) ((c :: p).take j) = none) ∨ (∃ s k, longT (.node b o a l r) (c :: p) = some s ∧ k ≤ (c :: p).length ∧ atT (.node b o a l r) ((c :: p).take k) = some s ∧ ∀ j, k < j → j ≤ (c :: p).length → atT (.node b o a l r) ((c :: p).take j) = none) := by
   intro C hC hL
   have h0 : atT (.node b o a l r) [] = heldT a := rfl
   rcases longT_get p C with ⟨h1, h2⟩ | ⟨s, k, h1, h2, h3, h4⟩
   ·rw [h1, Option.none_or] at hL
    cases ha : heldT a with
    | none =>
     refine Or.inl ⟨by rw [hL, ha], fun j => ?_⟩
     cases j with
     | zero => exact ha
     | succ j => rw [List.take_succ_cons, hC]; exact h2 j
    | some s =>
     refine Or.inr ⟨s, 0, by rw [hL, ha], Nat.zero_le _, ha, fun j h5 h6 => ?_⟩
     obtain ⟨i, rfl⟩ : ∃ i, j = i + 1 := ⟨j - 1, by omega⟩
     rw [List.take_succ_cons, hC]
     exact h2 i
   ·rw [h1, Option.some_or] at hL
    refine Or.inr ⟨s, k + 1, hL, by simp; omega, by rw [List.take_succ_cons, hC]; exact h3, fun j h5 h6 => ?_⟩
    obtain ⟨i, rfl⟩ : ∃ i, j = i + 1 := ⟨j - 1, by omega⟩
    rw [List.take_succ_cons, hC]
    exact h4 i (by omega) (by simp at h6; omega)
  cases c with
  | false => exact key l (fun _ => rfl) rfl
  | true => exact key r (fun _ => rfl) rfl
def Begins (n : Nat) (l : List (Option (List Int))) (bs : List Int) (i : Nat) (p : List Bool) : Prop := p.length ≤ 8 * n ∧ l[i]? = some (some (keyP p n)) ∧ p.length ≤ (keyNum bs).toNat ∧ p = (pathP bs).take p.length
theorem longTo_get {n : Nat} {T : Tr} {l : List (Option (List Int))} (h : TiedT n T l) (hn : n ≤ 100) {bs : List Int} (hl : bs.length = n + 4) (hb : ∀ x ∈ bs, 0 ≤ x ∧ x ≤ 255) (hk : keyNum bs ≤ 8 * (n : Int)) :
  ∀ k, k ≤ l.length → (longTo l bs k = none ∧ ∀ i p, i < k → ¬ Begins n l bs i p) ∨ (∃ s p, longTo l bs k = some s ∧ s < k ∧ Begins n l bs s p ∧ ∀ i q, i < k → Begins n l bs i q → q.length ≤ p.length)
 | 0, _ => Or.inl ⟨rfl, fun i p hi => by omega⟩
 | k + 1, hkl => by
  have hkb := keyNum_bd hb
  have hlt : k < l.length := by omega
  have hst : longTo l bs (k + 1) = longStep l bs (longTo l bs k) k := rfl
  have hgk : l.getD k none = l[k] := by rw [List.getD_eq_getElem?_getD, List.getElem?_eq_getElem hlt]; rfl
  have ih := longTo_get h hn hl hb hk k (by omega)
  cases hv : l[k] with
  | none =>
   have hs : longTo l bs (k + 1) = longTo l bs k := by
    rw [hst]
    unfold longStep
    rw [hgk, hv]
    exact if_pos rfl
   have hno : ∀ p, ¬ Begins n l bs k p := fun p hp => by
    have := hp.2.1
    rw [List.getElem?_eq_getElem hlt, hv] at this
    cases this
   rw [hs]
   rcases ih with ⟨h1, h2⟩ | ⟨s, p, h1, h2, h3, h4⟩
   ·refine Or.inl ⟨h1, fun i p hi hp => ?_⟩
    by_cases e : i = k
    ·exact hno p (e ▸ hp)
    ·exact h2 i p (by omega) hp
   ·refine Or.inr ⟨s, p, h1, by omega, h3, fun i q hi hq => ?_⟩
    by_cases e : i = k
    ·exact absurd (e ▸ hq) (hno q)
    ·exact h4 i q (by omega) hq
  | some y =>
   obtain ⟨p, hp, rfl⟩ := h.form y (by rw [← hv]; exact List.getElem_mem hlt)
   have hky : keyNum (keyP p n) = p.length := keyNum_key p n (by omega)
   have hvk : l[k]? = some (some (keyP p n)) := by rw [List.getElem?_eq_getElem hlt, hv]
   have huni : ∀ q, Begins n l bs k q → q = p := fun q hq => by
    have := hq.2.1
    rw [hvk] at this
    injection this with this
    injection this with this
    exact (keyP_inj hp hq.1 hn this).symm
   by_cases hlong : keyNum bs < keyNum (keyP p n)
   ·have hs : longTo l bs (k + 1) = longTo l bs k := by
     rw [hst]
     unfold longStep
     rw [hgk, hv, if_pos (by simp [skipP, hlong])]
    have hno : ∀ q, ¬ Begins n l bs k q := fun q hq => by
     have := huni q hq
     subst this
     have := hq.2.2.1
     omega
    rw [hs]
    rcases ih with ⟨h1, h2⟩ | ⟨s, p', h1, h2, h3, h4⟩
    ·refine Or.inl ⟨h1, fun i q hi hq => ?_⟩
     by_cases e : i = k
     ·exact hno q (e ▸ hq)
     ·exact h2 i q (by omega) hq
    ·refine Or.inr ⟨s, p', h1, by omega, h3, fun i q hi hq => ?_⟩
     by_cases e : i = k
     ·exact absurd (e ▸ hq) (hno q)
     ·exact h4 i q (by omega) hq
   ·have hpl : p.length ≤ (keyNum bs).toNat := by omega
    have hbeg := begins_iff hl hb hpl hn hk
    rcases ih with ⟨h1, h2⟩ | ⟨s, p', h1, h2, h3, h4⟩
    ·have hsk : skipP l bs none (some (keyP p n)) = false := by simp [skipP]; omega
     by_cases hc : cutP ((keyP p n).take 4 ++ bs.drop 4) = keyP p n
     ·have hs : longTo l bs (k + 1) = some k := by
       rw [hst, h1]
       unfold longStep
       rw [hgk, hv, if_neg (by rw [hsk]; decide)]
       exact if_pos hc
      refine Or.inr ⟨k, p, hs, by omega, ⟨hp, hvk, hpl, hbeg.1 hc⟩, fun i q hi hq => ?_⟩
      by_cases e : i = k
      ·rw [huni q (e ▸ hq)]; exact Nat.le_refl _
      ·exact absurd hq (h2 i q (by omega))
     ·have hs : longTo l bs (k + 1) = none := by
       rw [hst, h1]
       unfold longStep
       rw [hgk, hv, if_neg (by rw [hsk]; decide)]
       exact if_neg hc
      refine Or.inl ⟨hs, fun i q hi hq => ?_⟩
      by_cases e : i = k
      ·have e2 := huni q (e ▸ hq)
       subst e2
       exact hc (hbeg.2 hq.2.2.2)
      ·exact h2 i q (by omega) hq
    ·have hgs : (l.getD s none).getD [] = keyP p' n := by
      rw [List.getD_eq_getElem?_getD, h3.2.1]
      rfl
     have hks : keyNum (keyP p' n) = p'.length := keyNum_key p' n (by have := h3.1; omega)
     have hskv : skipP l bs (some s) (some (keyP p n)) = decide (p.length ≤ p'.length) := by
      simp only [skipP, hgs, hky, hks]
      rw [decide_eq_false (by omega), Bool.false_or]
      by_cases e : p.length ≤ p'.length
      ·rw [decide_eq_true e, decide_eq_true (by omega)]
      ·rw [decide_eq_false e, decide_eq_false (by omega)]
     by_cases hle : p.length ≤ p'.length
     ·have hs : longTo l bs (k + 1) = some s := by
       rw [hst, h1]
       unfold longStep
       rw [hgk, hv, if_pos (by rw [hskv]; exact decide_eq_true hle)]
      refine Or.inr ⟨s, p', hs, by omega, h3, fun i q hi hq => ?_⟩
      by_cases e : i = k
      ·rw [huni q (e ▸ hq)]; exact hle
      ·exact h4 i q (by omega) hq
     ·by_cases hc : cutP ((keyP p n).take 4 ++ bs.drop 4) = keyP p n
      ·have hs : longTo l bs (k + 1) = some k := by
        rw [hst, h1]
        unfold longStep
        rw [hgk, hv, if_neg (by rw [hskv, decide_eq_false hle]; decide)]
        exact if_pos hc
       refine Or.inr ⟨k, p, hs, by omega, ⟨hp, hvk, hpl, hbeg.1 hc⟩, fun i q hi hq => ?_⟩
       by_cases e : i = k
       ·rw [huni q (e ▸ hq)]; exact Nat.le_refl _
       ·have := h4 i q (by omega) hq
        omega
      ·have hs : longTo l bs (k + 1) = some s := by
        rw [hst, h1]
        unfold longStep
        rw [hgk, hv, if_neg (by rw [hskv, decide_eq_false hle]; decide)]
        exact if_neg hc
       refine Or.inr ⟨s, p', hs, by omega, h3, fun i q hi hq => ?_⟩
       by_cases e : i = k
       ·have e2 := huni q (e ▸ hq)
        subst e2
        exact absurd (hbeg.2 hq.2.2.2) hc
       ·exact h4 i q (by omega) hq
theorem long_eq {n : Nat} {T : Tr} {l : List (Option (List Int))} (h : TiedT n T l) (hn : n ≤ 100) {bs : List Int} (hl : bs.length = n + 4) (hb : ∀ x ∈ bs, 0 ≤ x ∧ x ≤ 255) (hk : keyNum bs ≤ 8 * (n : Int)) :
  longTo l bs l.length = longT T (pathP bs) := by
 have hpl := pathP_len bs
 have htk : ∀ k, k ≤ (pathP bs).length → ((pathP bs).take k).length = k := fun k hk => by rw [List.length_take]; omega
 rcases longT_get (pathP bs) T with ⟨h1, h2⟩ | ⟨s, k, h1, h2, h3, h4⟩
 ·rw [h1]
  rcases longTo_get h hn hl hb hk l.length (Nat.le_refl _) with ⟨q1, _⟩ | ⟨s, p, q1, _, q3, _⟩
  ·exact q1
  ·have := (h.at_ p s).2 ⟨q3.1, q3.2.1⟩
   rw [q3.2.2.2, h2] at this
   cases this
 ·rw [h1]
  have hkey := (h.at_ _ s).1 h3
  have hbg : Begins n l bs s ((pathP bs).take k) := ⟨hkey.1, hkey.2, by rw [htk k h2]; omega, by rw [htk k h2]⟩
  rcases longTo_get h hn hl hb hk l.length (Nat.le_refl _) with ⟨_, q2⟩ | ⟨s', p, q1, _, q3, q4⟩
  ·exact absurd hbg (q2 s _ (h.lt h3))
  ·rw [q1]
   have hle := q4 s _ (h.lt h3) hbg
   rw [htk k h2] at hle
   have hat := (h.at_ p s').2 ⟨q3.1, q3.2.1⟩
   have hpk : p.length = k := by
    by_cases e : k < p.length
    ·have := h4 p.length e (by have := q3.2.2.1; omega)
     rw [← q3.2.2.2, hat] at this
     cases this
    ·omega
   rw [q3.2.2.2, hpk, h3] at hat
   injection hat with hat
   rw [hat]
end Go.Proofs.YtmhhahmjkopjhaaGreat.Lpm
end
section
namespace Go.Proofs.YtmhhahmjkopjhaaGreat.Lpm
open Go.RowKit Go.Deep
structure TX where
 X : Nat
 n : Nat
 m : Nat
 T : Tr
 l : List (Option (List Int))
structure IAt (w : World) (x : TX) : Prop where
 self : Blk w x.X [.int .i64 (x.n : Int), .int .i64 (x.m : Int), x.T.ptr] 187
 tree : TrAt w x.T
 ok : okT x.T
 nd : (bsT x.T).Nodup
 out : x.X ∉ bsT x.T
 dep : depT x.T ≤ 8 * x.n + 1
 n1 : 1 ≤ x.n
 n12 : x.n ≤ 12
 m1 : 1 ≤ x.m
 m64 : x.m ≤ 64
 len : x.l.length = x.m
 tied : TiedT x.n x.T x.l
def TX.own (x : TX) : List Nat := x.X :: bsT x.T
theorem IAt.touch {S : List Nat} {w w' : World} {x : TX} (h : IAt w x) (ht : Touch S w w') (hn : ∀ y ∈ x.own, y ∉ S) : IAt w' x :=
 ⟨ht.blk h.self (hn _ (by simp [TX.own])), h.tree.touch ht (fun y hy => hn y (by simp [TX.own, hy])), h.ok, h.nd, h.out, h.dep, h.n1, h.n12, h.m1, h.m64, h.len, h.tied⟩
theorem IAt.still {w w' : World} {x : TX} (h : IAt w x) (ht : Touch [] w w') : IAt w' x := h.touch ht (by simp)
theorem IAt.lt {w : World} {x : TX} (h : IAt w x) : ∀ y ∈ x.own, y < w.heap.size := fun y hy => by
 simp only [TX.own, List.mem_cons] at hy
 rcases hy with rfl | hy
 ·exact h.self.lt
 ·exact h.tree.lt y hy
theorem IAt.c0 {w : World} {x : TX} (h : IAt w x) : w.cell? ⟨x.X, 0, none⟩ = some (.int .i64 (x.n : Int)) := h.self.cell rfl
theorem IAt.c1 {w : World} {x : TX} (h : IAt w x) : w.cell? ⟨x.X, 1, none⟩ = some (.int .i64 (x.m : Int)) := h.self.cell rfl
theorem IAt.c2 {w : World} {x : TX} (h : IAt w x) : w.cell? ⟨x.X, 2, none⟩ = some (.pointer (adT x.T)) := by rw [← ptr_ad]; exact h.self.cell rfl
theorem IAt.slot {w : World} {x : TX} (h : IAt w x) {p : List Bool} {s : Nat} (hs : atT x.T p = some s) : s < 64 ∧ p.length ≤ 8 * x.n := by
 have h1 := h.tied.lt hs
 have h2 := h.len
 have h3 := h.m64
 exact ⟨by omega, h.tied.len hs⟩
def takenL (L : List (List Bool × Nat)) (i : Nat) : Bool := L.any fun x => x.2 == i
def takenRow (L : List (List Bool × Nat)) : List Value := (List.range 64).map fun i => .bool (takenL L i)
def FreeI (tb : Nat) (L : List (List Bool × Nat)) (K : List Nat) (w : World) : Prop := K = [tb] ∧ Blk w tb (takenRow L) 233
theorem taken_set (L : List (List Bool × Nat)) (pre : List Bool) {s : Nat} (hs : s < 64) : takenRow (L ++ [(pre, s)]) = (takenRow L).set s (.bool true) := by
 refine List.ext_getElem? fun i => ?_
 rw [List.getElem?_set]
 unfold takenRow
 rw [List.length_map, List.length_range, List.getElem?_map, List.getElem?_map]
 by_cases hi : s = i
 ·rw [if_pos hi, if_pos hs, ← hi, List.getElem?_range hs]
  simp [takenL]
 ·rw [if_neg hi]
  by_cases h64 : i < 64
  ·rw [List.getElem?_range h64]
   have : (s == i) = false := by simpa using hi
   simp [takenL, this]
  ·rw [List.getElem?_eq_none (by simpa using h64)]
   rfl
theorem taken_cell {w : World} {tb : Nat} {L : List (List Bool × Nat)} {t : TypeId} (h : Blk w tb (takenRow L) t) {s : Nat} (hs : s < 64) : w.cell? ⟨tb, s, none⟩ = some (.bool (takenL L s)) := by
 refine h.cell ?_
 unfold takenRow
 rw [List.getElem?_map, List.getElem?_range hs]
 rfl
theorem free_teller (tb : Nat) : Teller [tb] (fun _ s => s < 64) (FreeI tb) (fun a b w Q => Calls Tryz.prog 160 #[a, b, .pointer (some ⟨tb, 0, none⟩)] w Q) where
 call := by
  intro L K pre s sa cap w hI hP hs
  obtain ⟨rfl, hB⟩ := hI
  have hs : s < 64 := hs
  have c0 := taken_cell hB hs
  have f0 := hB.frozen s
  have hs2 : (s : Int) < 64 := by omega
  have HF : Hid (∃ K', FreeI tb (L ++ [(pre, s)]) K' (w.setCell ⟨tb, s, none⟩ (.bool true)) ∧ (∀ x ∈ K', x ∈ [tb] ∨ w.heap.size ≤ x) ∧ Touch [tb] w (w.setCell ⟨tb, s, none⟩ (.bool true))) :=
   ⟨[tb], ⟨rfl, by rw [taken_set L pre hs]; exact hB.setCell s (.bool true)⟩, fun x hx => Or.inl hx, (Touch.refl _ w).setCell _ _ (Or.inl (by simp))⟩
  generalize takenL L s = ts at *
  clear hB hP
  show Calls Tryz.prog 160 #[.slice sa pre.length cap, .int .i64 (s : Int), .pointer (some ⟨tb, 0, none⟩)] w _
  go_enter Tryz.func160, Tryz.ntmps160
  go_wp2
  go_end0
  exact ⟨rfl, HF.out⟩
 still := by
  intro L K w w' G hI ht hG
  obtain ⟨rfl, hB⟩ := hI
  exact ⟨rfl, ht.blk hB (fun hx => hG tb hx (by simp))⟩
 lt := by
  intro L K w hI x hx
  obtain ⟨rfl, hB⟩ := hI
  simp at hx
  subst hx
  exact hB.lt
theorem free_from {l : List (Option (List Int))} {k : Nat} (h1 : ∀ j, j < k → l.getD j none ≠ none) (hk : k < l.length) (h2 : l.getD k none = none) : freeP l = some k := by
 unfold freeP
 rw [List.findIdx?_eq_some_iff_getElem]
 refine ⟨hk, ?_, fun j hj => ?_⟩
 ·rw [List.getD_eq_getElem?_getD, List.getElem?_eq_getElem hk] at h2
  simpa using h2
 ·have := h1 j hj
  rw [List.getD_eq_getElem?_getD, List.getElem?_eq_getElem (by omega)] at this
  simpa using this
theorem free_none {l : List (Option (List Int))} (h1 : ∀ j, j < l.length → l.getD j none ≠ none) : freeP l = none := by
 unfold freeP
 rw [List.findIdx?_eq_none_iff]
 intro x hx
 obtain ⟨j, hj, rfl⟩ := List.getElem_of_mem hx
 have := h1 j hj
 rw [List.getD_eq_getElem?_getD, List.getElem?_eq_getElem hj] at this
 cases hv : l[j] with
 | none => rw [hv] at this; exact absurd rfl this
 | some y => rfl
theorem IAt.taken {w : World} {x : TX} (h : IAt w x) {j : Nat} (hj : j < x.m) : takenL (allT x.T []) j = true ↔ x.l.getD j none ≠ none := by
 have hjl : j < x.l.length := by rw [h.len]; exact hj
 rw [List.getD_eq_getElem?_getD, List.getElem?_eq_getElem hjl]
 unfold takenL
 rw [List.any_eq_true]
 constructor
 ·rintro ⟨y, hy, he⟩ hn
  obtain ⟨q, _, h2⟩ := (mem_allT x.T [] y).1 hy
  have he : y.2 = j := by simpa using he
  rw [he] at h2
  have h3 := ((h.tied.at_ q j).1 h2).2
  rw [List.getElem?_eq_getElem hjl] at h3
  simp only [Option.getD_some] at hn
  rw [hn] at h3
  cases h3
 ·intro hn
  cases hv : x.l[j] with
  | none => rw [hv] at hn; exact absurd rfl hn
  | some bs =>
   obtain ⟨p, hp, rfl⟩ := h.tied.form bs (by rw [← hv]; exact List.getElem_mem hjl)
   have h2 := (h.tied.at_ p j).2 ⟨hp, by rw [List.getElem?_eq_getElem hjl, hv]⟩
   exact ⟨(p, j), (mem_allT x.T [] (p, j)).2 ⟨p, rfl, h2⟩, by simp⟩
theorem free_any {w : World} {x : TX} (h : IAt w x) : Calls Tryz.prog 148 #[.pointer (some ⟨x.X, 0, none⟩)] w fun e w' => e = .returned (fV (freeP x.l)) ∧ Touch [] w w' := by
 have HTA : Hid (∀ o, Touch [] w (w.alloc o)) := fun o => (Touch.refl [] w).alloc o
 have HH := toHid h
 have c2 : ∀ o, (w.alloc o).cell? ⟨x.X, 2, none⟩ = some (.pointer (adT x.T)) := fun o => (h.still ((Touch.refl [] w).alloc o)).c2
 clear h
 go_enter Tryz.func148, Tryz.ntmps148
 go_wp2_with fail
 generalize hw1 : w.alloc _ = w1
 have hB : Blk w1 w.heap.size (takenRow []) 233 := by rw [← hw1]; exact Blk.newA w _ _ 233 (by rfl)
 have ht1 : Touch [] w w1 := by rw [← hw1]; exact HTA.out _
 have hx1 := HH.out.still ht1
 have hXN : w.heap.size ∉ bsT x.T := fun hx => by have := HH.out.tree.lt _ hx; omega
 have H1 := each_free w.heap.size (free_teller w.heap.size) x.T w1 none 0 [] [] [w.heap.size] hx1.tree (fun y hy => by
   obtain ⟨q, _, h2⟩ := (mem_allT x.T [] y).1 hy
   exact (hx1.slot h2).1) ⟨rfl, hB⟩ ⟨rfl, Nat.le_refl _, by unfold maxLen; omega, rfl⟩ (fun b hb => by cases hb) (fun y hy => by simp at hy; subst hy; exact hXN) (fun y hy => by simp at hy; subst hy; exact hB.lt) (by have := hx1.dep; have := hx1.n12; simp; omega)
 rw [ptr_ad x.T, List.nil_append] at H1
 have H2 := toHid H1
 have HX := toHid hx1
 clear hw1 c2 HTA hB H1 hx1
 refine Calls.mono H2.out ?_
 rintro e w2 ⟨rfl, K', hI, _, _, ht2⟩
 have hx2 := HX.out.touch ht2 (fun y hy hx => by
  simp at hx
  subst hx
  simp only [TX.own, List.mem_cons] at hy
  rcases hy with hy | hy
  ·have := HH.out.self.lt; omega
  ·exact hXN hy)
 have c1 := hx2.c1
 have HB := toHid hI.2
 have HT2 : Hid (Touch [] w w2) := ht1.trans ht2 (fun y hy => Or.inr (by simp at hy; omega))
 have hmx := HH.out.m64
 have hml := HH.out.len
 generalize hM : x.m = M at *
 have HX2 := toHid hx2
 clear hx2 hI ht2 ht1 HX H2
 go_wp2_with fail
 clear c1
 go_loop [16] (fun t => ∃ k : Nat, k ≤ M ∧ t = .int .i64 k ∧ Hid (∀ j, j < k → x.l.getD j none ≠ none)) (fun t => M - (intOf t).toNat)
 case atStart => exact ⟨0, by omega, rfl, fun j hj => absurd hj (by omega)⟩
 case round =>
  obtain ⟨k, hk, rfl, HI⟩ := hrel
  by_cases hlt : k < M
  ·have hk64 : k < 64 := by omega
   have hki : (k : Int) < 64 := by omega
   have c0 := taken_cell HB.out hk64
   have htk := HX2.out.taken (j := k) (by rw [hM]; exact hlt)
   cases htv : takenL (allT x.T []) k with
   | false =>
    have hnone : x.l.getD k none = none := by
     cases hv : x.l.getD k none with
     | none => rfl
     | some y =>
      have := htk.2 (by rw [hv]; simp)
      rw [htv] at this
      cases this
    have HR := toHid (free_from HI.out (by rw [hml]; exact hlt) hnone)
    rw [htv] at c0
    clear htk htv hnone
    go_wp2
    go_ret2
    refine ⟨?_, HT2.out⟩
    rw [HR.out]
    rfl
   | true =>
    have HN : Hid (∀ j, j < k + 1 → x.l.getD j none ≠ none) := fun j hj => by
     by_cases hjk : j < k
     ·exact HI.out j hjk
     ·obtain rfl : j = k := by omega
      exact htk.1 htv
    rw [htv] at c0
    clear htk htv
    go_wp2
    exact ⟨⟨k + 1, by omega, by go_num, HN⟩, by simp [intOf]; omega⟩
  ·obtain rfl : k = M := by omega
   have HR := toHid (free_none (fun j hj => HI.out j (by rw [← hml]; exact hj)))
   go_wp2
   go_ret2
   refine ⟨?_, HT2.out⟩
   rw [HR.out]
   rfl
end Go.Proofs.YtmhhahmjkopjhaaGreat.Lpm
end
section
namespace Go.Proofs.YtmhhahmjkopjhaaGreat.Lpm
open Go.RowKit Go.Deep
def TX.find (x : TX) (bs : List Int) : Option Nat := if fitsK bs x.n = true then longTo x.l bs x.l.length else none
theorem fitsK_len {bs : List Int} {n : Nat} (h : fitsK bs n = true) : bs.length = n + 4 ∧ keyNum bs ≤ 8 * (n : Int) := by
 unfold fitsK at h
 simpa using h
theorem pathP_fits {bs : List Int} {n : Nat} (h : fitsK bs n = true) : (pathP bs).length ≤ 8 * n := by
 have := (fitsK_len h).2
 rw [pathP_len]
 omega
theorem pathOf_no {w : World} {sa : Option Addr} {sl : Nat} {bs : List Int} (h : KeyAt w sa sl bs) {n : Nat} (hn : n ≤ 12) (sc : Nat) (hsc : sl ≤ sc) (hf : fitsK bs n = false) :
  Calls Tryz.prog 149 #[.slice sa sl sc, .int .i64 (n : Int)] w fun e w' => e = .returned (.tuple #[.slice none 0 0, .bool false]) ∧ w' = w :=
 (pathOf_any h n hn sc hsc).mono fun e w' hp => by
  unfold PathPost at hp
  rw [if_neg (by rw [hf]; decide)] at hp
  exact hp
theorem pathOf_yes {w : World} {sa : Option Addr} {sl : Nat} {bs : List Int} (h : KeyAt w sa sl bs) {n : Nat} (hn : n ≤ 12) (sc : Nat) (hsc : sl ≤ sc) (hf : fitsK bs n = true) :
  Calls Tryz.prog 149 #[.slice sa sl sc, .int .i64 (n : Int)] w fun e w' => ∃ g, e = .returned (.tuple #[.slice (some ⟨g, 0, none⟩) (pathP bs).length (pathP bs).length, .bool true]) ∧ Blk w' g ((pathP bs).map bitV) 3 ∧ w.heap.size ≤ g ∧ (pathP bs).length ≤ 1000 ∧ Touch [] w w' :=
 (pathOf_any h n hn sc hsc).mono fun e w' hp => by
  unfold PathPost at hp
  rw [if_pos hf] at hp
  exact hp
theorem ifind_any {w : World} {x : TX} (h : IAt w x) {sa : Option Addr} {sl : Nat} {bs : List Int} (hk : KeyAt w sa sl bs) (sc : Nat) (hsc : sl ≤ sc) :
  Calls Tryz.prog 145 #[.pointer (some ⟨x.X, 0, none⟩), .slice sa sl sc] w fun e w' => e = .returned (fV (x.find bs)) ∧ Touch [] w w' := by
 have c0 := h.c0
 unfold TX.find
 cases hf : fitsK bs x.n with
 | false =>
  rw [if_neg (by decide)]
  have H1 := toHid (pathOf_no hk h.n12 sc hsc hf)
  clear h hk hf
  go_enter Tryz.func145, Tryz.ntmps145
  go_wp2_with fail
  refine Calls.mono H1.out ?_
  rintro e w2 ⟨rfl, rfl⟩
  go_wp2
  go_ret2
  exact ⟨rfl, Touch.refl _ _⟩
 | true =>
  rw [if_pos rfl]
  have H1 := toHid (pathOf_yes hk h.n12 sc hsc hf)
  have hl := fitsK_len hf
  rw [long_eq h.tied (by have := h.n12; omega) hl.1 hk.2.1 hl.2]
  have HH := toHid h
  generalize hfo : longT x.T (pathP bs) = fo at *
  have HFO := toHid hfo
  unfold fV
  clear h hk hf hl hfo
  go_enter Tryz.func145, Tryz.ntmps145
  go_wp2_with fail
  refine Calls.mono H1.out ?_
  rintro e w2 ⟨g, rfl, hB, hg, hpl, ht2⟩
  have hx2 := HH.out.still ht2
  have c2 := hx2.c2
  have H2 := toHid (longest_any (pathP bs) x.T w2 (some ⟨g, 0, none⟩) hx2.tree hx2.ok (blk_path hB hpl))
  rw [ptr_ad, HFO.out] at H2
  have HT2 := toHid ht2
  clear hB hg hpl ht2 hx2 H1
  unfold fV at H2
  go_wp2_with fail
  refine Calls.mono H2.out ?_
  rintro e w3 ⟨rfl, n, rfl⟩
  go_wp2
  go_ret2
  exact ⟨rfl, HT2.out.drewN n⟩
def IStep (w : World) (x : TX) (l : List (Option (List Int))) (w' : World) : Prop := ∃ T' : Tr, IAt w' { x with T := T', l := l } ∧ Touch x.own w w' ∧ ∀ y ∈ bsT T', y ∈ x.own ∨ w.heap.size ≤ y
theorem IStep.same {w w' : World} {x : TX} (h : IAt w x) (ht : Touch [] w w') : IStep w x x.l w' := ⟨x.T, h.still ht, Touch.nil ht, fun y hy => Or.inl (by simp [TX.own, hy])⟩
theorem again_no (w : World) (s : Nat) : Calls Tryz.prog 156 #[.int .i64 (s : Int), .int .u64 1] w fun e w' => e = .returned (.tuple #[.int .i64 0, .bool false, .int .i64 70]) ∧ w' = w := by
 go_enter Tryz.func156, Tryz.ntmps156
 go_wp2
 go_ret3
 exact ⟨rfl, rfl⟩
theorem again_yes (w : World) (s : Nat) {fl : Int} (h : ¬ fl = 1) : Calls Tryz.prog 156 #[.int .i64 (s : Int), .int .u64 fl] w fun e w' => e = .returned (.tuple #[.int .i64 (s : Int), .bool false, .int .i64 0]) ∧ w' = w := by
 have h1 : (fl == 1) = false := by simpa using h
 clear h
 go_enter Tryz.func156, Tryz.ntmps156
 go_wp2
 go_ret3
 exact ⟨rfl, rfl⟩
theorem IAt.root {w w2 : World} {x : TX} {T' : Tr} {l' : List (Option (List Int))} (h : IAt w x) (ht : Touch (bsT x.T) w w2) (hA : TrAt w2 T') (ok : okT T') (nd : (bsT T').Nodup) (hb : ∀ b ∈ bsT T', b ∈ bsT x.T ∨ w.heap.size ≤ b)
  (dep : depT T' ≤ 8 * x.n + 1) (len : l'.length = x.m) (tied : TiedT x.n T' l') : IStep w x l' (w2.setCell ⟨x.X, 2, none⟩ T'.ptr) ∧ (∃ v, w2.cell? ⟨x.X, 2, none⟩ = some (.pointer v)) ∧ w2.frozen? ⟨x.X, 2, none⟩ = false := by
 have hB := ht.blk h.self h.out
 have hX : x.X ∉ bsT T' := fun hx => by
  rcases hb _ hx with hx | hx
  ·exact h.out hx
  ·have := h.self.lt
   omega
 have hts : Touch [x.X] w2 (w2.setCell ⟨x.X, 2, none⟩ T'.ptr) := (Touch.refl _ w2).setCell _ _ (Or.inl (by simp))
 refine ⟨⟨T', ⟨hB.setCell 2 T'.ptr, hA.touch hts (fun y hy hz => by simp at hz; subst hz; exact hX hy), ok, nd, hX, dep, h.n1, h.n12, h.m1, h.m64, len, tied⟩, (ht.mono (S' := x.own) (fun y hy => Or.inl (by simp [TX.own, hy]))).trans hts (fun y hy => Or.inl (by simp at hy; simp [TX.own, hy])), fun y hy => ?_⟩, ⟨adT x.T, by rw [← ptr_ad]; exact hB.cell rfl⟩, hB.frozen 2⟩
 rcases hb y hy with hy | hy
 ·exact Or.inl (by simp [TX.own, hy])
 ·exact Or.inr hy
def AddV (a : Int × Bool × Int) : Value := .tuple #[.int .i64 a.1, .bool a.2.1, .int .i64 a.2.2]
def TX.add (x : TX) (p : List Bool) (fl : Int) : (Int × Bool × Int) × List (Option (List Int)) :=
 if fl = 2 then ((0, false, 14), x.l) else match freeP x.l with
  | some f => (((f : Int), true, 0), x.l.set f (some (keyP p x.n)))
  | none => ((0, false, 71), x.l)
theorem add_any {w : World} {x : TX} (h : IAt w x) {g : Nat} {p : List Bool} (hB : Blk w g (p.map bitV) 3) (hp : p.length ≤ 8 * x.n) (hg : g ∉ x.own) (hno : atT x.T p = none) (fl : Int) :
  Calls Tryz.prog 157 #[.pointer (some ⟨x.X, 0, none⟩), .slice (some ⟨g, 0, none⟩) p.length p.length, .int .u64 fl] w fun e w' => e = .returned (AddV (x.add p fl).1) ∧ IStep w x (x.add p fl).2 w' := by
 have hn12 := h.n12
 unfold TX.add AddV
 by_cases h2 : fl = 2
 ·rw [if_pos h2]
  subst h2
  have HF := toHid (IStep.same h (Touch.refl [] w))
  clear h hB hp hg hno
  go_enter Tryz.func157, Tryz.ntmps157
  go_wp2
  go_ret3
  exact ⟨rfl, HF.out⟩
 ·rw [if_neg h2]
  have h21 : (fl == 2) = false := by simpa using h2
  have H1 := toHid (free_any h)
  have HH := toHid (And.intro h (And.intro hB (And.intro hp (And.intro hg hno))))
  have hpl : p.length ≤ 1000 := by omega
  cases hf : freeP x.l with
  | none =>
   rw [hf] at H1
   unfold fV Option.getD Option.isSome at H1
   clear h hB hp hg hno h2 hf hpl
   go_enter Tryz.func157, Tryz.ntmps157
   go_wp2_with fail
   refine Calls.mono H1.out ?_
   rintro e w2 ⟨rfl, ht2⟩
   have HF := toHid (IStep.same HH.out.1 ht2)
   clear ht2
   go_wp2
   go_ret3
   exact ⟨rfl, HF.out⟩
  | some f =>
   rw [hf] at H1
   unfold fV Option.getD Option.isSome at H1
   have hfl : x.l[f]? = some none := by
    have h9 := hf
    unfold freeP at h9
    rw [List.findIdx?_eq_some_iff_getElem] at h9
    obtain ⟨h9, h10, _⟩ := h9
    rw [List.getElem?_eq_getElem h9]
    cases hv : x.l[f] with
    | none => rfl
    | some y => rw [hv] at h10; cases h10
   have HFL := toHid hfl
   clear h hB hp hg hno h2 hf hfl
   go_enter Tryz.func157, Tryz.ntmps157
   go_wp2_with fail
   refine Calls.mono H1.out ?_
   rintro e w2 ⟨rfl, ht2⟩
   have hx2 := HH.out.1.still ht2
   have c2 := hx2.c2
   have hB2 := ht2.blk HH.out.2.1 (by simp)
   have H2 := toHid (with_any f p x.T w2 (some ⟨g, 0, none⟩) hx2.tree hx2.ok hx2.nd (blk_path hB2 hpl) (fun b off e => by injection e with e; injection e with e1; subst e1; exact fun hx => HH.out.2.2.2.1 (by simp [TX.own, hx])))
   rw [ptr_ad] at H2
   have HX2 := toHid (And.intro hx2 ht2)
   clear ht2 hx2 hB2 H1
   go_wp2_with fail
   refine Calls.mono H2.out ?_
   rintro e w3 ⟨T', rfl, hk⟩
   have hr := HX2.out.1.root (l' := x.l.set f (some (keyP p x.n))) hk.touch hk.at_ hk.ok hk.nd hk.blocks (by have := hk.dep; have := HX2.out.1.dep; have := HH.out.2.2.1; omega) (by rw [List.length_set]; exact HX2.out.1.len) (HX2.out.1.tied.put (by omega) HH.out.2.2.1 HH.out.2.2.2.2 HFL.out hk.get)
   obtain ⟨hr1, ⟨v, d1⟩, d2⟩ := hr
   have HF : Hid (IStep w x (x.l.set f (some (keyP p x.n))) (w3.setCell ⟨x.X, 2, none⟩ T'.ptr)) := by
    obtain ⟨T2, q1, q2, q3⟩ := hr1
    exact ⟨T2, q1, (Touch.nil HX2.out.2).trans q2 (fun y hy => Or.inl hy), fun y hy => by
     rcases q3 y hy with h | h
     ·exact Or.inl h
     ·exact Or.inr (by have := HX2.out.2.size; omega)⟩
   rw [ptr_ad] at *
   clear hk hr1 H2 HX2
   generalize adT T' = ta at *
   go_wp2
   go_ret3
   exact ⟨rfl, HF.out⟩
def TX.put (x : TX) (bs : List Int) (fl : Int) : (Int × Bool × Int) × List (Option (List Int)) :=
 if fitsK bs x.n = true then
  if 2 < fl then ((0, false, 72), x.l)
  else match sameP x.l (keyP (pathP bs) x.n) with
   | some i => if fl = 1 then ((0, false, 70), x.l) else (((i : Int), false, 0), x.l)
   | none => x.add (pathP bs) fl
 else ((0, false, 2), x.l)
def IPutPost (w : World) (x : TX) (a : (Int × Bool × Int) × List (Option (List Int))) (e : Ending) (w' : World) : Prop := e = .returned (AddV a.1) ∧ IStep w x a.2 w'
theorem TX.own_new {w w2 : World} {x : TX} (h : IAt w x) {g : Nat} (hg : w.heap.size ≤ g) (_ : Touch [] w w2) : g ∉ x.own := fun hx => by
 have := h.lt g hx
 omega
theorem iput_any {w : World} {x : TX} (h : IAt w x) {sa : Option Addr} {sl : Nat} {bs : List Int} (hk : KeyAt w sa sl bs) (sc : Nat) (hsc : sl ≤ sc) (fl : Int) (f0 : 0 ≤ fl) :
  Calls Tryz.prog 147 #[.pointer (some ⟨x.X, 0, none⟩), .slice sa sl sc, .int .u64 fl] w (IPutPost w x (x.put bs fl)) := by
 have c0 := h.c0
 unfold TX.put
 cases hf : fitsK bs x.n with
 | false =>
  rw [if_neg (by decide)]
  have H1 := toHid (pathOf_no hk h.n12 sc hsc hf)
  have HF : Hid (IPutPost w x ((0, false, 2), x.l) (.returned (.tuple #[.int .i64 0, .bool false, .int .i64 2])) w) := ⟨rfl, IStep.same h (Touch.refl _ _)⟩
  clear h hk hf
  go_enter Tryz.func147, Tryz.ntmps147
  go_wp2_with fail
  refine Calls.mono H1.out ?_
  rintro e w2 ⟨rfl, rfl⟩
  go_wp2
  go_ret3
  exact HF.out
 | true =>
  rw [if_pos rfl]
  have H1 := toHid (pathOf_yes hk h.n12 sc hsc hf)
  have hl := pathP_fits hf
  have HH := toHid (And.intro h hl)
  by_cases h2 : 2 < fl
  ·rw [if_pos h2]
   clear h hk hf hl
   go_enter Tryz.func147, Tryz.ntmps147
   go_wp2_with fail
   refine Calls.mono H1.out ?_
   rintro e w2 ⟨g, rfl, hB, hg, hpl, ht2⟩
   have HF : Hid (IPutPost w x ((0, false, 72), x.l) (.returned (.tuple #[.int .i64 0, .bool false, .int .i64 72])) w2) := ⟨rfl, IStep.same HH.out.1 ht2⟩
   clear hB hg hpl ht2 H1
   go_wp2
   go_ret3
   exact HF.out
  ·rw [if_neg h2]
   have hsm := h.tied.same (by have := h.n12; omega) hl
   rw [hsm]
   cases hat : atT x.T (pathP bs) with
   | some s =>
    dsimp only
    by_cases h1 : fl = 1
    ·rw [if_pos h1]
     subst h1
     have HA := toHid (fun w => again_no w s)
     have HAT := toHid hat
     clear hk hf hl hsm hat
     have HF : Hid (∀ w', Touch [] w w' → IPutPost w x ((0, false, 70), x.l) (.returned (AddV (0, false, 70))) w') := fun w' ht => ⟨rfl, IStep.same h ht⟩
     clear h
     go_enter Tryz.func147, Tryz.ntmps147
     go_wp2_with fail
     refine Calls.mono H1.out ?_
     rintro e w2 ⟨g, rfl, hB, hg, hpl, ht2⟩
     have hx2 := HH.out.1.still ht2
     have c2 := hx2.c2
     have H2 := toHid (at_any (pathP bs) x.T w2 (some ⟨g, 0, none⟩) hx2.tree hx2.ok (blk_path hB hpl))
     rw [ptr_ad, HAT.out] at H2
     unfold fV Option.getD Option.isSome at H2
     have HT2 := toHid ht2
     clear hB hg hpl ht2 hx2 H1
     go_wp2_with fail
     refine Calls.mono H2.out ?_
     rintro e w3 ⟨rfl, n, rfl⟩
     go_wp2_with fail
     refine Calls.mono (HA.out _) ?_
     rintro e w4 ⟨rfl, rfl⟩
     have HG := toHid (HF.out _ (HT2.out.drewN n))
     unfold AddV at HG
     clear H2 HA HF
     go_wp2
     go_ret3
     exact HG.out
    ·rw [if_neg h1]
     have HA := toHid (fun w => again_yes w s h1)
     clear h1
     have HAT := toHid hat
     clear hk hf hl hsm hat
     have HF : Hid (∀ w', Touch [] w w' → IPutPost w x (((s : Int), false, 0), x.l) (.returned (AddV ((s : Int), false, 0))) w') := fun w' ht => ⟨rfl, IStep.same h ht⟩
     clear h
     go_enter Tryz.func147, Tryz.ntmps147
     go_wp2_with fail
     refine Calls.mono H1.out ?_
     rintro e w2 ⟨g, rfl, hB, hg, hpl, ht2⟩
     have hx2 := HH.out.1.still ht2
     have c2 := hx2.c2
     have H2 := toHid (at_any (pathP bs) x.T w2 (some ⟨g, 0, none⟩) hx2.tree hx2.ok (blk_path hB hpl))
     rw [ptr_ad, HAT.out] at H2
     unfold fV Option.getD Option.isSome at H2
     have HT2 := toHid ht2
     clear hB hg hpl ht2 hx2 H1
     go_wp2_with fail
     refine Calls.mono H2.out ?_
     rintro e w3 ⟨rfl, n, rfl⟩
     go_wp2_with fail
     refine Calls.mono (HA.out _) ?_
     rintro e w4 ⟨rfl, rfl⟩
     have HG := toHid (HF.out _ (HT2.out.drewN n))
     unfold AddV at HG
     clear H2 HA HF
     go_wp2
     go_ret3
     exact HG.out
   | none =>
    have HAT := toHid hat
    dsimp only
    have HAD : Hid (∃ ad, x.add (pathP bs) fl = ad) := ⟨_, rfl⟩
    generalize hadd : x.add (pathP bs) fl = ad at *
    have HADD := toHid hadd
    clear h hk hf hl hsm hat hadd HAD
    go_enter Tryz.func147, Tryz.ntmps147
    go_wp2_with fail
    refine Calls.mono H1.out ?_
    rintro e w2 ⟨g, rfl, hB, hg, hpl, ht2⟩
    have hx2 := HH.out.1.still ht2
    have c2 := hx2.c2
    have H2 := toHid (at_any (pathP bs) x.T w2 (some ⟨g, 0, none⟩) hx2.tree hx2.ok (blk_path hB hpl))
    rw [ptr_ad, HAT.out] at H2
    unfold fV Option.getD Option.isSome at H2
    have HT2 := toHid ht2
    have H3 : Hid (∀ n, Calls Tryz.prog 157 #[.pointer (some ⟨x.X, 0, none⟩), .slice (some ⟨g, 0, none⟩) (pathP bs).length (pathP bs).length, .int .u64 fl] (w2.drewN n) fun e w' => e = .returned (AddV (x.add (pathP bs) fl).1) ∧ IStep (w2.drewN n) x (x.add (pathP bs) fl).2 w') :=
     fun n => add_any (hx2.still ((Touch.refl [] w2).drewN n)) (hB.drewN n) HH.out.2 (TX.own_new HH.out.1 hg ht2) HAT.out fl
    rw [HADD.out] at H3
    clear hB hg hpl ht2 hx2 H1
    go_wp2_with fail
    refine Calls.mono H2.out ?_
    rintro e w3 ⟨rfl, n, rfl⟩
    go_wp2_with fail
    refine Calls.mono (H3.out n) ?_
    rintro e w4 ⟨rfl, hS⟩
    have HF : Hid (IPutPost w x ad (.returned (AddV ad.1)) w4) := by
     refine ⟨rfl, ?_⟩
     obtain ⟨T', q1, q2, q3⟩ := hS
     have ht := HT2.out.drewN n
     exact ⟨T', q1, (Touch.nil ht).trans q2 (fun y hy => Or.inl hy), fun y hy => by
      rcases q3 y hy with h | h
      ·exact Or.inl h
      ·exact Or.inr (by have := ht.size; omega)⟩
    unfold AddV at *
    clear hS H2 H3
    go_wp2
    go_ret3
    exact HF.out
end Go.Proofs.YtmhhahmjkopjhaaGreat.Lpm
end
section
namespace Go.Proofs.YtmhhahmjkopjhaaGreat.Lpm
open Go.RowKit Go.Deep
def TX.del (x : TX) (bs : List Int) : (Int × Int) × List (Option (List Int)) :=
 if fitsK bs x.n = true then match sameP x.l (keyP (pathP bs) x.n) with
  | some i => (((i : Int), 0), x.l.set i none)
  | none => ((0, 14), x.l)
 else ((0, 2), x.l)
def DelV (a : Int × Int) : Value := .tuple #[.int .i64 a.1, .int .i64 a.2]
def IDelPost (w : World) (x : TX) (a : (Int × Int) × List (Option (List Int))) (e : Ending) (w' : World) : Prop := e = .returned (DelV a.1) ∧ IStep w x a.2 w'
theorem idel_any {w : World} {x : TX} (h : IAt w x) {sa : Option Addr} {sl : Nat} {bs : List Int} (hk : KeyAt w sa sl bs) (sc : Nat) (hsc : sl ≤ sc) :
  Calls Tryz.prog 144 #[.pointer (some ⟨x.X, 0, none⟩), .slice sa sl sc] w (IDelPost w x (x.del bs)) := by
 have c0 := h.c0
 unfold TX.del
 cases hf : fitsK bs x.n with
 | false =>
  rw [if_neg (by decide)]
  have H1 := toHid (pathOf_no hk h.n12 sc hsc hf)
  have HF : Hid (IDelPost w x ((0, 2), x.l) (.returned (.tuple #[.int .i64 0, .int .i64 2])) w) := ⟨rfl, IStep.same h (Touch.refl _ _)⟩
  clear h hk hf
  go_enter Tryz.func144, Tryz.ntmps144
  go_wp2_with fail
  refine Calls.mono H1.out ?_
  rintro e w2 ⟨rfl, rfl⟩
  go_wp2
  go_ret2
  exact HF.out
 | true =>
  rw [if_pos rfl]
  have H1 := toHid (pathOf_yes hk h.n12 sc hsc hf)
  have hl := pathP_fits hf
  have HH := toHid (And.intro h hl)
  have hsm := h.tied.same (by have := h.n12; omega) hl
  rw [hsm]
  cases hat : atT x.T (pathP bs) with
  | none =>
   dsimp only
   have HAT := toHid hat
   clear h hk hf hl hsm hat
   go_enter Tryz.func144, Tryz.ntmps144
   go_wp2_with fail
   refine Calls.mono H1.out ?_
   rintro e w2 ⟨g, rfl, hB, hg, hpl, ht2⟩
   have hx2 := HH.out.1.still ht2
   have c2 := hx2.c2
   have H2 := toHid (at_any (pathP bs) x.T w2 (some ⟨g, 0, none⟩) hx2.tree hx2.ok (blk_path hB hpl))
   rw [ptr_ad, HAT.out] at H2
   unfold fV Option.getD Option.isSome at H2
   have HT2 := toHid ht2
   clear hB hg hpl ht2 hx2 H1
   go_wp2_with fail
   refine Calls.mono H2.out ?_
   rintro e w3 ⟨rfl, n, rfl⟩
   have HF : Hid (IDelPost w x ((0, 14), x.l) (.returned (.tuple #[.int .i64 0, .int .i64 14])) (w2.drewN n)) := ⟨rfl, IStep.same HH.out.1 (HT2.out.drewN n)⟩
   clear H2 c2
   go_wp2
   go_ret2
   exact HF.out
  | some s =>
   dsimp only
   have HAT := toHid hat
   clear h hk hf hl hsm hat
   go_enter Tryz.func144, Tryz.ntmps144
   go_wp2_with fail
   refine Calls.mono H1.out ?_
   rintro e w2 ⟨g, rfl, hB, hg, hpl, ht2⟩
   have hx2 := HH.out.1.still ht2
   have c2 := hx2.c2
   have H2 := toHid (at_any (pathP bs) x.T w2 (some ⟨g, 0, none⟩) hx2.tree hx2.ok (blk_path hB hpl))
   rw [ptr_ad, HAT.out] at H2
   unfold fV Option.getD Option.isSome at H2
   have HT2 := toHid (And.intro ht2 (And.intro hB (And.intro hg hpl)))
   clear hB hg hpl ht2 hx2 H1
   go_wp2_with fail
   refine Calls.mono H2.out ?_
   rintro e w3 ⟨rfl, n, rfl⟩
   have ht3 := HT2.out.1.drewN n
   have hB3 := HT2.out.2.1.drewN n
   generalize w2.drewN n = w4 at *
   have hx4 := HH.out.1.still ht3
   have d2 := hx4.c2
   have H3 := toHid (without_any (pathP bs) x.T w4 (some ⟨g, 0, none⟩) hx4.tree hx4.ok hx4.nd (blk_path hB3 HT2.out.2.2.2) (fun b off e => by injection e with e; injection e with e1; subst e1; exact fun hx => TX.own_new HH.out.1 HT2.out.2.2.1 HT2.out.1 (by simp [TX.own, hx])) ⟨s, HAT.out⟩)
   rw [ptr_ad] at H3
   have HX4 := toHid (And.intro hx4 ht3)
   clear hx4 ht3 hB3 H2 c2
   go_wp2_with fail
   refine Calls.mono H3.out ?_
   rintro e w5 ⟨T', rfl, hk⟩
   have hr := HX4.out.1.root (l' := x.l.set s none) hk.touch hk.at_ hk.ok hk.nd (fun b hb => Or.inl (hk.blocks b hb)) (by have := hk.dep; have := HX4.out.1.dep; omega) (by rw [List.length_set]; exact HX4.out.1.len) (HX4.out.1.tied.del (by have := HX4.out.1.n12; omega) HAT.out hk.get)
   obtain ⟨hr1, ⟨v, e1⟩, e2⟩ := hr
   have HF : Hid (IDelPost w x (((s : Int), 0), x.l.set s none) (.returned (.tuple #[.int .i64 (s : Int), .int .i64 0])) (w5.setCell ⟨x.X, 2, none⟩ T'.ptr)) := by
    obtain ⟨T2, q1, q2, q3⟩ := hr1
    exact ⟨rfl, T2, q1, (Touch.nil HX4.out.2).trans q2 (fun y hy => Or.inl hy), fun y hy => by
     rcases q3 y hy with h | h
     ·exact Or.inl h
     ·exact Or.inr (by have := HX4.out.2.size; omega)⟩
   rw [ptr_ad] at *
   clear hk hr1 H3 HX4 d2
   generalize adT T' = ta at *
   go_wp2
   go_ret2
   exact HF.out
def INewPost (w : World) (n m : Nat) (e : Ending) (w' : World) : Prop := ∃ X, e = .returned (.tuple #[.pointer (some ⟨X, 0, none⟩), .int .i64 0]) ∧ IAt w' ⟨X, n, m, .nil, List.replicate m none⟩ ∧ w.heap.size ≤ X ∧ Touch [] w w'
theorem inew_any (w : World) (n m : Nat) (s1 : 1 ≤ n) (s2 : n ≤ 12) (h1 : 1 ≤ m) (h2 : m ≤ 64) : Calls Tryz.prog 76 #[.int .i64 ((n : Int) + 4), .int .i64 (m : Int)] w (INewPost w n m) := by
 have b2 := Blk.newA w #[.int .i64 (n : Int), .int .i64 (m : Int), .pointer none] _ 187 rfl
 have HF : Hid (INewPost w n m (.returned (.tuple #[.pointer (some ⟨w.heap.size, 0, none⟩), .int .i64 0])) (w.alloc (.cells #[.int .i64 (n : Int), .int .i64 (m : Int), .pointer none] 187))) :=
  ⟨_, rfl, ⟨b2, trivial, trivial, List.nodup_nil, by simp [bsT], by simp [depT], s1, s2, h1, h2, by simp, TiedT.start n m⟩, Nat.le_refl _, (Touch.refl [] w).alloc _⟩
 clear b2
 go_enter Tryz.func76, Tryz.ntmps76
 go_wp2
 go_ret2
 exact HF.out
theorem inew_bad (w : World) (size m : Int) (h1 : ¬ (1 ≤ m ∧ m ≤ 64 ∧ 5 ≤ size ∧ size ≤ 16)) : Calls Tryz.prog 76 #[.int .i64 size, .int .i64 m] w fun e w' => e = .returned (.tuple #[.pointer none, .int .i64 2]) ∧ w' = w := by
 by_cases a3 : size ≤ 4
 ·clear h1
  go_enter Tryz.func76, Tryz.ntmps76
  go_wp2
  go_ret2
  exact ⟨rfl, rfl⟩
 ·by_cases a4 : 16 < size
  ·clear h1
   go_enter Tryz.func76, Tryz.ntmps76
   go_wp2
   go_ret2
   exact ⟨rfl, rfl⟩
  ·by_cases a1 : m < 1
   ·clear h1
    go_enter Tryz.func76, Tryz.ntmps76
    go_wp2
    go_ret2
    exact ⟨rfl, rfl⟩
   ·have a2 : 64 < m := by omega
    clear h1
    go_enter Tryz.func76, Tryz.ntmps76
    go_wp2
    go_ret2
    exact ⟨rfl, rfl⟩
def ICopyPost (w : World) (x : TX) (e : Ending) (w' : World) : Prop := ∃ C : Nat, ∃ T' : Tr, e = .returned (.pointer (some ⟨C, 0, none⟩)) ∧ IAt w' ⟨C, x.n, x.m, T', x.l⟩ ∧ (∀ y ∈ (⟨C, x.n, x.m, T', x.l⟩ : TX).own, w.heap.size ≤ y) ∧ Touch [] w w'
theorem copy_left {w w1 w2 : World} {x : TX} {C : Tr} (h : IAt w x) (h1 : Touch [] w w1) (hk : Same w1.heap.size w2 x.T C) (ht2 : Touch [] w1 w2) :
  ICopyPost w x (.returned (.pointer (some ⟨w2.heap.size, 0, none⟩))) (w2.alloc (.cells #[.int .i64 (x.n : Int), .int .i64 (x.m : Int), C.ptr] 187)) := by
 have hta : Touch [] w2 (w2.alloc (.cells #[.int .i64 (x.n : Int), .int .i64 (x.m : Int), C.ptr] 187)) := (Touch.refl _ _).alloc _
 have hsz := h1.size
 have hsz2 := ht2.size
 refine ⟨w2.heap.size, C, rfl, ⟨Blk.newA w2 #[.int .i64 (x.n : Int), .int .i64 (x.m : Int), C.ptr] _ 187 rfl, hk.at_.touch hta (by simp), hk.ok, hk.nd, fun hx => ?_, Nat.le_trans hk.dep h.dep, h.n1, h.n12, h.m1, h.m64, h.len, ?_⟩, fun y hy => ?_, (h1.trans ht2 (by simp)).trans hta (by simp)⟩
 ·have := hk.at_.lt _ hx
  simp at this
 ·exact ⟨fun p s => by rw [hk.get p]; exact h.tied.at_ p s, h.tied.form⟩
 ·simp only [TX.own, List.mem_cons] at hy
  rcases hy with rfl | hy
  ·show w.heap.size ≤ w2.heap.size
   omega
  ·have := hk.blocks y hy
   omega
theorem icopy_any {w : World} {x : TX} (h : IAt w x) : Calls Tryz.prog 71 #[.pointer (some ⟨x.X, 0, none⟩)] w (ICopyPost w x) := by
 have hd : Touch [] w w.drew := (Touch.refl [] w).drew
 have hx1 := h.still hd
 have c0 := hx1.c0
 have c1 := hx1.c1
 have c2 := hx1.c2
 have H1 := toHid (twin_any x.T w.drew hx1.tree hx1.ok)
 rw [ptr_ad] at H1
 have HH := toHid h
 have HX := toHid hx1
 clear h hd hx1
 go_enter Tryz.func71, Tryz.ntmps71
 go_wp2_with fail
 go_region_with (go_at_call 91; refine Calls.mono H1.out ?_; rintro e w2 ⟨C, rfl, hk, ht2⟩; have e0 := (HX.out.still ht2).c0; have e1 := (HX.out.still ht2).c1; have HF := toHid (copy_left HH.out ((Touch.refl [] w).drew) hk ht2); rw [ptr_ad C] at HF; clear hk ht2; generalize adT C = ca at *)
 all_goals go_wp2
 all_goals go_ret
 all_goals exact HF.out
end Go.Proofs.YtmhhahmjkopjhaaGreat.Lpm
end
section
namespace Go.Proofs.YtmhhahmjkopjhaaGreat.Lpm
open Go.RowKit Go.Deep
structure KeysI (w0 : World) (xb tb X n : Nat) (L : List (List Bool × Nat)) (K : List Nat) (w : World) : Prop where
 row : ∃ ks : List (Option KS), ks.length = 64 ∧ Blk w tb (ks.map slotV) 227 ∧ (∀ k, some k ∈ ks → k.At w ∧ k.b ∈ K ∧ w0.heap.size ≤ k.b ∧ k.b ≠ tb) ∧
  ∀ i, i < 64 → match ks.getD i none with
   | none => takenL L i = false
   | some k => ∃ p, (p, i) ∈ L ∧ k.bs = keyP p n
 self : w.cell? ⟨xb, 0, none⟩ = some (.pointer (some ⟨X, 0, none⟩)) ∧ w.cell? ⟨X, 0, none⟩ = some (.int .i64 (n : Int))
 mem : tb ∈ K ∧ xb ∈ K ∧ X ∈ K
 lt : ∀ y ∈ K, y < w.heap.size
 up : w0.heap.size ≤ w.heap.size
 ne : xb ≠ tb ∧ X ≠ tb
theorem KeysI.still {w0 w w' : World} {xb tb X n : Nat} {L : List (List Bool × Nat)} {K G : List Nat} (h : KeysI w0 xb tb X n L K w) (ht : Touch G w w') (hG : ∀ y ∈ G, y ∉ K) : KeysI w0 xb tb X n L K w' := by
 obtain ⟨⟨ks, h1, h2, h3, h4⟩, h5, h6, h7, h8, h9⟩ := h
 have hsz := ht.size
 refine ⟨⟨ks, h1, ht.blk h2 (fun hx => hG _ hx h6.1), fun k hk => ?_, h4⟩, ⟨ht.cell h5.1 (fun hx => hG _ hx h6.2.1), ht.cell h5.2 (fun hx => hG _ hx h6.2.2)⟩, h6, fun y hy => by have := h7 y hy; omega, by omega, h9⟩
 obtain ⟨a1, a2, a3, a4⟩ := h3 k hk
 exact ⟨a1.touch ht (fun hx => hG _ hx a2), a2, a3, a4⟩
theorem KeysI.step {w0 w w2 : World} {xb tb X n : Nat} {L : List (List Bool × Nat)} {K : List Nat} (h : KeysI w0 xb tb X n L K w) {pre : List Bool} {s : Nat} (hs : s < 64) (_hp : pre.length ≤ 8 * n) (hn : n ≤ 12) (hB : Blk w2 w.heap.size ((keyP pre n).map (Value.int .u8)) 5) (ht : Touch [] w w2) :
  KeysI w0 xb tb X n (L ++ [(pre, s)]) (w.heap.size :: K) (w2.setCell ⟨tb, s, none⟩ (.slice (some ⟨w.heap.size, 0, none⟩) (n + 4) (n + 4))) := by
 have h2 := h.still ht (by simp)
 have htb := h.lt tb h.mem.1
 obtain ⟨⟨ks, b1, b2, b3, b4⟩, b5, b6, b7, b8, b9⟩ := h2
 have hsz := ht.size
 have hN := hB.lt
 have hts : Touch [tb] w2 (w2.setCell ⟨tb, s, none⟩ (.slice (some ⟨w.heap.size, 0, none⟩) (n + 4) (n + 4))) := (Touch.refl _ w2).setCell _ _ (Or.inl (by simp))
 have hkA : (⟨w.heap.size, n + 4, keyP pre n⟩ : KS).At w2 := ⟨⟨[], by simpa using hB.toF⟩, keyP_bd pre n, by rw [keyP_len]; omega, by rw [keyP_len]; omega, by show (keyP pre n).length ≤ n + 4; rw [keyP_len]; exact Nat.le_refl _⟩
 have hkv : (⟨w.heap.size, n + 4, keyP pre n⟩ : KS).v = .slice (some ⟨w.heap.size, 0, none⟩) (n + 4) (n + 4) := by
  unfold KS.v
  rw [keyP_len]
 refine ⟨⟨ks.set s (some ⟨w.heap.size, n + 4, keyP pre n⟩), by rw [List.length_set]; exact b1, ?_, fun k hk => ?_, fun i hi => ?_⟩, ⟨hts.cell b5.1 (by simpa using b9.1), hts.cell b5.2 (by simpa using b9.2)⟩, ⟨by simp [b6.1], by simp [b6.2.1], by simp [b6.2.2]⟩, fun y hy => ?_, ?_, b9⟩
 ·have := b2.setCell s (.slice (some ⟨w.heap.size, 0, none⟩) (n + 4) (n + 4))
  rw [List.map_set]
  show Blk _ tb ((ks.map slotV).set s (⟨w.heap.size, n + 4, keyP pre n⟩ : KS).v) 227
  rw [hkv]
  exact this
 ·rcases List.mem_or_eq_of_mem_set hk with hk | hk
  ·obtain ⟨a1, a2, a3, a4⟩ := b3 k hk
   exact ⟨a1.touch hts (by simpa using a4), by simp [a2], a3, a4⟩
  ·injection hk with hk
   subst hk
   refine ⟨hkA.touch hts (fun hx => ?_), by simp, h.up, ?_⟩
   ·simp at hx
    omega
   ·show w.heap.size ≠ tb
    omega
 ·by_cases his : s = i
  ·subst his
   rw [List.getD_eq_getElem?_getD, List.getElem?_set_self (by omega)]
   exact ⟨pre, by simp, rfl⟩
  ·rw [List.getD_eq_getElem?_getD, List.getElem?_set_ne his, ← List.getD_eq_getElem?_getD]
   have := b4 i hi
   cases hv : ks.getD i none with
   | none =>
    rw [hv] at this
    have hne : (s == i) = false := by simpa using his
    have h9 : takenL L i = false := this
    show takenL (L ++ [(pre, s)]) i = false
    unfold takenL at h9 ⊢
    rw [List.any_append, h9]
    simp [hne]
   | some k =>
    rw [hv] at this
    obtain ⟨p, q1, q2⟩ := this
    exact ⟨p, by simp [q1], q2⟩
 ·have hsz3 := hts.size
  simp only [List.mem_cons] at hy
  rcases hy with rfl | hy
  ·omega
  ·have := b7 y hy
   omega
 ·have := hts.size
  omega
theorem keys_teller (w0 : World) (xb tb X n : Nat) (hn : n ≤ 12) : Teller [tb] (fun p s => s < 64 ∧ p.length ≤ 8 * n) (KeysI w0 xb tb X n) (fun a b w Q => Calls Tryz.prog 154 #[a, b, .pointer (some ⟨xb, 0, none⟩), .pointer (some ⟨tb, 0, none⟩)] w Q) where
 call := by
  intro L K pre s sa cap w hI hP hs
  obtain ⟨hs, hp⟩ := hs
  have c0 := hI.self.1
  have c1 := hI.self.2
  have hs2 : (s : Int) < 64 := by omega
  have H1 := toHid (keyOf_any hP n hn hp cap)
  have HI := toHid (And.intro hI (And.intro hs hp))
  clear hP hp hI
  show Calls Tryz.prog 154 #[.slice sa pre.length cap, .int .i64 (s : Int), .pointer (some ⟨xb, 0, none⟩), .pointer (some ⟨tb, 0, none⟩)] w _
  go_enter Tryz.func154, Tryz.ntmps154
  go_wp2_with fail
  refine Calls.mono H1.out ?_
  rintro e w2 ⟨rfl, hB, ht2⟩
  have hst := HI.out.1.step HI.out.2.1 HI.out.2.2 hn hB ht2
  have HF : Hid (∃ K', KeysI w0 xb tb X n (L ++ [(pre, s)]) K' (w2.setCell ⟨tb, s, none⟩ (.slice (some ⟨w.heap.size, 0, none⟩) (n + 4) (n + 4))) ∧ (∀ x ∈ K', x ∈ K ∨ w.heap.size ≤ x) ∧ Touch [tb] w (w2.setCell ⟨tb, s, none⟩ (.slice (some ⟨w.heap.size, 0, none⟩) (n + 4) (n + 4)))) :=
   ⟨_, hst, fun x hx => by
    simp only [List.mem_cons] at hx
    rcases hx with rfl | hx
    ·exact Or.inr (Nat.le_refl _)
    ·exact Or.inl hx, (Touch.nil ht2).setCell _ _ (Or.inl (by simp))⟩
  obtain ⟨⟨ks, k1, k2, _, _⟩, _⟩ := HI.out.1.still ht2 (by simp)
  have d0 := k2.cellN (i := s) (by rw [List.length_map, k1]; exact HI.out.2.1)
  have d1 := k2.frozen s
  generalize (ks.map slotV)[s]'(by rw [List.length_map, k1]; exact HI.out.2.1) = old at d0
  clear hB ht2 hst k2 H1
  go_wp2
  go_end0
  exact ⟨rfl, HF.out⟩
 still := by
  intro L K w w' G hI ht hG
  exact hI.still ht hG
 lt := fun L K w hI x hx => hI.lt x hx
theorem zero67 : (Tryz.prog.info? 227).map (fun i => (i.zero, i.size)) = some (some (.agg (Array.replicate 64 (.slice none 0 0))), 64) := by kernel_rfl
theorem index_row67 (w : World) {ks : List (Option KS)} (hl : ks.length = 64) {k : Nat} (hk : k < 64) : (Instr.index 227 (.agg (ks.map slotV).toArray) (.int .i64 k)).run Tryz.prog w = .ok (slotV (ks.getD k none)) w := by
 have h1 : (0 : Int) ≤ k ∧ (k : Int) < 64 := by omega
 obtain ⟨i, hi, _, hs, _⟩ := info_of info32
 have hc : (ks.map slotV).toArray[k]? = some (slotV (ks.getD k none)) := by
  rw [List.getElem?_toArray, List.getElem?_map, List.getD_eq_getElem?_getD, List.getElem?_eq_getElem (by omega)]
  rfl
 generalize (ks.map slotV).toArray = rs at *
 generalize slotV (ks.getD k none) = v at *
 simp [Instr.index, run_underlying Tryz.underlying227, part, h1, hc, go_sem]
 intro h2
 omega
theorem _root_.Go.Proofs.YtmhhahmjkopjhaaGreat.KLs.push2 {w0 w : World} {g : Option Nat} {cap : Nat} {l : List KS} (h : KLs w0 w g cap l) (ht : Touch [] w0 w) (k : KS) (hk : k.At w) (hk0 : w0.heap.size ≤ k.b) (hg : g ≠ some k.b) (hl : l.length ≤ 1000) :
  ∃ g' cap' w', (Builtin.append_ #[105, 105] 105 #[slV g l.length cap, .slice (some ⟨w.heap.size, 0, none⟩) 1 1]).run Tryz.prog (w.alloc (.cells #[k.v] 39)) = .ok (slV g' (l.length + 1) cap') w' ∧ KLs w0 w' g' cap' (l ++ [k]) ∧ Touch [] w0 w' ∧ Touch g.toList w w' := by
 obtain ⟨i, hi0, hz, hs, hb⟩ := info_of info32
 have hN := Blk.newA w #[k.v] _ 39 rfl
 have hta : Touch [] w (w.alloc (.cells #[k.v] 39)) := (Touch.refl _ w).alloc _
 have hL := h.touch hta (by simp)
 obtain ⟨g', cap', w', hr, h2, h3, h4, h5⟩ := run_append_row (P := Tryz.prog) (w.alloc (.cells #[k.v] 39)) 105 105 39 i (.slice none 0 0) 1 Tryz.underlying105 hi0 hz hs rfl (by omega) g l.length cap _ hL.row ⟨w.heap.size, 0, none⟩ 1 1 [k.v] rfl
  (fun j u hj => by
   rw [Addr.add_lit]
   have : j = 0 := by have := (List.getElem?_eq_some_iff.1 hj).1; simp at this; exact this
   subst this
   exact hN.cell hj) (fun u hu => by
   simp only [List.mem_singleton] at hu
   subst hu
   rfl) (by rw [hb]; omega) (by omega)
 have ht2 := ht.trans hta (by simp)
 have hsz := ht2.size
 have hkeys : ∀ x ∈ l ++ [k], x.At w ∧ w0.heap.size ≤ x.b ∧ g ≠ some x.b := by
  intro x hx
  rcases List.mem_append.1 hx with hx | hx
  ·exact h.keys x hx
  ·simp only [List.mem_singleton] at hx
   subst hx
   exact ⟨hk, hk0, hg⟩
 refine ⟨g', cap', w', hr, ⟨by simpa using h2, fun b hb => ?_, fun x hx => ?_⟩, ht2.trans h3 (fun y hy => Or.inr (h.own y (by simpa using hy))), (Touch.nil hta).trans h3 (fun y hy => Or.inl hy)⟩
 ·rcases h4 with rfl | rfl
  ·exact h.own b hb
  ·injection hb with hb
   omega
 ·obtain ⟨a1, a2, a3⟩ := hkeys x hx
  refine ⟨(a1.touch hta (by simp)).touch h3 (fun hy => a3 (by simpa using hy)), a2, ?_⟩
  rcases h4 with rfl | rfl
  ·exact a3
  ·intro e
   injection e with e
   have := a1.lt
   rw [World.size_alloc] at e
   omega
def keysP (l : List (Option (List Int))) : List (List Int) := l.filterMap id
theorem keys_rows {w0 w w2 : World} {x : TX} (h : IAt w x) {xb tb : Nat} {K : List Nat} (hI : KeysI w0 xb tb x.X x.n (allT x.T []) K w2) :
  ∃ ks : List (Option KS), ks.length = 64 ∧ Blk w2 tb (ks.map slotV) 227 ∧ (∀ k, some k ∈ ks → k.At w2 ∧ w0.heap.size ≤ k.b ∧ k.b < w2.heap.size) ∧ keysOf ks = keysP x.l := by
 obtain ⟨⟨ks, h1, h2, h3, h4⟩, _, _, h7, _, _⟩ := hI
 refine ⟨ks, h1, h2, fun k hk => ⟨(h3 k hk).1, (h3 k hk).2.2.1, h7 _ (h3 k hk).2.1⟩, ?_⟩
 have hmap : ks.map (Option.map KS.bs) = x.l ++ List.replicate (64 - x.m) none := by
  have hlen := h.len
  have hm := h.m64
  refine List.ext_getElem? fun i => ?_
  by_cases hi : i < 64
  ·have hki : ks[i]? = some (ks.getD i none) := by rw [List.getD_eq_getElem?_getD, List.getElem?_eq_getElem (by omega)]; rfl
   have h5 := h4 i hi
   rw [List.getElem?_map, hki]
   simp only [Option.map_some]
   by_cases him : i < x.m
   ·rw [List.getElem?_append_left (by omega)]
    have hli : x.l[i]? = some (x.l.getD i none) := by rw [List.getD_eq_getElem?_getD, List.getElem?_eq_getElem (by omega)]; rfl
    rw [hli]
    congr 1
    cases hv : ks.getD i none with
    | none =>
     rw [hv] at h5
     have h6 := h.taken him
     rw [h5] at h6
     cases hw : x.l.getD i none with
     | none => rfl
     | some y => exact absurd (h6.2 (by rw [hw]; simp)) (by decide)
    | some k =>
     rw [hv] at h5
     obtain ⟨p, hp, he⟩ := h5
     obtain ⟨q, e1, e2⟩ := (mem_allT x.T [] (p, i)).1 hp
     have h8 := ((h.tied.at_ q i).1 e2).2
     rw [hli] at h8
     injection h8 with h8
     rw [h8]
     simp only [Option.map_some, he]
     have : p = q := by simpa using e1
     rw [this]
   ·rw [List.getElem?_append_right (by omega), List.getElem?_replicate, if_pos (by omega)]
    congr 1
    cases hv : ks.getD i none with
    | none => rfl
    | some k =>
     rw [hv] at h5
     obtain ⟨p, hp, he⟩ := h5
     obtain ⟨q, e1, e2⟩ := (mem_allT x.T [] (p, i)).1 hp
     have := h.tied.lt e2
     omega
  ·rw [List.getElem?_eq_none (by rw [List.length_map]; omega), List.getElem?_eq_none (by simp; omega)]
 have e : keysOf ks = (ks.map (Option.map KS.bs)).filterMap id := by
  unfold keysOf
  rw [List.filterMap_map]
  rfl
 rw [e, hmap, List.filterMap_append]
 have : (List.replicate (64 - x.m) (none : Option (List Int))).filterMap id = [] := by
  rw [List.filterMap_eq_nil_iff]
  intro a ha
  rw [List.mem_replicate] at ha
  rw [ha.2]
  rfl
 rw [this, List.append_nil]
 rfl
theorem ikeys_any {w : World} {x : TX} (h : IAt w x) :
  Calls Tryz.prog 146 #[.pointer (some ⟨x.X, 0, none⟩)] w fun e w' => (∃ v, e = .returned v ∧ KL w w' v (keysP x.l)) ∧ Touch [] w w' := by
 have hz := (zero_of_info (P := Tryz.prog) zero67).1
 have hsz := (zero_of_info (P := Tryz.prog) zero67).2
 have ht1 := ((Touch.refl [] w).alloc (.cells #[.pointer (some ⟨x.X, 0, none⟩)] 154)).alloc (.cells (Array.replicate 64 (.slice none 0 0)) 227)
 have hx1 := h.still ht1
 have c2 := hx1.c2
 have hB0 := (Blk.newA w #[.pointer (some ⟨x.X, 0, none⟩)] _ 154 rfl).alloc (.cells (Array.replicate 64 (.slice none 0 0)) 227)
 have hB1 := Blk.newA (w.alloc (.cells #[.pointer (some ⟨x.X, 0, none⟩)] 154)) (Array.replicate 64 (.slice none 0 0)) (List.replicate 64 (.slice none 0 0)) 227 (by simp)
 rw [World.size_alloc] at hB1
 have e0 := hB0.cell (i := 0) rfl
 have hlt := h.lt
 have hXw : x.X < w.heap.size := h.self.lt
 have hI0 : KeysI w w.heap.size (w.heap.size + 1) x.X x.n [] [w.heap.size, w.heap.size + 1, x.X] ((w.alloc (.cells #[.pointer (some ⟨x.X, 0, none⟩)] 154)).alloc (.cells (Array.replicate 64 (.slice none 0 0)) 227)) := by
  refine ⟨⟨List.replicate 64 none, by simp, by rw [List.map_replicate]; exact hB1, (fun k hk => by rw [List.mem_replicate] at hk; cases hk.2), fun i hi => ?_⟩, ⟨e0, hx1.c0⟩, ⟨by simp, by simp, by simp⟩, fun y hy => ?_, by simp; omega, ⟨by omega, by omega⟩⟩
  ·rw [List.getD_eq_getElem?_getD, List.getElem?_replicate, if_pos hi]
   rfl
  ·simp at hy ⊢
   omega
 have H1 := each_keys w.heap.size (w.heap.size + 1) (keys_teller w w.heap.size (w.heap.size + 1) x.X x.n h.n12) x.T _ none 0 [] [] _ hx1.tree (fun y hy => by
   obtain ⟨q, e1, h2⟩ := (mem_allT x.T [] y).1 hy
   have := hx1.slot h2
   rw [e1]
   exact this) hI0 ⟨rfl, Nat.le_refl _, by unfold maxLen; omega, rfl⟩ (fun b hb => by cases hb) (fun y hy hx => by
   simp at hy
   subst hy
   have := h.tree.lt _ hx
   omega) (fun y hy => by simp at hy; subst hy; simp) (by have := hx1.dep; have := hx1.n12; simp; omega)
 rw [ptr_ad x.T, List.nil_append] at H1
 have H2 := toHid H1
 have HH := toHid (And.intro h ht1)
 clear H1 hI0 hB0 hB1 hx1 ht1 h hlt
 go_enter Tryz.func146, Tryz.ntmps146
 go_wp2_with fail
 refine Calls.mono H2.out ?_
 rintro e w2 ⟨rfl, K', hI, _, _, ht2⟩
 have HT2 : Hid (Touch [] w w2) := HH.out.2.trans ht2 (fun y hy => Or.inr (by simp at hy; omega))
 obtain ⟨ks, k1, k2, k3, k4⟩ := keys_rows HH.out.1 hI
 have HK := toHid (And.intro k1 (And.intro k3 k4))
 have HB := toHid k2
 clear ht2 hI k3 k4 H2 c2 e0 k2
 go_wp2_with (refine wpList_load_row rfl 227 _ rfl (w.heap.size + 1) rfl 227 _ (0, 0) _ HB.out Tryz.underlying227 rfl (by rw [hsz]; simp [k1]) ?_)
 clear hz hsz
 generalize hRS : (ks.map slotV).toArray = rs at *
 have HRS := toHid hRS
 clear hRS
 go_loopw [4, 16] (fun o t w' => ∃ k : Nat, k ≤ 64 ∧ t = .int .i64 k ∧ Hid (∃ g cap l, o = slV g l.length cap ∧ KLs w w' g cap l ∧ l.map KS.bs = keysOf (ks.take k) ∧ l.length ≤ k ∧ Touch [] w w' ∧ ∀ y, some y ∈ ks → y.At w')) (fun _ t _ => 64 - (intOf t).toNat)
 case atStart => exact ⟨0, by omega, rfl, none, 0, [], rfl, ⟨⟨rfl, Nat.le_refl _, by unfold maxLen; omega, rfl⟩, fun b hb => (by cases hb), fun k hk => absurd hk (by simp)⟩, rfl, by simp, HT2.out, fun y hy => (HK.out.2.1 y hy).1⟩
 case round =>
  obtain ⟨k, hk, rfl, HI⟩ := hrel
  obtain ⟨g, cap, l, rfl, hKL, hbs, hll, ht, hyy⟩ := HI.out
  by_cases hlt : k < 64
  ·have hkl : k < ks.length := by omega
   have hget : ks[k]? = some (ks.getD k none) := by rw [List.getD_eq_getElem?_getD, List.getElem?_eq_getElem hkl]; rfl
   have hks := keysOf_snoc hkl
   have hix := index_row67 wr HK.out.1 hlt
   rw [HRS.out] at hix
   cases hs : ks.getD k none with
   | none =>
    rw [hs] at hix hks
    unfold slotV at hix
    have HN : Hid (∃ g' cap' l', slV g l.length cap = slV g' l'.length cap' ∧ KLs w wr g' cap' l' ∧ l'.map KS.bs = keysOf (ks.take (k + 1)) ∧ l'.length ≤ k + 1 ∧ Touch [] w wr ∧ ∀ y, some y ∈ ks → y.At wr) := ⟨g, cap, l, rfl, hKL, by rw [hks, hbs, List.append_nil], by omega, ht, hyy⟩
    unfold slV
    clear hget hs hkl hks hKL hbs ht HI k1 hyy
    go_wp2
    go_roundw
    case rel => exact ⟨k + 1, by omega, by go_num, HN⟩
    case measure => simp [intOf]; omega
   | some y =>
    rw [hs] at hix hks
    unfold slotV at hix
    obtain ⟨hyA, hyw, hyl⟩ := HK.out.2.1 y (by rw [hs] at hget; exact List.mem_of_getElem? hget)
    have hyA2 := hyy y (by rw [hs] at hget; exact List.mem_of_getElem? hget)
    have hgk : ∀ z : KS, z.At wr → g ≠ some z.b := fun z hz e => by
     have hr := hKL.row
     rw [e] at hr
     obtain ⟨_, _, _, rest, hB1, _⟩ := hr
     obtain ⟨⟨r2, fz, hB2, _⟩, _⟩ := hz
     unfold Blk at hB1
     rw [hB1] at hB2
     injection hB2 with hB2
     injection hB2 with _ hB2
     cases hB2
    obtain ⟨g2, cap2, w3, hr2, hK2, ht3, ht4⟩ := hKL.push2 ht y hyA2 hyw (hgk y hyA2) (by omega)
    have HN : Hid (∃ g' cap' l', slV g2 (l.length + 1) cap2 = slV g' l'.length cap' ∧ KLs w w3 g' cap' l' ∧ l'.map KS.bs = keysOf (ks.take (k + 1)) ∧ l'.length ≤ k + 1 ∧ Touch [] w w3 ∧ ∀ y, some y ∈ ks → y.At w3) :=
     ⟨g2, cap2, l ++ [y], by simp, hK2, by rw [hks, List.map_append, hbs]; rfl, by simp; omega, ht3, fun z hz => (hyy z hz).touch ht4 (fun hx => hgk z (hyy z hz) (by simpa using hx))⟩
    have HR2 := toHid hr2
    unfold KS.v at HR2 hix
    clear hget hs hkl hks hKL hbs ht HI hr2 hyA hyA2 hK2 ht3 ht4 hgk k1 hyw hyl hyy
    generalize hv2 : slV g2 (l.length + 1) cap2 = v2 at *
    clear hv2
    unfold slV at HR2 ⊢
    go_wp2_with (first | (at_builtin; refine Lib.wpList_append_run _ rfl _ _ _ _ rfl _ _ rfl rfl _ _ HR2.out ?_))
    go_roundw
    case rel => exact ⟨k + 1, by omega, by go_num, HN⟩
    case measure => simp [intOf]; omega
  ·obtain rfl : k = 64 := by omega
   have HII : Hid ((∃ v, slV g l.length cap = v ∧ KL w wr v (keysP x.l)) ∧ Touch [] w wr) := ⟨⟨_, rfl, g, cap, l, rfl, hKL, by rw [hbs, List.take_of_length_le (by have := HK.out.1; omega), HK.out.2.2]⟩, ht⟩
   generalize slV g l.length cap = v2 at *
   clear hKL hbs ht HI hyy
   go_wp2
   go_ret
   obtain ⟨⟨v, rfl, h1⟩, h2⟩ := HII.out
   exact ⟨⟨_, rfl, h1⟩, h2⟩
end Go.Proofs.YtmhhahmjkopjhaaGreat.Lpm
end
section
namespace Go.Proofs.YtmhhahmjkopjhaaGreat
open Go.RowKit
def KIs (w : World) (X : Nat) (bl : List Nat) (q : PX) : Prop :=
 (q.kind = 0 ∧ bl = [X] ∧ q.size = 4 ∧ ∃ m, Arr.IdxAt w X m ∧ q.slots = (allKeys m).map some) ∨
 (q.kind = 1 ∧ ∃ b n : Nat, q.size = n ∧ bl = [X, b] ∧ HAt w ⟨X, b, n, q.slots⟩) ∨
 (q.kind = 2 ∧ ∃ x : LX, q.size = x.size ∧ bl = x.own ∧ x.X = X ∧ x.l = q.slots ∧ LAt w x ∧ Tied x.l x.ord q) ∨
 (q.kind = 3 ∧ ∃ x : Lpm.TX, q.size = (x.n : Int) + 4 ∧ bl = x.own ∧ x.X = X ∧ x.l = q.slots ∧ Lpm.IAt w x)
structure KAt (w : World) (X : Nat) (bl : List Nat) (q : PX) : Prop where
 good : PGood q
 is : KIs w X bl q
theorem KAt.touch {S : List Nat} {w w' : World} {X : Nat} {bl : List Nat} {q : PX} (h : KAt w X bl q) (ht : Touch S w w') (hS : ∀ b ∈ bl, b ∉ S) : KAt w' X bl q := by
 refine ⟨h.good, ?_⟩
 rcases h.is with ⟨a1, rfl, a3, m, a4, a5⟩ | ⟨a1, b, n, a2, rfl, a4⟩ | ⟨a1, x, a2, rfl, a4, a5, a6, a7⟩ | ⟨a1, x, a2, rfl, a4, a5, a6⟩
 ·exact Or.inl ⟨a1, rfl, a3, m, a4.touch ht (hS _ (by simp)), a5⟩
 ·exact Or.inr (Or.inl ⟨a1, b, n, a2, rfl, a4.touch ht (hS _ (by simp)) (hS _ (by simp))⟩)
 ·exact Or.inr (Or.inr (Or.inl ⟨a1, x, a2, rfl, a4, a5, a6.touch ht hS, a7⟩))
 ·exact Or.inr (Or.inr (Or.inr ⟨a1, x, a2, rfl, a4, a5, a6.touch ht hS⟩))
theorem KAt.still {w w' : World} {X : Nat} {bl : List Nat} {q : PX} (h : KAt w X bl q) (ht : Touch [] w w') : KAt w' X bl q := h.touch ht (by simp)
theorem KAt.lt {w : World} {X : Nat} {bl : List Nat} {q : PX} (h : KAt w X bl q) : ∀ b ∈ bl, b < w.heap.size := by
 rcases h.is with ⟨a1, rfl, a3, m, a4, a5⟩ | ⟨a1, b, n, a2, rfl, a4⟩ | ⟨a1, x, a2, rfl, a4, a5, a6, a7⟩ | ⟨a1, x, a2, rfl, a4, a5, a6⟩
 ·intro y hy
  simp at hy
  rw [hy]
  exact a4.1.lt
 ·intro y hy
  simp at hy
  rcases hy with rfl | rfl
  ·exact a4.lt.1
  ·exact a4.lt.2
 ·exact a6.lt
 ·exact a6.lt
def KStep (w w' : World) (X : Nat) (bl : List Nat) (q : PX) : Prop := ∃ bl', KAt w' X bl' q ∧ Touch bl w w' ∧ ∀ b ∈ bl', b ∈ bl ∨ w.heap.size ≤ b
theorem KeyAt.over {w w' : World} {S : List Nat} {sa : Option Addr} {sl : Nat} {bs : List Int} (h : KeyAt w sa sl bs) (ht : Touch S w w') (hS : ∀ b off, sa = some ⟨b, off, none⟩ → 1 ≤ bs.length → b ∉ S) : KeyAt w' sa sl bs := by
 obtain ⟨h1, h2, h3, h4⟩ := h
 refine ⟨h1, h2, h3, fun hp => ?_⟩
 obtain ⟨b, off, ha, hb⟩ := h4 hp
 exact ⟨b, off, ha, fun j hj => ht.cell (hb j hj) (hS b off ha hp)⟩
theorem num_le4 (n : Int) (h0 : 0 ≤ n) (h1 : n ≤ 4294967295) : keyNum (le4 n) = n := by
 show 0 + byteOf n 0 * 1 + byteOf n 1 * 256 + byteOf n 2 * 65536 + byteOf n 3 * 16777216 = n
 show 0 + n / 1 % 256 * 1 + n / 256 % 256 * 256 + n / 65536 % 256 * 65536 + n / 16777216 % 256 * 16777216 = n
 omega
theorem le4_numA {bs : List Int} (h : ∀ x ∈ bs, 0 ≤ x ∧ x ≤ 255) (h4 : bs.length = 4) : le4 (keyNum bs) = bs := by
 match bs, h4 with
 | [a, b, c, d], _ =>
  have ha := h a (by simp)
  have hb := h b (by simp)
  have hc := h c (by simp)
  have hd := h d (by simp)
  have hn : keyNum [a, b, c, d] = 0 + a * 1 + b * 256 + c * 65536 + d * 16777216 := rfl
  rw [le4_eq, hn]
  show [(0 + a * 1 + b * 256 + c * 65536 + d * 16777216) / 1 % 256, (0 + a * 1 + b * 256 + c * 65536 + d * 16777216) / 256 % 256, (0 + a * 1 + b * 256 + c * 65536 + d * 16777216) / 65536 % 256, (0 + a * 1 + b * 256 + c * 65536 + d * 16777216) / 16777216 % 256] = [a, b, c, d]
  simp only [List.cons.injEq, and_true]
  omega
theorem sameP_get {l : List (Option (List Int))} {bs : List Int} {i : Nat} (h : sameP l bs = some i) : l[i]? = some (some bs) := by
 unfold sameP at h
 rw [List.findIdx?_eq_some_iff_getElem] at h
 obtain ⟨hi, h1, _⟩ := h
 rw [List.getElem?_eq_getElem hi]
 simpa using h1
theorem sameP_all {m : Nat} (hm : m ≤ 64) {bs : List Int} (h : ∀ x ∈ bs, 0 ≤ x ∧ x ≤ 255) (h4 : bs.length = 4) (h0 : 0 ≤ keyNum bs) : sameP ((allKeys m).map some) bs = if keyNum bs < m then some (keyNum bs).toNat else none := by
 have hget : ∀ j : Nat, j < m → ((allKeys m).map some)[j]? = some (some (le4 (j : Int))) := fun j hj => by
  rw [allKeys, List.map_map, List.getElem?_map, List.getElem?_range hj]
  rfl
 have hlen : ((allKeys m).map some).length = m := by simp [allKeys]
 cases hs : sameP ((allKeys m).map some) bs with
 | some i =>
  have h1 := sameP_get hs
  have hi : i < m := by
   have := (List.getElem?_eq_some_iff.1 h1).1
   omega
  rw [hget i hi] at h1
  injection h1 with h1
  injection h1 with h1
  have h2 : keyNum bs = i := by rw [← h1, num_le4 _ (by omega) (by omega)]
  rw [if_pos (by omega)]
  congr 1
  omega
 | none =>
  by_cases hk : keyNum bs < m
  ·exfalso
   unfold sameP at hs
   rw [List.findIdx?_eq_none_iff] at hs
   have h1 := hget (keyNum bs).toNat (by omega)
   have h2 := hs _ (List.mem_of_getElem? h1)
   rw [show (((keyNum bs).toNat : Nat) : Int) = keyNum bs by omega, le4_numA h h4] at h2
   simp at h2
  ·rw [if_neg hk]
def findF (k : Int) : Nat := if k = 0 then 119 else if k = 1 then 126 else if k = 2 then 134 else 145
def putF (k : Int) : Nat := if k = 0 then 121 else if k = 1 then 128 else if k = 2 then 136 else 147
def delF (k : Int) : Nat := if k = 0 then 118 else if k = 1 then 125 else if k = 2 then 133 else 144
def keysF (k : Int) : Nat := if k = 0 then 120 else if k = 1 then 127 else if k = 2 then 135 else 146
def copyF (k : Int) : Nat := if k = 0 then 68 else if k = 1 then 69 else if k = 2 then 70 else 71
def typF (k : Int) : Nat := if k = 0 then 148 else if k = 1 then 150 else if k = 2 then 152 else 154
theorem pfind_ne {q : PX} (hk : ¬ q.kind = 3) (bs : List Int) : q.findA bs = q.find bs := by unfold PX.findA; rw [if_neg hk]
theorem pput_ne {q : PX} (hk : ¬ q.kind = 3) (bs : List Int) (fl : Int) : q.putA bs fl = q.put bs fl := by unfold PX.putA; rw [if_neg hk]
theorem pdel_ne {q : PX} (hk : ¬ q.kind = 3) (bs : List Int) : q.delA bs = q.del bs := by unfold PX.delA; rw [if_neg hk]
theorem pfind_slots (q : PX) (bs : List Int) : (q.findA bs).2.slots = q.slots := by
 unfold PX.findA PX.find3 PX.find
 repeat' split
 all_goals rfl
def KFindPost (w : World) (X : Nat) (bl : List Nat) (a : Option Nat × PX) (e : Ending) (w' : World) : Prop := e = .returned (foundV a.1) ∧ KStep w w' X bl a.2
theorem fV_found (o : Option Nat) : Lpm.fV o = foundV o := by cases o <;> rfl
theorem pfits {q : PX} {n : Nat} (h : q.size = (n : Int) + 4) (bs : List Int) : q.fits3 bs = Lpm.fitsK bs n := by
 unfold PX.fits3 Lpm.fitsK
 rw [h]
 congr 1
 ·by_cases e : bs.length = n + 4
  ·rw [decide_eq_true e, decide_eq_true (by omega)]
  ·rw [decide_eq_false e, decide_eq_false (by omega)]
 ·by_cases e : keyNum bs ≤ 8 * (n : Int)
  ·rw [decide_eq_true e, decide_eq_true (by omega)]
  ·rw [decide_eq_false e, decide_eq_false (by omega)]
theorem kfind_any {w : World} {X : Nat} {bl : List Nat} {q : PX} (h : KAt w X bl q) {sa : Option Addr} {sl : Nat} {bs : List Int} (hk : KeyAt w sa sl bs) (sc : Nat) (hsc : sl ≤ sc) :
  Calls Tryz.prog (findF q.kind) #[.pointer (some ⟨X, 0, none⟩), .slice sa sl sc] w (KFindPost w X bl (q.findA bs)) := by
 have hg := h.good.findA bs
 have hsl := pfind_slots q bs
 have hk1 := hg.2.kind
 have hk2 := hg.2.size
 rcases h.is with ⟨a1, rfl, a3, m, a4, a5⟩ | ⟨a1, b, n, a2, rfl, a4⟩ | ⟨a1, x, a2, rfl, rfl, a5, a6, a7⟩ | ⟨a1, x, a2, rfl, rfl, a5, a6⟩
 ·rw [show findF q.kind = 119 by rw [a1]; rfl]
  refine (Arr.find_any a4 hk sc).mono fun e w' ⟨he, hw⟩ => ?_
  subst hw
  refine ⟨?_, [X], ⟨hg.1, Or.inl ⟨by rw [hk1, a1], rfl, by rw [hk2, a3], m, a4, by rw [hsl, a5]⟩⟩, Touch.refl _ _, fun b hb => Or.inl hb⟩
  rw [he, pfind_ne (by rw [a1]; decide)]
  congr 1
  unfold PX.find Arr.findI
  rw [a3, a5]
  by_cases h4 : bs.length = 4
  ·rw [if_pos h4, if_pos (show ((bs.length : Nat) : Int) = 4 by omega), sameP_all a4.2.2 hk.2.1 h4 hk.num4.1]
   unfold Arr.slotI
   have h0 := hk.num4.1
   by_cases hlt : keyNum bs < m
   ·rw [if_pos hlt, if_pos hlt]
    show Value.tuple #[.int .i64 (keyNum bs), .bool true] = .tuple #[.int .i64 (((keyNum bs).toNat : Nat) : Int), .bool true]
    rw [Int.toNat_of_nonneg h0]
   ·rw [if_neg hlt, if_neg hlt]
    rfl
  ·rw [if_neg h4, if_neg (show ¬ ((bs.length : Nat) : Int) = 4 by omega)]
   rfl
 ·rw [show findF q.kind = 126 by rw [a1]; rfl]
  refine (find_any a4 hk sc).mono fun e w' ⟨he, ht⟩ => ?_
  refine ⟨?_, [X, b], ⟨hg.1, Or.inr (Or.inl ⟨by rw [hk1, a1], b, n, by rw [hk2, a2], rfl, by rw [hsl]; exact a4.touch ht (by simp) (by simp)⟩)⟩, ht.mono (by simp), fun b hb => Or.inl hb⟩
  rw [he, pfind_ne (by rw [a1]; decide)]
  unfold PX.find HX.find
  by_cases e1 : bs.length = n
  ·rw [if_pos e1, if_pos (by rw [a2, e1])]
  ·rw [if_neg e1, if_neg (by rw [a2]; omega)]
 ·rw [show findF q.kind = 134 by rw [a1]; rfl]
  obtain ⟨t1, t2, _⟩ := a7.find a2 bs
  refine (lfind_any a6 a7.ok hk sc).mono fun e w' ⟨he, hs⟩ => ?_
  obtain ⟨g, cap, hA, ht, hb⟩ := hs
  refine ⟨?_, ({ x with g := g, cap := cap, ord := (x.find bs).2 } : LX).own, ⟨hg.1, Or.inr (Or.inr (Or.inl ⟨by rw [hk1, a1], _, by rw [hk2, a2], rfl, rfl, by rw [hsl]; exact a5, hA, by rw [pfind_ne (by rw [a1]; decide)]; exact t2⟩))⟩, ht, fun b hx => ?_⟩
  ·rw [he, pfind_ne (by rw [a1]; decide), t1]
  ·simp only [LX.own, List.mem_cons, Option.mem_toList] at hx ⊢
   rcases hx with rfl | rfl | hx
   ·exact Or.inl (Or.inl rfl)
   ·exact Or.inl (Or.inr (Or.inl rfl))
   ·have := hb b hx
    simpa [LX.own] using this
 ·rw [show findF q.kind = 145 by rw [a1]; rfl]
  refine (Lpm.ifind_any a6 hk sc hsc).mono fun e w' ⟨he, ht⟩ => ?_
  refine ⟨?_, x.own, ⟨hg.1, Or.inr (Or.inr (Or.inr ⟨by rw [hk1, a1], x, by rw [hk2, a2], rfl, rfl, by rw [hsl]; exact a5, a6.still ht⟩))⟩, ht.mono (by simp), fun b hb => Or.inl hb⟩
  rw [he, fV_found]
  congr 2
  unfold PX.findA
  rw [if_pos a1]
  unfold PX.find3 Lpm.TX.find
  rw [pfits a2, a5]
  split <;> rfl
end Go.Proofs.YtmhhahmjkopjhaaGreat
end
section
namespace Go.Proofs.YtmhhahmjkopjhaaGreat
open Go.RowKit
def KPutPost (w : World) (X : Nat) (bl : List Nat) (a : (Int × Bool × Int) × PX) (e : Ending) (w' : World) : Prop := e = .returned (.tuple #[.int .i64 a.1.1, .bool a.1.2.1, .int .i64 a.1.2.2]) ∧ KStep w w' X bl a.2
def KDelPost (w : World) (X : Nat) (bl : List Nat) (a : (Int × Int) × PX) (e : Ending) (w' : World) : Prop := e = .returned (.tuple #[.int .i64 a.1.1, .int .i64 a.1.2]) ∧ KStep w w' X bl a.2
theorem put0_slots {q : PX} (a1 : q.kind = 0) (bs : List Int) (fl : Int) : (q.put bs fl).2.slots = q.slots := by
 unfold PX.put
 split
 ·split
  ·rfl
  ·cases sameP q.slots bs with
   | some i =>
    dsimp only
    split <;> rfl
   | none => simp only []
 ·rfl
theorem put1_tie {x : HX} {q : PX} (hkd : q.kind = 1) (hs : q.size = x.size) (hk : q.slots = x.l) (bs : List Int) (fl : Int) : (q.put bs fl).1 = (x.put bs fl).1 ∧ (q.put bs fl).2.slots = (x.put bs fl).2 := by
 unfold PX.put HX.put
 by_cases e : bs.length = x.size
 ·rw [if_pos e, if_pos (by rw [hs, e])]
  by_cases h2 : 2 < fl
  ·rw [if_pos h2, if_pos h2]
   exact ⟨rfl, hk⟩
  ·rw [if_neg h2, if_neg h2, hk]
   cases hsm : sameP x.l bs with
   | some i =>
    by_cases h1 : fl = 1
    ·simp only [if_pos h1]
     exact ⟨by trivial, hk⟩
    ·simp only [if_neg h1]
     exact ⟨by trivial, hk⟩
   | none =>
    have hk0 : ¬ q.kind = 0 := by rw [hkd]; decide
    have hk2 : ¬ q.kind = 2 := by rw [hkd]; decide
    simp only [if_neg hk0]
    by_cases h1 : fl = 2
    ·simp only [if_pos h1]
     exact ⟨by trivial, hk⟩
    ·simp only [if_neg h1]
     unfold PX.room
     rw [hk]
     cases hf : freeP x.l with
     | none =>
      simp only [if_neg hk2]
      exact ⟨by trivial, hk⟩
     | some f =>
      refine ⟨rfl, ?_⟩
      show q.slots.set f (some bs) = _
      rw [hk]
 ·rw [if_neg e, if_neg (by rw [hs]; omega)]
  exact ⟨rfl, hk⟩
theorem del1_tie {x : HX} {q : PX} (hkd : q.kind = 1) (hs : q.size = x.size) (hk : q.slots = x.l) (bs : List Int) : (q.del bs).1 = (x.del bs).1 ∧ (q.del bs).2.slots = (x.del bs).2 := by
 unfold PX.del HX.del
 rw [if_neg (show ¬ q.kind = 0 by rw [hkd]; decide)]
 by_cases e : bs.length = x.size
 ·rw [if_pos e, if_pos (by rw [hs, e]), hk]
  cases hsm : sameP x.l bs with
  | none => exact ⟨rfl, hk⟩
  | some i => exact ⟨rfl, rfl⟩
 ·rw [if_neg e, if_neg (by rw [hs]; omega)]
  exact ⟨rfl, hk⟩
theorem put3_tie {x : Lpm.TX} {q : PX} (hs : q.size = (x.n : Int) + 4) (hk : q.slots = x.l) {bs : List Int} (hb : ∀ y ∈ bs, 0 ≤ y ∧ y ≤ 255) (fl : Int) : (q.put3 bs fl).1 = (x.put bs fl).1 ∧ (q.put3 bs fl).2.slots = (x.put bs fl).2 := by
 have hf := pfits hs bs
 unfold PX.put3 Lpm.TX.put Lpm.TX.add
 rw [hf, hk]
 cases hfk : Lpm.fitsK bs x.n with
 | false => exact ⟨rfl, hk⟩
 | true =>
  have hl := (Lpm.fitsK_len hfk).1
  have hc := Lpm.cutP_key (by omega) hb
  rw [hl, Nat.add_sub_cancel] at hc
  rw [if_pos rfl, if_pos rfl, hc]
  split
  ·exact ⟨rfl, hk⟩
  ·cases sameP x.l (Lpm.keyP (Lpm.pathP bs) x.n) with
   | some i =>
    dsimp only
    split
    ·exact ⟨rfl, hk⟩
    ·exact ⟨rfl, hk⟩
   | none =>
    dsimp only
    split
    ·exact ⟨rfl, hk⟩
    ·cases freeP x.l with
     | none => exact ⟨rfl, hk⟩
     | some f =>
      refine ⟨rfl, ?_⟩
      show q.slots.set f _ = _
      rw [hk]
theorem del3_tie {x : Lpm.TX} {q : PX} (hs : q.size = (x.n : Int) + 4) (hk : q.slots = x.l) {bs : List Int} (hb : ∀ y ∈ bs, 0 ≤ y ∧ y ≤ 255) : (q.del3 bs).1 = (x.del bs).1 ∧ (q.del3 bs).2.slots = (x.del bs).2 := by
 have hf := pfits hs bs
 unfold PX.del3 Lpm.TX.del
 rw [hf, hk]
 cases hfk : Lpm.fitsK bs x.n with
 | false => exact ⟨rfl, hk⟩
 | true =>
  have hl := (Lpm.fitsK_len hfk).1
  have hc := Lpm.cutP_key (by omega) hb
  rw [hl, Nat.add_sub_cancel] at hc
  rw [if_pos rfl, if_pos rfl, hc]
  cases sameP x.l (Lpm.keyP (Lpm.pathP bs) x.n) with
  | some i => exact ⟨rfl, rfl⟩
  | none => exact ⟨rfl, hk⟩
theorem kput_any {w : World} {X : Nat} {bl : List Nat} {q : PX} (h : KAt w X bl q) {sa : Option Addr} {sl : Nat} {bs : List Int} (hk : KeyAt w sa sl bs) (hout : ∀ b off, sa = some ⟨b, off, none⟩ → 1 ≤ bs.length → b ∉ bl) (sc : Nat) (hsc : sl ≤ sc) (fl : Int) (f0 : 0 ≤ fl) :
  Calls Tryz.prog (putF q.kind) #[.pointer (some ⟨X, 0, none⟩), .slice sa sl sc, .int .u64 fl] w (KPutPost w X bl (q.putA bs fl)) := by
 have hg := h.good.putA bs fl
 have hk1 := hg.2.kind
 have hk2 := hg.2.size
 rcases h.is with ⟨a1, rfl, a3, m, a4, a5⟩ | ⟨a1, b, n, a2, rfl, a4⟩ | ⟨a1, x, a2, rfl, rfl, a5, a6, a7⟩ | ⟨a1, x, a2, rfl, rfl, a5, a6⟩
 ·rw [show putF q.kind = 121 by rw [a1]; rfl]
  refine (Arr.put_any a4 hk sc fl f0).mono fun e w' ⟨he, hw⟩ => ?_
  subst hw
  rw [pput_ne (by rw [a1]; decide)] at *
  have hsl := put0_slots a1 bs fl
  refine ⟨?_, [X], ⟨hg.1, Or.inl ⟨by rw [hk1, a1], rfl, by rw [hk2, a3], m, a4, by rw [hsl, a5]⟩⟩, Touch.refl _ _, fun b hb => Or.inl hb⟩
  have hv : (q.put bs fl).1 = ((Arr.putI m bs fl).1, false, (Arr.putI m bs fl).2) := by
   unfold PX.put Arr.putI
   rw [a3]
   by_cases h4 : bs.length = 4
   ·rw [if_pos h4, if_pos (show ((bs.length : Nat) : Int) = 4 by omega), a5, sameP_all a4.2.2 hk.2.1 h4 hk.num4.1]
    by_cases h2 : 2 < fl
    ·rw [if_pos h2, if_pos h2]
    ·rw [if_neg h2, if_neg h2]
     have h0 := hk.num4.1
     by_cases hlt : keyNum bs < m
     ·simp only [if_pos hlt]
      by_cases h1 : fl = 1
      ·simp only [if_pos h1]
      ·simp only [if_neg h1]
       rw [Int.toNat_of_nonneg h0]
     ·simp only [if_neg hlt, if_pos a1]
   ·rw [if_neg h4, if_neg (show ¬ ((bs.length : Nat) : Int) = 4 by omega)]
  rw [he, hv]
 ·rw [show putF q.kind = 128 by rw [a1]; rfl]
  refine (put_any a4 hk sc fl f0).mono fun e w' ⟨he, hA, ht⟩ => ?_
  rw [pput_ne (by rw [a1]; decide)] at *
  obtain ⟨t1, t2⟩ := put1_tie (x := ⟨X, b, n, q.slots⟩) a1 a2 rfl bs fl
  refine ⟨by rw [he, t1], [X, b], ⟨hg.1, Or.inr (Or.inl ⟨by rw [hk1, a1], b, n, by rw [hk2, a2], rfl, by rw [t2]; exact hA⟩)⟩, ht.mono (fun y hy => Or.inl (List.mem_cons_of_mem _ hy)), fun b hb => Or.inl hb⟩
 ·rw [show putF q.kind = 136 by rw [a1]; rfl]
  obtain ⟨t1, t2, _⟩ := a7.put a2 a6.m1 bs fl
  refine (lput_any a6 a7.ok (fun w' ht => hk.over ht hout) sc fl f0).mono fun e w' ⟨he, hs⟩ => ?_
  rw [pput_ne (by rw [a1]; decide)] at *
  obtain ⟨g, cap, hA, ht, hb⟩ := hs
  refine ⟨by rw [he, t1], ({ x with l := (x.put bs fl).2.1, g := g, cap := cap, ord := (x.put bs fl).2.2 } : LX).own, ⟨hg.1, Or.inr (Or.inr (Or.inl ⟨by rw [hk1, a1], _, by rw [hk2, a2], rfl, rfl, t2.slots.symm, hA, t2⟩))⟩, ht, fun b hx => ?_⟩
  simp only [LX.own, List.mem_cons, Option.mem_toList] at hx ⊢
  rcases hx with rfl | rfl | hx
  ·exact Or.inl (Or.inl rfl)
  ·exact Or.inl (Or.inr (Or.inl rfl))
  ·have := hb b hx
   simpa [LX.own] using this
 ·rw [show putF q.kind = 147 by rw [a1]; rfl]
  refine (Lpm.iput_any a6 hk sc hsc fl f0).mono fun e w' ⟨he, hs⟩ => ?_
  rw [show q.putA bs fl = q.put3 bs fl by unfold PX.putA; rw [if_pos a1]] at *
  obtain ⟨t1, t2⟩ := put3_tie a2 a5.symm hk.2.1 fl
  obtain ⟨T', hA, ht, hb⟩ := hs
  refine ⟨by rw [he, t1]; rfl, ({ x with T := T', l := (x.put bs fl).2 } : Lpm.TX).own, ⟨hg.1, Or.inr (Or.inr (Or.inr ⟨by rw [hk1, a1], _, by rw [hk2, a2], rfl, rfl, t2.symm, hA⟩))⟩, ht, fun b hx => ?_⟩
  simp only [Lpm.TX.own, List.mem_cons] at hx
  rcases hx with rfl | hx
  ·exact Or.inl (by simp [Lpm.TX.own])
  ·exact hb b hx
theorem kdel_any {w : World} {X : Nat} {bl : List Nat} {q : PX} (h : KAt w X bl q) {sa : Option Addr} {sl : Nat} {bs : List Int} (hk : KeyAt w sa sl bs) (sc : Nat) (hsc : sl ≤ sc) :
  Calls Tryz.prog (delF q.kind) #[.pointer (some ⟨X, 0, none⟩), .slice sa sl sc] w (KDelPost w X bl (q.delA bs)) := by
 have hg := h.good.delA bs
 have hk1 := hg.2.kind
 have hk2 := hg.2.size
 rcases h.is with ⟨a1, rfl, a3, m, a4, a5⟩ | ⟨a1, b, n, a2, rfl, a4⟩ | ⟨a1, x, a2, rfl, rfl, a5, a6, a7⟩ | ⟨a1, x, a2, rfl, rfl, a5, a6⟩
 ·rw [show delF q.kind = 118 by rw [a1]; rfl]
  refine (Arr.del_any w X sa sl sc).mono fun e w' ⟨he, hw⟩ => ?_
  subst hw
  have hd : q.delA bs = ((0, 2), q) := by
   rw [pdel_ne (by rw [a1]; decide)]
   unfold PX.del
   rw [if_pos a1]
  rw [hd]
  exact ⟨he, [X], h, Touch.refl _ _, fun b hb => Or.inl hb⟩
 ·rw [show delF q.kind = 125 by rw [a1]; rfl]
  refine (del_any a4 hk sc).mono fun e w' ⟨he, hA, ht⟩ => ?_
  rw [pdel_ne (by rw [a1]; decide)] at *
  obtain ⟨t1, t2⟩ := del1_tie (x := ⟨X, b, n, q.slots⟩) a1 a2 rfl bs
  refine ⟨by rw [he, t1], [X, b], ⟨hg.1, Or.inr (Or.inl ⟨by rw [hk1, a1], b, n, by rw [hk2, a2], rfl, by rw [t2]; exact hA⟩)⟩, ht.mono (fun y hy => Or.inl (List.mem_cons_of_mem _ hy)), fun b hb => Or.inl hb⟩
 ·rw [show delF q.kind = 133 by rw [a1]; rfl]
  obtain ⟨t1, t2, _⟩ := a7.del a2 bs
  refine (ldel_any a6 hk sc).mono fun e w' ⟨he, hs⟩ => ?_
  rw [pdel_ne (by rw [a1]; decide)] at *
  obtain ⟨g, cap, hA, ht, hb⟩ := hs
  refine ⟨by rw [he, t1], ({ x with l := (x.del bs).2.1, g := g, cap := cap, ord := (x.del bs).2.2 } : LX).own, ⟨hg.1, Or.inr (Or.inr (Or.inl ⟨by rw [hk1, a1], _, by rw [hk2, a2], rfl, rfl, t2.slots.symm, hA, t2⟩))⟩, ht, fun b hx => ?_⟩
  simp only [LX.own, List.mem_cons, Option.mem_toList] at hx ⊢
  rcases hx with rfl | rfl | hx
  ·exact Or.inl (Or.inl rfl)
  ·exact Or.inl (Or.inr (Or.inl rfl))
  ·have := hb b hx
   simpa [LX.own] using this
 ·rw [show delF q.kind = 144 by rw [a1]; rfl]
  refine (Lpm.idel_any a6 hk sc hsc).mono fun e w' ⟨he, hs⟩ => ?_
  rw [show q.delA bs = q.del3 bs by unfold PX.delA; rw [if_pos a1]] at *
  obtain ⟨t1, t2⟩ := del3_tie a2 a5.symm hk.2.1
  obtain ⟨T', hA, ht, hb⟩ := hs
  refine ⟨by rw [he, t1]; rfl, ({ x with T := T', l := (x.del bs).2 } : Lpm.TX).own, ⟨hg.1, Or.inr (Or.inr (Or.inr ⟨by rw [hk1, a1], _, by rw [hk2, a2], rfl, rfl, t2.symm, hA⟩))⟩, ht, fun b hx => ?_⟩
  simp only [Lpm.TX.own, List.mem_cons] at hx
  rcases hx with rfl | hx
  ·exact Or.inl (by simp [Lpm.TX.own])
  ·exact hb b hx
end Go.Proofs.YtmhhahmjkopjhaaGreat
end
section
namespace Go.Proofs.YtmhhahmjkopjhaaGreat
open Go.RowKit
theorem keys_all {q : PX} {m : Nat} (h : q.slots = (allKeys m).map some) : q.keys = allKeys m := by
 unfold PX.keys
 rw [h]
 simp [List.filterMap_map]
theorem kkeys_any {w : World} {X : Nat} {bl : List Nat} {q : PX} (h : KAt w X bl q) :
  Calls Tryz.prog (keysF q.kind) #[.pointer (some ⟨X, 0, none⟩)] w fun e w' => (∃ v, e = .returned v ∧ KL w w' v q.keys) ∧ Touch [] w w' := by
 rcases h.is with ⟨a1, rfl, a3, m, a4, a5⟩ | ⟨a1, b, n, a2, rfl, a4⟩ | ⟨a1, x, a2, rfl, rfl, a5, a6, a7⟩ | ⟨a1, x, a2, rfl, rfl, a5, a6⟩
 ·rw [show keysF q.kind = 120 by rw [a1]; rfl, keys_all a5]
  exact Arr.keys_any a4
 ·rw [show keysF q.kind = 127 by rw [a1]; rfl]
  exact keys_any a4
 ·rw [show keysF q.kind = 135 by rw [a1]; rfl, show q.keys = keysP x.l by rw [a5]; rfl]
  exact lkeys_any a6
 ·rw [show keysF q.kind = 146 by rw [a1]; rfl, show q.keys = Lpm.keysP x.l by rw [a5]; rfl]
  exact Lpm.ikeys_any a6
def KCopyPost (w : World) (q : PX) (e : Ending) (w' : World) : Prop := ∃ C bl, e = .returned (.pointer (some ⟨C, 0, none⟩)) ∧ KAt w' C bl q ∧ (∀ b ∈ bl, w.heap.size ≤ b) ∧ Touch [] w w'
theorem kcopy_any {w : World} {X : Nat} {bl : List Nat} {q : PX} (h : KAt w X bl q) : Calls Tryz.prog (copyF q.kind) #[.pointer (some ⟨X, 0, none⟩)] w (KCopyPost w q) := by
 have hg := h.good
 rcases h.is with ⟨a1, rfl, a3, m, a4, a5⟩ | ⟨a1, b, n, a2, rfl, a4⟩ | ⟨a1, x, a2, rfl, rfl, a5, a6, a7⟩ | ⟨a1, x, a2, rfl, rfl, a5, a6⟩
 ·rw [show copyF q.kind = 68 by rw [a1]; rfl]
  exact (Arr.copy_any a4).mono fun e w' ⟨he, hA, ht⟩ => ⟨_, [w.heap.size], he, ⟨hg, Or.inl ⟨a1, rfl, a3, m, hA, a5⟩⟩, by simp, ht⟩
 ·rw [show copyF q.kind = 69 by rw [a1]; rfl]
  exact (copy_any a4).mono fun e w' ⟨C, cb, he, hA, h1, h2, ht⟩ => ⟨C, [C, cb], he, ⟨hg, Or.inr (Or.inl ⟨a1, cb, n, a2, rfl, hA⟩)⟩, by simp [h1, h2], ht⟩
 ·rw [show copyF q.kind = 70 by rw [a1]; rfl]
  exact (lcopy_any a6).mono fun e w' ⟨C, cb, he, g, cap, hA, ho, ht⟩ => ⟨C, _, he, ⟨hg, Or.inr (Or.inr (Or.inl ⟨a1, ⟨C, cb, x.size, x.l, g, cap, x.ord⟩, a2, rfl, rfl, a5, hA, a7⟩))⟩, ho, ht⟩
 ·rw [show copyF q.kind = 71 by rw [a1]; rfl]
  exact (Lpm.icopy_any a6).mono fun e w' ⟨C, T', he, hA, ho, ht⟩ => ⟨C, _, he, ⟨hg, Or.inr (Or.inr (Or.inr ⟨a1, ⟨C, x.n, x.m, T', x.l⟩, a2, rfl, rfl, a5, hA⟩))⟩, ho, ht⟩
def KNewPost (w : World) (q : PX) (e : Ending) (w' : World) : Prop := ∃ X bl, e = .returned (.tuple #[.pointer (some ⟨X, 0, none⟩), .int .i64 0]) ∧ KAt w' X bl q ∧ (∀ b ∈ bl, w.heap.size ≤ b) ∧ Touch [] w w'
theorem knew0_any (w : World) (m : Nat) (h : newOk 0 4 m) : Calls Tryz.prog 73 #[.int .i64 (m : Int)] w (KNewPost w (PX.new 0 4 m)) :=
 (Arr.new_any w m (by have := h.1; omega) (by have := h.2.1; omega)).mono fun _ _ ⟨he, hA, ht⟩ => ⟨_, [w.heap.size], he, ⟨PGood.new (by omega) (by omega) h, Or.inl ⟨rfl, rfl, rfl, m, hA, rfl⟩⟩, by simp, ht⟩
theorem knew1_any (w : World) (n m : Nat) (h : newOk 1 n m) : Calls Tryz.prog 74 #[.int .i64 (n : Int), .int .i64 (m : Int)] w (KNewPost w (PX.new 1 n m)) := by
 have h1 := h.1
 have h2 := h.2.1
 have h3 := h.2.2.1
 have h4 := h.2.2.2
 simp at h3 h4
 exact (new_any w n m (by omega) (by omega) (by omega) (by omega)).mono fun _ _ ⟨X, b, he, hA, hx, hb, ht⟩ => ⟨X, [X, b], he, ⟨PGood.new (by omega) (by omega) h, Or.inr (Or.inl ⟨rfl, b, n, rfl, rfl, hA⟩)⟩, by simp [hx, hb], ht⟩
theorem knew2_any (w : World) (n m : Nat) (h : newOk 2 n m) : Calls Tryz.prog 75 #[.int .i64 (n : Int), .int .i64 (m : Int)] w (KNewPost w (PX.new 2 n m)) := by
 have h1 := h.1
 have h2 := h.2.1
 have h3 := h.2.2.1
 have h4 := h.2.2.2
 simp at h3 h4
 exact (lnew_any w n m (by omega) (by omega) (by omega) (by omega)).mono fun _ _ ⟨X, b, he, hA, hx, hb, ht⟩ => ⟨X, _, he, ⟨PGood.new (by omega) (by omega) h, Or.inr (Or.inr (Or.inl ⟨rfl, ⟨X, b, n, List.replicate m none, none, 0, []⟩, rfl, rfl, rfl, rfl, hA, ⟨rfl, rfl, by simp [PX.new], fun i => by
  show (List.replicate m (0 : Int)).getD i 0 ≤ 0
  rw [List.getD_eq_getElem?_getD, List.getElem?_replicate]
  split <;> simp, List.Pairwise.nil, OrdOk.start m⟩⟩))⟩, by simp [LX.own, hx, hb], ht⟩
theorem knew3_any (w : World) (n m : Nat) (h : newOk 3 ((n : Int) + 4) m) : Calls Tryz.prog 76 #[.int .i64 ((n : Int) + 4), .int .i64 (m : Int)] w (KNewPost w (PX.new 3 ((n : Int) + 4) m)) := by
 have h1 := h.1
 have h2 := h.2.1
 have h3 := h.2.2.1
 have h4 := h.2.2.2
 simp at h3 h4
 exact (Lpm.inew_any w n m (by omega) (by omega) (by omega) (by omega)).mono fun _ _ ⟨X, he, hA, hx, ht⟩ => ⟨X, _, he, ⟨PGood.new (by omega) (by omega) h, Or.inr (Or.inr (Or.inr ⟨rfl, ⟨X, n, m, .nil, List.replicate m none⟩, rfl, rfl, rfl, rfl, hA⟩))⟩, by simp [Lpm.TX.own, Lpm.bsT, hx], ht⟩
end Go.Proofs.YtmhhahmjkopjhaaGreat
end
section
namespace Go.Proofs.YtmhhahmjkopjhaaGreat.Mem
open Go.RowKit
theorem info5 : (Tryz.prog.info? 5).map (fun i => (i.zero, i.size, i.bytes)) = some (some (.int .u8 0), 1, 1) := by kernel_rfl
theorem info4 : (Tryz.prog.info? 4).map (fun i => (i.zero, i.size, i.bytes)) = some (some (.bool false), 1, 1) := by kernel_rfl
theorem new_any (w : World) :
  Calls Tryz.prog 26 #[] w fun e w' => e = .returned (.pointer (some ⟨w.heap.size, 0, none⟩)) ∧ w' = w.alloc (.cells #[.slice none 0 0, .int .i64 0] 79) := by
 go_enter Tryz.func26, Tryz.ntmps26
 go_wp2
 go_ret
 exact ⟨rfl, rfl⟩
theorem holds_any (p bb n c : Nat) (addr base : Int) (w : World)
  (h1 : w.cell? ⟨p, 1, none⟩ = some (.int .u64 base)) (h3 : w.cell? ⟨p, 3, none⟩ = some (.slice (some ⟨bb, 0, none⟩) n c)) :
  Calls Tryz.prog 80 #[.pointer (some ⟨p, 0, none⟩), .int .u64 addr] w fun e w' => e = .returned (.bool (decide (IntKind.u64.wrap (addr - base) < IntKind.u64.wrap ↑n))) ∧ ∃ k, w' = w.drewN k := by
 go_enter Tryz.func80, Tryz.ntmps80
 go_wp2
 go_quiet (fail)
 go_wp2
 go_ret
 exact ⟨rfl, _, rfl⟩
theorem isWord_any (n : Int) (w : World) :
  Calls Tryz.prog 51 #[.int .i64 n] w fun e w' => e = .returned (.bool (n == 1 || n == 2 || n == 4 || n == 8)) ∧ w' = w := by
 go_enter Tryz.func51, Tryz.ntmps51
 go_wp2
 all_goals
  go_ret
  refine ⟨?_, rfl⟩
  first | rfl | (subst_vars; rfl)
theorem reaches_any (p bb n c : Nat) (at_ k : Int) (w : World) (_hn : n ≤ 65536) (_hk : 0 ≤ k) (_hk2 : k ≤ 9223372036854775807)
  (h3 : w.cell? ⟨p, 3, none⟩ = some (.slice (some ⟨bb, 0, none⟩) n c)) :
  Calls Tryz.prog 94 #[.pointer (some ⟨p, 0, none⟩), .int .i64 at_, .int .i64 k] w fun e w' => e = .returned (.bool (decide (at_ ≤ n - k))) ∧ w' = w := by
 go_enter Tryz.func94, Tryz.ntmps94
 go_wp2
 go_ret
 exact ⟨rfl, rfl⟩
theorem behind_nil (m : Nat) (addr : Int) (w : World) (h0 : w.cell? ⟨m, 0, none⟩ = some (.slice none 0 0)) :
  Calls Tryz.prog 55 #[.pointer (some ⟨m, 0, none⟩), .int .u64 addr] w fun e w' => e = .returned (.int .i64 0) ∧ ∃ k, w' = w.drewN k := by
 go_enter Tryz.func55, Tryz.ntmps55
 go_wp2
 go_quiet (fail)
 go_wp2
 go_loop [5, 6] (fun low high => low = .int .i64 0 ∧ high = .int .i64 0) (fun _ _ => 0)
 case atStart => exact ⟨rfl, rfl⟩
 case round =>
  obtain ⟨rfl, rfl⟩ := hrel
  go_wp2
  go_ret
  exact ⟨rfl, _, rfl⟩
theorem behind_some (m g n cap : Nat) (addr : Int) (ps : Nat → Nat) (bs : Nat → Int) (w : World) (hn : n ≤ 4096)
  (h0 : w.cell? ⟨m, 0, none⟩ = some (.slice (some ⟨g, 0, none⟩) n cap))
  (hc : ∀ j, j < n → w.cell? ⟨g, j, none⟩ = some (.pointer (some ⟨ps j, 0, none⟩)))
  (hb : ∀ j, j < n → w.cell? ⟨ps j, 1, none⟩ = some (.int .u64 (bs j)))
  (hs : ∀ i j, i < j → j < n → bs i < bs j) :
  Calls Tryz.prog 55 #[.pointer (some ⟨m, 0, none⟩), .int .u64 addr] w fun e w' => (∃ i : Nat, i ≤ n ∧ e = .returned (.int .i64 i) ∧ (∀ j, j < i → bs j ≤ addr) ∧ (∀ j, i ≤ j → j < n → addr < bs j)) ∧ ∃ k, w' = w.drewN k := by
 have HS : Hid (∀ i j, i < j → j < n → bs i < bs j) := hs
 have HC : Hid (∀ j, j < n → w.cell? ⟨g, j, none⟩ = some (.pointer (some ⟨ps j, 0, none⟩))) := hc
 have HB : Hid (∀ j, j < n → w.cell? ⟨ps j, 1, none⟩ = some (.int .u64 (bs j))) := hb
 clear hs hc hb
 go_enter Tryz.func55, Tryz.ntmps55
 go_wp2
 go_quiet (fail)
 go_wp2
 go_loop [5, 6] (fun low high => ∃ l h : Nat, l ≤ h ∧ h ≤ n ∧ low = .int .i64 l ∧ high = .int .i64 h ∧ Hid ((∀ j, j < l → bs j ≤ addr) ∧ (∀ j, h ≤ j → j < n → addr < bs j))) (fun low high => (intOf high - intOf low).toNat)
 case atStart => exact ⟨0, n, by omega, by omega, rfl, rfl, ⟨fun j hj => by omega, fun j hj hj' => by omega⟩⟩
 case round =>
  obtain ⟨l, h, hlh, hhn, rfl, rfl, HI⟩ := hrel
  by_cases hlt : l < h
  ·obtain ⟨k, hk⟩ : ∃ k : Nat, ((l : Int) + h) / 2 = k := ⟨((l + h) / 2), by omega⟩
   have hk1 : l ≤ k := by omega
   have hk2 : k < h := by omega
   have c1 := HC.out k (by omega)
   have c2 := HB.out k (by omega)
   by_cases ha : addr < bs k
   ·go_wp2
    go_round
    case rel => exact ⟨l, k, by omega, by omega, rfl, by rw [hk], HI.out.1, fun j hj hj' => by
      have := HS.out k j
      by_cases e : j = k
      ·subst e; exact ha
      ·have := this (by omega) hj'; omega⟩
    case measure => simp [intOf]; omega
   ·go_wp2
    go_round
    case rel => exact ⟨k + 1, h, by omega, by omega, by go_num, rfl, fun j hj => by
      have := HS.out j k
      by_cases e : j = k
      ·subst e; omega
      ·have := this (by omega) (by omega); omega, HI.out.2⟩
    case measure => simp [intOf]; omega
  ·have e : h = l := by omega
   subst e
   go_wp2
   go_ret
   exact ⟨⟨_, hhn, rfl, HI.out⟩, _, rfl⟩
def mayBeB (b n p : Int) : Bool := decide (1 ≤ n ∧ n ≤ 65536 ∧ 0 ≤ p ∧ p ≤ 7 ∧ b + n ≤ 18446744073709551616)
theorem mayBe_any (b n p : Int) (w : World) (hb0 : 0 ≤ b) (hb1 : b ≤ 18446744073709551615) :
  Calls Tryz.prog 54 #[.int .u64 b, .int .i64 n, .int .i64 p] w fun e w' => e = .returned (.bool (mayBeB b n p)) ∧ w' = w := by
 have hx := u64_not b hb0 hb1
 go_enter Tryz.func54, Tryz.ntmps54
 go_wp2
 all_goals
  go_ret
  refine ⟨ret_bool ?_, rfl⟩
  unfold mayBeB
  first
   | (refine (decide_eq_false ?_).symm; omega)
   | (refine decide_eq_decide.2 ?_; omega)
theorem fresh_no (p : Int) (h0 : 0 ≤ p) (h1 : p < 4) : bits .and .i64 p 4 = 0 := by
 have : p = 0 ∨ p = 1 ∨ p = 2 ∨ p = 3 := by omega
 rcases this with rfl | rfl | rfl | rfl <;> decide
theorem fresh_yes (p : Int) (h0 : 4 ≤ p) (h1 : p ≤ 7) : bits .and .i64 p 4 = 4 := by
 have : p = 4 ∨ p = 5 ∨ p = 6 ∨ p = 7 := by omega
 rcases this with rfl | rfl | rfl | rfl <;> decide
theorem newRegion_plain (id b p : Int) (n : Nat) (w : World) (hn : n ≤ 65536) (hp0 : 0 ≤ p) (hp1 : p < 4) :
  Calls Tryz.prog 57 #[.int .i64 id, .int .u64 b, .int .i64 n, .int .i64 p] w fun e w' => e = .returned (.pointer (some ⟨w.heap.size + 1, 0, none⟩)) ∧
   w' = (w.alloc (.cells (List.replicate n (Value.int .u8 0)).toArray 5)).alloc (.cells #[.int .i64 id, .int .u64 b, .int .i64 p, .slice (some ⟨w.heap.size, 0, none⟩) n n, .slice none 0 0] 138) := by
 have hmk := run_make_blk (P := Tryz.prog) Tryz.underlying39 info5 rfl n (by omega) (by omega) .i64
 have hf := fresh_no p hp0 hp1
 go_enter Tryz.func57, Tryz.ntmps57
 go_wp2
 go_ret
 exact ⟨rfl, rfl⟩
theorem newRegion_fresh (id b p : Int) (n : Nat) (w : World) (hn : n ≤ 65536) (hp0 : 4 ≤ p) (hp1 : p ≤ 7) :
  Calls Tryz.prog 57 #[.int .i64 id, .int .u64 b, .int .i64 n, .int .i64 p] w fun e w' => e = .returned (.pointer (some ⟨w.heap.size + 1, 0, none⟩)) ∧
   w' = ((w.alloc (.cells (List.replicate n (Value.int .u8 0)).toArray 5)).alloc (.cells #[.int .i64 id, .int .u64 b, .int .i64 p, .slice (some ⟨w.heap.size, 0, none⟩) n n, .slice (some ⟨w.heap.size + 1 + 1, 0, none⟩) n n] 138)).alloc (.cells (List.replicate n (Value.bool false)).toArray 4) := by
 have hmk := run_make_blk (P := Tryz.prog) Tryz.underlying39 info5 rfl n (by omega) (by omega) .i64
 have hmk2 := run_make_blk (P := Tryz.prog) Tryz.underlying80 info4 rfl n (by omega) (by omega) .i64
 have hf := fresh_yes p hp0 hp1
 go_enter Tryz.func57, Tryz.ntmps57
 go_wp2
 go_ret
 exact ⟨rfl, by simp⟩
end Go.Proofs.YtmhhahmjkopjhaaGreat.Mem
end
section
namespace Go.Proofs.YtmhhahmjkopjhaaGreat.Mem
open Go.RowKit
structure Reg where
 p : Nat
 id : Int
 base : Int
 perm : Int
 bb : Nat
 bytes : List Int
 sb : Option Nat
 set : List Bool
def Reg.zero : Reg := ⟨0, 0, 0, 0, 0, [], none, []⟩
def Reg.ptr (r : Reg) : Value := .pointer (some ⟨r.p, 0, none⟩)
def Reg.setV (r : Reg) : Value := match r.sb with
 | none => .slice none 0 0
 | some s => .slice (some ⟨s, 0, none⟩) r.bytes.length r.bytes.length
def Reg.cells (r : Reg) : List Value := [.int .i64 r.id, .int .u64 r.base, .int .i64 r.perm, .slice (some ⟨r.bb, 0, none⟩) r.bytes.length r.bytes.length, r.setV]
def Reg.blocks (r : Reg) : List Nat := r.p :: r.bb :: r.sb.toList
structure RegAt (w : World) (r : Reg) : Prop where
 self : Blk w r.p r.cells 138
 bytes : Blk w r.bb (r.bytes.map (Value.int .u8)) 5
 set : ∀ s, r.sb = some s → Blk w s (r.set.map Value.bool) 4
structure RegOk (r : Reg) : Prop where
 base0 : 0 ≤ r.base
 size1 : 1 ≤ r.bytes.length
 size2 : r.bytes.length ≤ 65536
 fits : r.base + r.bytes.length ≤ 18446744073709551616
 perm0 : 0 ≤ r.perm
 perm1 : r.perm ≤ 7
 plain : r.sb = none ↔ r.perm < 4
 setLen : ∀ s, r.sb = some s → r.set.length = r.bytes.length
 setNil : r.sb = none → r.set = []
 byte : ∀ x ∈ r.bytes, 0 ≤ x ∧ x ≤ 255
 own : r.blocks.Nodup
theorem Reg.mem_p (r : Reg) : r.p ∈ r.blocks := by simp [Reg.blocks]
theorem Reg.mem_bb (r : Reg) : r.bb ∈ r.blocks := by simp [Reg.blocks]
theorem Reg.mem_sb (r : Reg) {s : Nat} (h : r.sb = some s) : s ∈ r.blocks := by simp [Reg.blocks, h]
theorem RegAt.lt {w : World} {r : Reg} (h : RegAt w r) : ∀ x ∈ r.blocks, x < w.heap.size := by
 intro x hx
 simp only [Reg.blocks, List.mem_cons, Option.mem_toList] at hx
 rcases hx with rfl | rfl | hx
 ·exact h.self.lt
 ·exact h.bytes.lt
 ·exact (h.set x hx).lt
theorem RegAt.touch {S : List Nat} {w w' : World} {r : Reg} (h : RegAt w r) (ht : Touch S w w') (hS : ∀ x ∈ r.blocks, x ∉ S) : RegAt w' r :=
 ⟨ht.blk h.self (hS _ r.mem_p), ht.blk h.bytes (hS _ r.mem_bb), fun s hs => ht.blk (h.set s hs) (hS _ (r.mem_sb hs))⟩
theorem RegAt.c0 {w : World} {r : Reg} (h : RegAt w r) : w.cell? ⟨r.p, 0, none⟩ = some (.int .i64 r.id) := h.self.cell rfl
theorem RegAt.c1 {w : World} {r : Reg} (h : RegAt w r) : w.cell? ⟨r.p, 1, none⟩ = some (.int .u64 r.base) := h.self.cell rfl
theorem RegAt.c2 {w : World} {r : Reg} (h : RegAt w r) : w.cell? ⟨r.p, 2, none⟩ = some (.int .i64 r.perm) := h.self.cell rfl
theorem RegAt.c3 {w : World} {r : Reg} (h : RegAt w r) : w.cell? ⟨r.p, 3, none⟩ = some (.slice (some ⟨r.bb, 0, none⟩) r.bytes.length r.bytes.length) := h.self.cell rfl
theorem RegAt.c4 {w : World} {r : Reg} (h : RegAt w r) : w.cell? ⟨r.p, 4, none⟩ = some r.setV := h.self.cell rfl
structure MS where
 m : Nat
 g : Option Nat
 cap : Nat
 rs : List Reg
 next : Nat
def MS.blocks (s : MS) : List Nat := s.m :: s.g.toList ++ s.rs.flatMap Reg.blocks
structure MemAt (w : World) (s : MS) : Prop where
 self : Blk w s.m [slV s.g s.rs.length s.cap, .int .i64 s.next] 79
 row : RowAt w 118 1 s.g s.rs.length s.cap (s.rs.map Reg.ptr)
 regs : ∀ r ∈ s.rs, RegAt w r
 ok : ∀ r ∈ s.rs, RegOk r
 apart : s.blocks.Nodup
 sorted : s.rs.Pairwise (fun a b => a.base + (a.bytes.length : Int) ≤ b.base)
 ids : s.rs.Pairwise (fun a b => a.id ≠ b.id)
 idlt : ∀ r ∈ s.rs, 0 ≤ r.id ∧ r.id < s.next
 many : s.rs.length ≤ 4096
theorem MemAt.lt {w : World} {s : MS} (h : MemAt w s) : ∀ x ∈ s.blocks, x < w.heap.size := by
 intro x hx
 simp only [MS.blocks, List.cons_append, List.mem_cons, List.mem_append, Option.mem_toList, List.mem_flatMap] at hx
 rcases hx with rfl | hx | ⟨r, hr, hx⟩
 ·exact h.self.lt
 ·have := h.row.2.2.2
  rw [hx] at this
  obtain ⟨rest, hb, _⟩ := this
  exact hb.lt
 ·exact (h.regs r hr).lt x hx
theorem MS.mem_m (s : MS) : s.m ∈ s.blocks := by simp [MS.blocks]
theorem MS.mem_g (s : MS) {b : Nat} (h : s.g = some b) : b ∈ s.blocks := by simp [MS.blocks, h]
theorem MS.mem_r (s : MS) {r : Reg} (h : r ∈ s.rs) {x : Nat} (hx : x ∈ r.blocks) : x ∈ s.blocks := by
 simp only [MS.blocks, List.cons_append, List.mem_cons, List.mem_append, List.mem_flatMap]
 exact Or.inr (Or.inr ⟨r, h, hx⟩)
theorem MemAt.touch {S : List Nat} {w w' : World} {s : MS} (h : MemAt w s) (ht : Touch S w w') (hS : ∀ x ∈ s.blocks, x ∉ S) : MemAt w' s where
 self := ht.blk h.self (hS _ s.mem_m)
 row := h.row.touch ht (fun _b hb => hS _ (s.mem_g hb))
 regs := fun r hr => (h.regs r hr).touch ht (fun _x hx => hS _ (s.mem_r hr hx))
 ok := h.ok
 apart := h.apart
 sorted := h.sorted
 ids := h.ids
 idlt := h.idlt
 many := h.many
theorem newRegion_any (id b p : Int) (n : Nat) (w : World) (hn1 : 1 ≤ n) (hn : n ≤ 65536) (hp0 : 0 ≤ p) (hp1 : p ≤ 7) (hb0 : 0 ≤ b) (hb1 : b + n ≤ 18446744073709551616) :
  Calls Tryz.prog 57 #[.int .i64 id, .int .u64 b, .int .i64 n, .int .i64 p] w fun e w' => ∃ r : Reg, e = .returned r.ptr ∧ RegAt w' r ∧ RegOk r ∧ r.id = id ∧ r.base = b ∧ r.perm = p ∧ r.bytes = List.replicate n 0 ∧
   r.set = (if p < 4 then [] else List.replicate n false) ∧ Touch [] w w' ∧ ∀ x ∈ r.blocks, w.heap.size ≤ x := by
 by_cases hp : p < 4
 ·refine (newRegion_plain id b p n w hn hp0 hp).mono ?_
  rintro e w' ⟨rfl, rfl⟩
  refine ⟨⟨w.heap.size + 1, id, b, p, w.heap.size, List.replicate n 0, none, []⟩, rfl, ⟨?_, ?_, ?_⟩, ⟨hb0, by simpa using hn1, by simpa using hn, by simpa using hb1, hp0, hp1, by simpa using hp, ?_, ?_, ?_, ?_⟩, rfl, rfl, rfl, rfl, ?_, ?_, ?_⟩
  ·have := Blk.newA (w.alloc (.cells (List.replicate n (Value.int .u8 0)).toArray 5)) #[.int .i64 id, .int .u64 b, .int .i64 p, .slice (some ⟨w.heap.size, 0, none⟩) n n, .slice none 0 0] _ 138 rfl
   simpa [Reg.cells, Reg.setV] using this
  ·have := (Blk.new w (List.replicate n (Value.int .u8 0)) 5).alloc (.cells #[.int .i64 id, .int .u64 b, .int .i64 p, .slice (some ⟨w.heap.size, 0, none⟩) n n, .slice none 0 0] 138)
   simpa using this
  ·intro s hs; cases hs
  ·intro s hs; cases hs
  ·intro _; rfl
  ·intro x hx; simp at hx; omega
  ·simp [Reg.blocks]
  ·simp [hp]
  ·exact ((Touch.refl _ w).alloc _).alloc _
  ·intro x hx; simp [Reg.blocks] at hx; omega
 ·refine (newRegion_fresh id b p n w hn (by omega) hp1).mono ?_
  rintro e w' ⟨rfl, rfl⟩
  refine ⟨⟨w.heap.size + 1, id, b, p, w.heap.size, List.replicate n 0, some (w.heap.size + 1 + 1), List.replicate n false⟩, rfl, ⟨?_, ?_, ?_⟩, ⟨hb0, by simpa using hn1, by simpa using hn, by simpa using hb1, hp0, hp1, by simp; omega, ?_, ?_, ?_, ?_⟩, rfl, rfl, rfl, rfl, ?_, ?_, ?_⟩
  ·have := (Blk.newA (w.alloc (.cells (List.replicate n (Value.int .u8 0)).toArray 5)) #[.int .i64 id, .int .u64 b, .int .i64 p, .slice (some ⟨w.heap.size, 0, none⟩) n n, .slice (some ⟨w.heap.size + 1 + 1, 0, none⟩) n n] _ 138 rfl).alloc (.cells (List.replicate n (Value.bool false)).toArray 4)
   simpa [Reg.cells, Reg.setV] using this
  ·have := ((Blk.new w (List.replicate n (Value.int .u8 0)) 5).alloc (.cells #[.int .i64 id, .int .u64 b, .int .i64 p, .slice (some ⟨w.heap.size, 0, none⟩) n n, .slice (some ⟨w.heap.size + 1 + 1, 0, none⟩) n n] 138)).alloc (.cells (List.replicate n (Value.bool false)).toArray 4)
   simpa using this
  ·intro s hs
   injection hs with hs
   subst hs
   have := Blk.new ((w.alloc (.cells (List.replicate n (Value.int .u8 0)).toArray 5)).alloc (.cells #[.int .i64 id, .int .u64 b, .int .i64 p, .slice (some ⟨w.heap.size, 0, none⟩) n n, .slice (some ⟨w.heap.size + 1 + 1, 0, none⟩) n n] 138)) (List.replicate n (Value.bool false)) 4
   simpa using this
  ·intro s hs; simp
  ·intro hs; cases hs
  ·intro x hx; simp at hx; omega
  ·simp [Reg.blocks]; omega
  ·simp [hp]
  ·exact (((Touch.refl _ w).alloc _).alloc _).alloc _
  ·intro x hx; simp [Reg.blocks] at hx; omega
end Go.Proofs.YtmhhahmjkopjhaaGreat.Mem
end
