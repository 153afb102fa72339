/-
  Texts laid together: TabS, TabP, PDump, PDump2, PAparts2, PFirst, PFresh, OneOp, PArgs, PRound, PApart.
-/
import Derived.Test.YtmhhahmjkopjhaaGreatZa3
import Derived.Deep.RegionHeld3
import Derived.ProofKit
import Derived.Deep.Slices
import Derived.BigQuiet
import Derived.Deep.QuietTactic
import Derived.Deep.DrawnRows
import Derived.Deep.CutRange
set_option maxRecDepth 100000
set_option maxHeartbeats 8000000
section
namespace Go.Proofs.YtmhhahmjkopjhaaGreat
open Go.RowKit
def KS.Bs (w : World) (k : KS) : Prop := (∃ rest, BlkF w k.b (k.bs.map (Value.int .u8) ++ rest) 5) ∧ (∀ x ∈ k.bs, 0 ≤ x ∧ x ≤ 255) ∧ k.bs.length ≤ 65536 ∧ 1 ≤ k.bs.length ∧ k.bs.length ≤ k.cap
theorem KS.At.toBs {w : World} {k : KS} (h : k.At w) : k.Bs w := ⟨h.1, h.2.1, by have := h.2.2.1; omega, h.2.2.2⟩
theorem KS.Bs.touch {S : List Nat} {w w' : World} {k : KS} (h : k.Bs w) (ht : Touch S w w') (hb : k.b ∉ S) : k.Bs w' := by
 obtain ⟨⟨r, h1⟩, h2⟩ := h
 exact ⟨⟨r, ht.blkF h1 hb⟩, h2⟩
theorem KS.Bs.cell {w : World} {k : KS} (h : k.Bs w) (j : Nat) (hj : j < k.bs.length) : w.cell? ⟨k.b, j, none⟩ = some (.int .u8 (k.bs.getD j 0)) := by
 obtain ⟨⟨r, h1⟩, _⟩ := h
 refine h1.cell ?_
 rw [List.getElem?_append_left (by simpa using hj), List.getElem?_map, List.getElem?_eq_getElem hj, List.getD_eq_getElem?_getD, List.getElem?_eq_getElem hj]
 rfl
theorem KS.Bs.key {w : World} {k : KS} (h : k.Bs w) : KeyAt w (some ⟨k.b, 0, none⟩) k.bs.length k.bs :=
 ⟨rfl, h.2.1, by have := h.2.2.1; omega, fun _ => ⟨k.b, 0, rfl, fun j hj => by rw [Nat.zero_add]; exact h.cell j hj⟩⟩
structure PR where
 k : KS
 v : KS
def PR.cells (p : PR) : List Value := [p.k.v, p.v.v]
def PR.bs (p : PR) : List Int × List Int := (p.k.bs, p.v.bs)
structure PLs (w0 w : World) (g : Option Nat) (cap : Nat) (l : List PR) : Prop where
 row : RowAt w 111 2 g l.length cap (l.flatMap PR.cells)
 own : ∀ b, g = some b → w0.heap.size ≤ b
 keys : ∀ p ∈ l, p.k.Bs w ∧ p.v.Bs w ∧ w0.heap.size ≤ p.k.b ∧ w0.heap.size ≤ p.v.b ∧ g ≠ some p.k.b ∧ g ≠ some p.v.b
def PL (w0 w : World) (v : Value) (ps : List (List Int × List Int)) : Prop := ∃ g cap l, v = slV g l.length cap ∧ PLs w0 w g cap l ∧ l.map PR.bs = ps
theorem PLs.touch {S : List Nat} {w0 w w' : World} {g : Option Nat} {cap : Nat} {l : List PR} (h : PLs w0 w g cap l) (ht : Touch S w w') (hS : ∀ x ∈ S, x < w0.heap.size) : PLs w0 w' g cap l :=
 ⟨h.row.touch ht (fun b hb hx => by have := hS b hx; have := h.own b hb; omega), h.own, fun p hp => by
  obtain ⟨h1, h2, h3, h4, h5⟩ := h.keys p hp
  exact ⟨h1.touch ht (fun hx => by have := hS _ hx; omega), h2.touch ht (fun hx => by have := hS _ hx; omega), h3, h4, h5⟩⟩
theorem PL.touch {S : List Nat} {w0 w w' : World} {v : Value} {ps : List (List Int × List Int)} (h : PL w0 w v ps) (ht : Touch S w w') (hS : ∀ x ∈ S, x < w0.heap.size) : PL w0 w' v ps := by
 obtain ⟨g, cap, l, h1, h2, h3⟩ := h
 exact ⟨g, cap, l, h1, h2.touch ht hS, h3⟩
theorem PL.nil (w0 w : World) : PL w0 w (.slice none 0 0) [] := ⟨none, 0, [], rfl, ⟨⟨rfl, Nat.le_refl _, by unfold maxLen; omega, rfl⟩, (fun b hb => nomatch hb), (fun p hp => nomatch hp)⟩, rfl⟩
theorem flat2_get (l : List PR) (i j : Nat) (p : PR) (hp : l[i]? = some p) (hj : j < 2) : (l.flatMap PR.cells)[i * 2 + j]? = p.cells[j]? := by
 induction l generalizing i with
 | nil => simp at hp
 | cons x xs ih =>
  rw [List.flatMap_cons]
  have hl : x.cells.length = 2 := rfl
  cases i with
  | zero =>
   simp at hp
   subst hp
   rw [List.getElem?_append_left (by omega)]
   simp
  | succ i =>
   rw [List.getElem?_append_right (by omega), hl, show (i + 1) * 2 + j - 2 = i * 2 + j by omega]
   exact ih i (by simpa using hp)
theorem flat2_len (l : List PR) : (l.flatMap PR.cells).length = l.length * 2 := by
 induction l with
 | nil => rfl
 | cons x xs ih =>
  rw [List.flatMap_cons, List.length_append, ih, List.length_cons]
  show 2 + _ = _
  omega
theorem PLs.at_ {w0 w : World} {g : Option Nat} {cap : Nat} {l : List PR} (h : PLs w0 w g cap l) {j : Nat} (hj : j < l.length) : ∃ b p, g = some b ∧ l[j]? = some p ∧ w.cell? ⟨b, j * 2, none⟩ = some p.k.v ∧ w.cell? ⟨b, j * 2 + 1, none⟩ = some p.v.v ∧ p.k.Bs w ∧ p.v.Bs w := by
 have hget : l[j]? = some l[j] := List.getElem?_eq_getElem hj
 have hr := h.row
 cases hg : g with
 | none =>
  rw [hg] at hr
  have h1 := hr.2.1
  have h2 : cap = 0 := hr.2.2.2
  omega
 | some b =>
  rw [hg] at hr
  obtain ⟨_, _, _, rest, hB, _⟩ := hr
  have hk := h.keys _ (List.mem_of_getElem? hget)
  refine ⟨b, l[j], rfl, hget, hB.cell ?_, hB.cell ?_, hk.1, hk.2.1⟩
  ·rw [List.getElem?_append_left (by rw [flat2_len]; omega)]
   have := flat2_get l j 0 _ hget (by omega)
   rw [Nat.add_zero] at this
   rw [this]
   rfl
  ·rw [List.getElem?_append_left (by rw [flat2_len]; omega), flat2_get l j 1 _ hget (by omega)]
   rfl
theorem rsame_any {w w1 w2 : World} {a b : Value} {ps : List (List Int × List Int)} (ha : PL w1 w a ps) (hb : PL w2 w b ps) (hn : ps.length ≤ 1000) :
  Calls Tryz.prog 15 #[a, b] w fun e w' => e = .returned (.bool true) ∧ Touch [] w w' := by
 obtain ⟨g, cap, l, rfl, hK, hl⟩ := ha
 obtain ⟨g2, cap2, l2, rfl, hK2, hl2⟩ := hb
 have e1 : l.length = ps.length := by rw [← hl, List.length_map]
 have e2 : l2.length = ps.length := by rw [← hl2, List.length_map]
 have HK := toHid (And.intro hK (And.intro hK2 (And.intro hl (And.intro hl2 (And.intro e1 e2)))))
 rw [e1, e2]
 unfold slV
 generalize hsg : (g.map fun b => (⟨b, 0, none⟩ : Addr)) = sg at *
 generalize hsg2 : (g2.map fun b => (⟨b, 0, none⟩ : Addr)) = sg2 at *
 generalize hn2 : ps.length = n at *
 have HG := toHid (And.intro hsg (And.intro hsg2 hn2))
 clear hK hK2 hl hl2 e1 e2 hsg hsg2 hn2
 go_enter Tryz.func15, Tryz.ntmps15
 go_wp2_with fail
 go_loopw [13] (fun t w' => ∃ k : Nat, k ≤ n ∧ t = .int .i64 k ∧ Hid (Touch [] w w')) (fun t _ => n - (intOf t).toNat)
 case atStart => exact ⟨0, by omega, rfl, Touch.refl _ _⟩
 case round =>
  rename_i wr
  obtain ⟨k, hk, rfl, HI⟩ := hrel
  by_cases hlt : k < n
  ·obtain ⟨hK, hK2, hl, hl2, e1, e2⟩ := HK.out
   obtain ⟨b1, p1, hb1, hg1, hc1, hd1, hA1, hB1⟩ := hK.at_ (j := k) (by omega)
   obtain ⟨b2, p2, hb2, hg2, hc2, hd2, hA2, hB2⟩ := hK2.at_ (j := k) (by omega)
   have hbb : p1.bs = p2.bs := by
    have h1 : (l.map PR.bs)[k]? = some p1.bs := by rw [List.getElem?_map, hg1]; rfl
    have h2 : (l2.map PR.bs)[k]? = some p2.bs := by rw [List.getElem?_map, hg2]; rfl
    rw [hl] at h1
    rw [hl2, h1] at h2
    exact Option.some.inj h2
   unfold PR.bs at hbb
   simp only [Prod.mk.injEq] at hbb
   obtain ⟨hbb, hbv⟩ := hbb
   obtain ⟨hs1, hs2, _⟩ := HG.out
   rw [hb1, Option.map_some] at hs1
   rw [hb2, Option.map_some] at hs2
   subst hs1
   subst hs2
   have e1 := (hA1.touch HI.out.drew (by simp)).key.conv p1.k.cap
   have e2 := (hA2.touch HI.out.drew (by simp)).key.conv p2.k.cap
   have e3 := (hB1.touch HI.out.drew (by simp)).key.conv p1.v.cap
   have e4 := (hB2.touch HI.out.drew (by simp)).key.conv p2.v.cap
   rw [hbb] at e1
   rw [hbv] at e3
   replace hc1 := HI.out.drew.cell hc1 (by simp)
   replace hc2 := HI.out.drew.cell hc2 (by simp)
   replace hd1 := HI.out.drew.cell hd1 (by simp)
   replace hd2 := HI.out.drew.cell hd2 (by simp)
   unfold KS.v at hc1 hc2 hd1 hd2
   rw [hbb] at hc1
   rw [hbv] at hd1
   generalize strOfNums p2.k.bs = A at *
   generalize strOfNums p2.v.bs = B at *
   generalize p2.k.bs.length = q at *
   generalize p2.v.bs.length = r at *
   generalize p1.k.b = k1 at *
   generalize p2.k.b = k2 at *
   generalize p1.v.b = v1 at *
   generalize p2.v.b = v2 at *
   generalize p1.k.cap = c1 at *
   generalize p2.k.cap = c2 at *
   generalize p1.v.cap = d1 at *
   generalize p2.v.cap = d2 at *
   clear hK hK2 hl hl2 hb1 hb2 hg1 hg2 hA1 hA2 hB1 hB2 hbb hbv
   go_wp2_with fail
   refine wp_region_held_drew (S := fun w' => w'.cell? ⟨b1, k * 2, none⟩ = some (.slice (some ⟨k1, 0, none⟩) q c1 ) ∧ w'.cell? ⟨b1, k * 2 + 1, none⟩ = some (.slice (some ⟨v1, 0, none⟩) r d1) ∧ w'.cell? ⟨b2, k * 2, none⟩ = some (.slice (some ⟨k2, 0, none⟩) q c2) ∧ w'.cell? ⟨b2, k * 2 + 1, none⟩ = some (.slice (some ⟨v2, 0, none⟩) r d2) ∧ (convert 39 9 (.slice (some ⟨k1, 0, none⟩) q c1)).run Tryz.prog w' = .ok (.string A) w' ∧ (convert 39 9 (.slice (some ⟨k2, 0, none⟩) q c2)).run Tryz.prog w' = .ok (.string A) w' ∧ (convert 39 9 (.slice (some ⟨v1, 0, none⟩) r d1)).run Tryz.prog w' = .ok (.string B) w' ∧ (convert 39 9 (.slice (some ⟨v2, 0, none⟩) r d2)).run Tryz.prog w' = .ok (.string B) w') (by kernel_rfl) ?_ (fun hHeld => ?_)
   ·exact ⟨hc1, hd1, hc2, hd2, e1, e2, e3, e4⟩
   refine tk 0 (v := ?_) rfl ?_ ?_
   rotate_left
   ·(intro w hSw; (try dsimp only at hSw); go_simp; try with_reducible rfl)
   simp only [Act.put, AP]
   refine tk 1 (v := ?_) rfl ?_ ?_
   rotate_left
   ·(intro w hSw; (try dsimp only at hSw); go_simp; try with_reducible rfl)
   simp only [Act.put, AP]
   refine tk 2 (v := ?_) rfl ?_ ?_
   rotate_left
   ·(intro w hSw; (try dsimp only at hSw); go_simp; try with_reducible rfl)
   simp only [Act.put, AP]
   refine tk 3 (v := ?_) rfl ?_ ?_
   rotate_left
   ·(intro w hSw; (try dsimp only at hSw); go_simp; try with_reducible rfl)
   simp only [Act.put, AP]
   refine tk 4 (v := ?_) rfl ?_ ?_
   rotate_left
   ·(intro w hSw; (try dsimp only at hSw); go_simp; try with_reducible rfl)
   simp only [Act.put, AP]
   refine tk 5 (v := ?_) rfl ?_ ?_
   rotate_left
   ·(intro w hSw; (try dsimp only at hSw); go_simp; try with_reducible rfl)
   simp only [Act.put, AP]
   refine tk 6 (v := ?_) rfl ?_ ?_
   rotate_left
   ·(intro w hSw; (try dsimp only at hSw); go_simp; try with_reducible rfl)
   simp only [Act.put, AP]
   refine tk 7 (v := ?_) rfl ?_ ?_
   rotate_left
   ·(intro w hSw; (try dsimp only at hSw); go_simp; try with_reducible rfl)
   simp only [Act.put, AP]
   refine tk 8 (v := ?_) rfl ?_ ?_
   rotate_left
   ·(intro w hSw; (try dsimp only at hSw); go_simp; try with_reducible rfl)
   simp only [Act.put, AP]
   refine tk 9 (v := ?_) rfl ?_ ?_
   rotate_left
   ·(intro w hSw; (try dsimp only at hSw); go_simp; try with_reducible rfl)
   simp only [Act.put, AP]
   refine tk 10 (v := ?_) rfl ?_ ?_
   rotate_left
   ·(intro w hSw; (try dsimp only at hSw); go_simp; try with_reducible rfl)
   simp only [Act.put, AP]
   refine tk 11 (v := ?_) rfl ?_ ?_
   rotate_left
   ·(intro w hSw; (try dsimp only at hSw); go_simp; try with_reducible rfl)
   simp only [Act.put, AP]
   refine tk 12 (v := ?_) rfl ?_ ?_
   rotate_left
   ·(intro w hSw; (try dsimp only at hSw); go_simp; try with_reducible rfl)
   simp only [Act.put, AP]
   refine tk 13 (v := ?_) rfl ?_ ?_
   rotate_left
   ·(intro w hSw; (try dsimp only at hSw); go_simp; try with_reducible rfl)
   simp only [Act.put, AP]
   refine tk 14 (v := ?_) rfl ?_ ?_
   rotate_left
   ·(intro w hSw; (try dsimp only at hSw); go_simp; try with_reducible rfl)
   simp only [Act.put, AP]
   refine tk 15 (v := ?_) rfl ?_ ?_
   rotate_left
   ·(intro w hSw; (try dsimp only at hSw); go_simp; try with_reducible rfl)
   simp only [Act.put, AP]
   refine tk 16 (v := ?_) rfl ?_ ?_
   rotate_left
   ·(intro w hSw; (try dsimp only at hSw); go_simp; try with_reducible rfl)
   simp only [Act.put, AP]
   refine tk 17 (v := ?_) rfl ?_ ?_
   rotate_left
   ·(intro w hSw; (try dsimp only at hSw); go_simp; try with_reducible rfl)
   simp only [Act.put, AP]
   refine tk 18 (v := ?_) rfl ?_ ?_
   rotate_left
   ·(intro w hSw; (try dsimp only at hSw); go_simp; try with_reducible rfl)
   simp only [Act.put, AP]
   refine tk 19 (v := ?_) rfl ?_ ?_
   rotate_left
   ·(intro w hSw; (try dsimp only at hSw); go_simp; try with_reducible rfl)
   simp only [Act.put, AP]
   refine tk 20 (v := ?_) rfl ?_ ?_
   rotate_left
   ·(intro w hSw; (try dsimp only at hSw); go_simp; try with_reducible rfl)
   simp only [Act.put, AP]
   refine tk 21 (v := ?_) rfl ?_ ?_
   rotate_left
   ·(intro w hSw; (try dsimp only at hSw); go_simp; try with_reducible rfl)
   simp only [Act.put, AP]
   refine tk 22 (v := ?_) rfl ?_ ?_
   rotate_left
   ·(intro w hSw; (try dsimp only at hSw); go_simp; try with_reducible rfl)
   simp only [Act.put, AP]
   refine tk 23 (v := ?_) rfl ?_ ?_
   rotate_left
   ·(intro w hSw; (try dsimp only at hSw); go_simp; try with_reducible rfl)
   simp only [Act.put, AP]
   refine tk 24 (v := ?_) rfl ?_ ?_
   rotate_left
   ·(intro w hSw; (try dsimp only at hSw); go_simp; try with_reducible rfl)
   simp only [Act.put, AP]
   refine tk 25 (v := ?_) rfl ?_ ?_
   rotate_left
   ·(intro w hSw; (try dsimp only at hSw); go_simp; try with_reducible rfl)
   simp only [Act.put, AP]
   refine tk 26 (v := ?_) rfl ?_ ?_
   rotate_left
   ·(intro w hSw; (try dsimp only at hSw); go_simp; try with_reducible rfl)
   simp only [Act.put, AP]
   refine tk 27 (v := ?_) rfl ?_ ?_
   rotate_left
   ·(intro w hSw; (try dsimp only at hSw); go_simp; try with_reducible rfl)
   simp only [Act.put, AP]
   refine wpAnyH_done (by kernel_rfl) ?_ _
   go_wp2
   exact ⟨⟨k + 1, by omega, by go_num, HI.out.drew⟩, by simp [intOf]; omega⟩
  ·obtain rfl : k = n := by omega
   go_wp2
   go_ret
   exact ⟨rfl, HI.out⟩
end Go.Proofs.YtmhhahmjkopjhaaGreat
end
section
namespace Go.Proofs.YtmhhahmjkopjhaaGreat
open Go.RowKit
theorem info109 : (Tryz.prog.info? 111).map (fun i => (i.zero, i.size, i.bytes)) = some (some (.agg #[.slice none 0 0, .slice none 0 0]), 2, 48) := by kernel_rfl
theorem KS.Bs.lt {w : World} {k : KS} (h : k.Bs w) : k.b < w.heap.size := by
 obtain ⟨⟨_, hB⟩, _⟩ := h
 exact hB.lt
end Go.Proofs.YtmhhahmjkopjhaaGreat
end
section
namespace Go.Proofs.YtmhhahmjkopjhaaGreat
open Go.RowKit
theorem method_keys (k : Int) (k0 : 0 ≤ k) (k3 : k ≤ 3) (X : Nat) (n : Nat) : ∀ w : World, (method (n + 1) (typF k) (.pointer (some ⟨X, 0, none⟩)) "Keys").run Tryz.prog w = .ok (keysF k, .pointer (some ⟨X, 0, none⟩)) w := by
 obtain rfl | rfl | rfl | rfl : k = 0 ∨ k = 1 ∨ k = 2 ∨ k = 3 := by omega
 all_goals (intro w; kernel_rfl)
theorem call_keys (k : Int) (k0 : 0 ≤ k) (k3 : k ≤ 3) : ∀ (args : Array Value) (w : World), (callFunc (keysF k) args).run Tryz.prog w = .ok (.enter (keysF k) args) w := by
 obtain rfl | rfl | rfl | rfl : k = 0 ∨ k = 1 ∨ k = 2 ∨ k = 3 := by omega
 all_goals (intro args w; kernel_rfl)
def heldP (l : List (Option (List Int))) (f : Nat → List Int) : List (List Int × List Int) := (List.range l.length).filterMap fun j => match l.getD j none with
 | some b => some (b, f j)
 | none => none
theorem heldP_keys (l : List (Option (List Int))) (f : Nat → List Int) : (heldP l f).map Prod.fst = l.filterMap id := by
 unfold heldP
 rw [List.map_filterMap]
 have h1 : l = (List.range l.length).map fun j => l.getD j none := by
  refine List.ext_getElem? fun j => ?_
  rw [List.getElem?_map]
  by_cases hj : j < l.length
  ·rw [List.getElem?_range hj, List.getElem?_eq_getElem hj, Option.map_some, List.getD_eq_getElem?_getD, List.getElem?_eq_getElem hj]
   rfl
  ·rw [List.getElem?_eq_none (by omega), List.getElem?_eq_none (by simpa using hj)]
   rfl
 conv => rhs; rw [h1]
 rw [List.filterMap_map]
 congr 1
 funext j
 show _ = id (l.getD j none)
 cases l.getD j none <;> rfl
theorem heldP_mem {l : List (Option (List Int))} {f : Nat → List Int} {p : List Int × List Int} (h : p ∈ heldP l f) : ∃ s, s < l.length ∧ l[s]? = some (some p.1) ∧ p.2 = f s := by
 unfold heldP at h
 obtain ⟨s, hs, he⟩ := List.mem_filterMap.1 h
 have hs := List.mem_range.1 hs
 rw [List.getD_eq_getElem?_getD, List.getElem?_eq_getElem hs] at he
 cases hl : l[s] with
 | none => simp [hl] at he
 | some b =>
  simp [hl] at he
  rw [← he]
  exact ⟨s, hs, by rw [List.getElem?_eq_getElem hs, hl], rfl⟩
theorem KLs.over {S : List Nat} {w0 w w' : World} {g : Option Nat} {cap : Nat} {l : List KS} (h : KLs w0 w g cap l) (ht : Touch S w w') (hg : ∀ b, g = some b → b ∉ S) (hS : ∀ k ∈ l, k.b ∉ S) : KLs w0 w' g cap l :=
 ⟨h.row.touch ht hg, h.own, fun k hk => ⟨(h.keys k hk).1.touch ht (hS k hk), (h.keys k hk).2⟩⟩
theorem PLs.over {S : List Nat} {w0 w w' : World} {g : Option Nat} {cap : Nat} {l : List PR} (h : PLs w0 w g cap l) (ht : Touch S w w') (hg : ∀ b, g = some b → b ∉ S) (hS : ∀ p ∈ l, p.k.b ∉ S ∧ p.v.b ∉ S) : PLs w0 w' g cap l :=
 ⟨h.row.touch ht hg, h.own, fun p hp => by
  obtain ⟨h1, h2, h3⟩ := h.keys p hp
  exact ⟨h1.touch ht (hS p hp).1, h2.touch ht (hS p hp).2, h3⟩⟩
theorem PLs.push2 {w0 w : World} {g : Option Nat} {cap : Nat} {l : List PR} (h : PLs w0 w g cap l) (ht : Touch [] w0 w) (p : PR) (hk : p.k.Bs w) (hv : p.v.Bs w) (hk0 : w0.heap.size ≤ p.k.b) (hv0 : w0.heap.size ≤ p.v.b) (hgk : g ≠ some p.k.b) (hgv : g ≠ some p.v.b) (hl : l.length ≤ 1000) :
  ∃ g' cap' w', (Builtin.append_ #[43, 43] 43 #[slV g l.length cap, .slice (some ⟨w.heap.size, 0, none⟩) 1 1]).run Tryz.prog (w.alloc (.cells #[p.k.v, p.v.v] 111)) = .ok (slV g' (l.length + 1) cap') w' ∧ PLs w0 w' g' cap' (l ++ [p]) ∧ Touch [] w0 w' ∧ Touch g.toList w w' ∧ (∀ b, g' = some b → g = some b ∨ w.heap.size ≤ b) := by
 obtain ⟨i, hi0, hz, hs, hb⟩ := info_of info109
 have hN := Blk.newA w #[p.k.v, p.v.v] _ 111 rfl
 have hta : Touch [] w (w.alloc (.cells #[p.k.v, p.v.v] 111)) := (Touch.refl _ w).alloc _
 have hL := h.touch hta (by simp)
 obtain ⟨g', cap', w', hr, h2, h3, h4, h5⟩ := run_append_row (P := Tryz.prog) (w.alloc (.cells #[p.k.v, p.v.v] 111)) 43 43 111 i (.agg #[.slice none 0 0, .slice none 0 0]) 2 Tryz.underlying43 hi0 hz hs rfl (by omega) g l.length cap _ hL.row ⟨w.heap.size, 0, none⟩ 1 1 [p.k.v, p.v.v] rfl
  (fun j u hj => by
   rw [Addr.add_lit, Nat.zero_add]
   exact hN.cell hj) (fun u hu => by
   simp at hu
   rcases hu with rfl | rfl <;> rfl) (by rw [hb]; omega) (by omega)
 have ht2 := ht.trans hta (by simp)
 have hsz := ht2.size
 refine ⟨g', cap', w', hr, ⟨?_, fun b hb => ?_, fun x hx => ?_⟩, ht2.trans h3 (fun y hy => Or.inr (h.own y (by simpa using hy))), (hta.mono (S' := g.toList) (fun b hb => by cases hb)).trans h3 (fun b hb => Or.inl hb), fun b hb => ?_⟩
 ·rw [List.length_append, List.flatMap_append, List.flatMap_singleton]
  exact h2
 ·rcases h4 with rfl | rfl
  ·exact h.own b hb
  ·injection hb with hb
   omega
 ·have hx9 : x.k.Bs w ∧ x.v.Bs w ∧ w0.heap.size ≤ x.k.b ∧ w0.heap.size ≤ x.v.b ∧ g ≠ some x.k.b ∧ g ≠ some x.v.b := by
   rcases List.mem_append.1 hx with hx | hx
   ·exact h.keys x hx
   ·simp only [List.mem_singleton] at hx
    subst hx
    exact ⟨hk, hv, hk0, hv0, hgk, hgv⟩
  obtain ⟨a1, a2, a3, a4, a5, a6⟩ := hx9
  have l1 := a1.lt
  have l2 := a2.lt
  refine ⟨(a1.touch hta (by simp)).touch h3 (fun hy => a5 (by simpa using hy)), (a2.touch hta (by simp)).touch h3 (fun hy => a6 (by simpa using hy)), a3, a4, ?_, ?_⟩
  ·rcases h4 with rfl | rfl
   ·exact a5
   ·intro e
    injection e with e
    rw [World.size_alloc] at e
    omega
  ·rcases h4 with rfl | rfl
   ·exact a6
   ·intro e
    injection e with e
    rw [World.size_alloc] at e
    omega
 ·rcases h4 with rfl | rfl
  ·exact Or.inl hb
  ·injection hb with hb
   rw [World.size_alloc] at hb
   exact Or.inr (by omega)
structure DumpJ (w w' : World) (C : Nat) (q : PX) (kg : Option Nat) (kc : Nat) (kl : List KS) (hp : List (List Int × List Int)) (o : Value) : Prop where
 ex : ∃ (q' : PX) (bl : List Nat) (g : Option Nat) (cap : Nat) (l : List PR), o = slV g l.length cap ∧ KAt w' C bl q' ∧ q'.slots = q.slots ∧ q'.kind = q.kind ∧ PLs w w' g cap l ∧ l.map PR.bs = hp ∧
  (∀ b ∈ bl, w.heap.size ≤ b ∧ kg ≠ some b ∧ (∀ k ∈ kl, k.b ≠ b) ∧ g ≠ some b ∧ ∀ p ∈ l, p.k.b ≠ b ∧ p.v.b ≠ b) ∧ (∀ b, g = some b → kg ≠ some b ∧ ∀ k ∈ kl, k.b ≠ b)
 keys : KLs w w' kg kc kl
 touch : Touch [] w w'
theorem KLs.lt_g {w0 w : World} {g : Option Nat} {cap : Nat} {l : List KS} (h : KLs w0 w g cap l) {b : Nat} (hb : g = some b) : b < w.heap.size := by
 have hr := h.row
 rw [hb] at hr
 obtain ⟨_, _, _, _, hB, _⟩ := hr
 exact hB.lt
theorem PLs.lt_g {w0 w : World} {g : Option Nat} {cap : Nat} {l : List PR} (h : PLs w0 w g cap l) {b : Nat} (hb : g = some b) : b < w.heap.size := by
 have hr := h.row
 rw [hb] at hr
 obtain ⟨_, _, _, _, hB, _⟩ := hr
 exact hB.lt
theorem DumpJ.found {w w1 w2 : World} {C : Nat} {q2 : PX} {kg : Option Nat} {kc : Nat} {kl : List KS} {bl : List Nat} {g : Option Nat} {cap : Nat} {l : List PR}
  (h4 : PLs w w1 g cap l) (h6 : ∀ b ∈ bl, w.heap.size ≤ b ∧ kg ≠ some b ∧ (∀ k ∈ kl, k.b ≠ b) ∧ g ≠ some b ∧ ∀ p ∈ l, p.k.b ≠ b ∧ p.v.b ≠ b) (h8 : KLs w w1 kg kc kl) (h9 : Touch [] w w1)
  (st : KStep w1 w2 C bl q2) : ∃ bl2, KAt w2 C bl2 q2 ∧ PLs w w2 g cap l ∧ (∀ b ∈ bl2, w.heap.size ≤ b ∧ kg ≠ some b ∧ (∀ k ∈ kl, k.b ≠ b) ∧ g ≠ some b ∧ ∀ p ∈ l, p.k.b ≠ b ∧ p.v.b ≠ b) ∧ KLs w w2 kg kc kl ∧ Touch [] w w2 := by
 obtain ⟨bl2, hA, ht, hb⟩ := st
 have hs1 := h9.size
 refine ⟨bl2, hA, h4.over ht (fun b hg hx => (h6 b hx).2.2.2.1 hg) (fun p hp => ⟨fun hx => ((h6 _ hx).2.2.2.2 p hp).1 rfl, fun hx => ((h6 _ hx).2.2.2.2 p hp).2 rfl⟩), fun b hb2 => ?_, h8.over ht (fun b hg hx => (h6 b hx).2.1 hg) (fun k hk hx => (h6 _ hx).2.2.1 k hk rfl), h9.trans ht (fun y hy => Or.inr (h6 y hy).1)⟩
 rcases hb b hb2 with hx | hx
 ·exact h6 b hx
 ·refine ⟨by omega, fun e => ?_, fun k hk e => ?_, fun e => ?_, fun p hp => ⟨fun e => ?_, fun e => ?_⟩⟩
  ·have := h8.lt_g e
   omega
  ·have := (h8.keys k hk).1.lt
   omega
  ·have := h4.lt_g e
   omega
  ·have := (h4.keys p hp).1.lt
   omega
  ·have := (h4.keys p hp).2.1.lt
   omega
theorem DumpJ.push {w w1 w2 : World} {C : Nat} {q q' : PX} {kg : Option Nat} {kc : Nat} {kl : List KS} {hp : List (List Int × List Int)} {bl : List Nat} {g : Option Nat} {cap : Nat} {l : List PR} {j N : Nat} {ks : KS} {vb : List Int}
  (h1 : KAt w1 C bl q') (hq : q'.slots = q.slots) (hqk : q'.kind = q.kind) (h4 : PLs w w1 g cap l) (h5 : l.map PR.bs = hp.take j) (h6 : ∀ b ∈ bl, w.heap.size ≤ b ∧ kg ≠ some b ∧ (∀ k ∈ kl, k.b ≠ b) ∧ g ≠ some b ∧ ∀ p ∈ l, p.k.b ≠ b ∧ p.v.b ≠ b)
  (h7 : ∀ b, g = some b → kg ≠ some b ∧ ∀ k ∈ kl, k.b ≠ b) (h8 : KLs w w1 kg kc kl) (h9 : Touch [] w w1) (ht : Touch [] w1 w2) (hk : ks ∈ kl) (hj : hp[j]? = some (ks.bs, vb)) (hB : Blk w2 N (vb.map (Value.int .u8)) 5) (hN : w1.heap.size ≤ N) (hv1 : 1 ≤ vb.length) (hv2 : vb.length ≤ 65536) (hvb : ∀ x ∈ vb, 0 ≤ x ∧ x ≤ 255) (hl : l.length ≤ 1000) :
  ∃ g' cap' w3, (Builtin.append_ #[43, 43] 43 #[slV g l.length cap, .slice (some ⟨w2.heap.size, 0, none⟩) 1 1]).run Tryz.prog (w2.alloc (.cells #[ks.v, .slice (some ⟨N, 0, none⟩) vb.length vb.length] 111)) = .ok (slV g' (l.length + 1) cap') w3 ∧ DumpJ w w3 C q kg kc kl (hp.take (j + 1)) (slV g' (l.length + 1) cap') := by
 have hNl := hB.lt
 have hs2 := ht.size
 have h42 := h4.over ht (by simp) (by simp)
 have h82 := h8.over ht (by simp) (by simp)
 have h12 := h1.still ht
 have h92 := h9.trans ht (by simp)
 have hs9 := h9.size
 have hkk := (h82.keys ks hk)
 have hvB : (⟨N, vb.length, vb⟩ : KS).Bs w2 := ⟨⟨[], by simpa using hB.toF⟩, hvb, hv2, hv1, Nat.le_refl _⟩
 obtain ⟨g', cap', w3, hr, hP, hT, hTg, hg'⟩ := h42.push2 h92 ⟨ks, ⟨N, vb.length, vb⟩⟩ hkk.1.toBs hvB hkk.2.1 (by show w.heap.size ≤ N; omega) (fun e => (h7 _ e).2 ks hk rfl) (fun e => by have := h4.lt_g e; dsimp only at this; omega) hl
 have hgl : ∀ b, g' = some b → g = some b ∨ w2.heap.size ≤ b := hg'
 refine ⟨g', cap', w3, hr, ⟨q', bl, g', cap', l ++ [⟨ks, ⟨N, vb.length, vb⟩⟩], by rw [List.length_append]; rfl, h12.touch hTg (fun b hb hx => (h6 b hb).2.2.2.1 (by simpa using hx)), hq, hqk, hP, ?_, fun b hb => ?_, fun b hb => ?_⟩, h82.over hTg (fun b hb hx => (h7 b (by simpa using hx)).1 hb) (fun k hk hx => (h7 _ (by simpa using hx)).2 k hk rfl), hT⟩
 ·rw [List.map_append, h5, List.take_add_one, hj]
  rfl
 ·have hbl := h1.lt b hb
  obtain ⟨a1, a2, a3, a4, a5⟩ := h6 b hb
  refine ⟨a1, a2, a3, fun e => ?_, fun p hp => ?_⟩
  ·rcases hgl b e with h | h
   ·exact a4 h
   ·omega
  ·rcases List.mem_append.1 hp with hp | hp
   ·exact a5 p hp
   ·rw [List.mem_singleton.1 hp]
    exact ⟨a3 ks hk, fun e => by have e : N = b := e; omega⟩
 ·rcases hgl b hb with h | h
  ·exact h7 b h
  ·refine ⟨fun e => by have := h8.lt_g e; omega, fun k hk e => by have := (h8.keys k hk).1.lt; omega⟩
end Go.Proofs.YtmhhahmjkopjhaaGreat
end
section
namespace Go.Proofs.YtmhhahmjkopjhaaGreat
open Go.RowKit
theorem PL.weaken {w0 w1 w : World} {v : Value} {ps : List (List Int × List Int)} (h : PL w1 w v ps) (ht : w0.heap.size ≤ w1.heap.size) : PL w0 w v ps := by
 obtain ⟨g, cap, l, h1, h2, h3⟩ := h
 refine ⟨g, cap, l, h1, ⟨h2.row, fun b hb => by have := h2.own b hb; omega, fun p hp => ?_⟩, h3⟩
 obtain ⟨a1, a2, a3, a4, a5⟩ := h2.keys p hp
 exact ⟨a1, a2, by omega, by omega, a5⟩
theorem KLs.weaken {w0 w1 w : World} {g : Option Nat} {cap : Nat} {l : List KS} (h : KLs w1 w g cap l) (ht : w0.heap.size ≤ w1.heap.size) : KLs w0 w g cap l :=
 ⟨h.row, fun b hb => by have := h.own b hb; omega, fun k hk => by
  obtain ⟨a1, a2, a3⟩ := h.keys k hk
  exact ⟨a1, by omega, a3⟩⟩
def Served (rs : List Mem.Reg) (k : Nat) (v : Int) (n : Nat) : Prop := ∀ s : Nat, s < n → Mem.readE rs (plI k s) v = 0 ∧ ((Mem.readV rs (plI k s) v).length : Int) = v ∧ ∀ x ∈ Mem.readV rs (plI k s) v, 0 ≤ x ∧ x ≤ 255
def PMap.dump (m : PMap) (k : Nat) (rs : List Mem.Reg) : List (List Int × List Int) := heldP m.q.slots fun s => Mem.readV rs (plI k s) m.d.val
def PDumpPost (w : World) (ps : List (List Int × List Int)) (e : Ending) (w' : World) : Prop := (∃ v, e = .returned (.tuple #[v, .int .i64 0]) ∧ PL w w' v ps) ∧ Touch [] w w'
theorem DumpJ.start {w w1 w2 : World} {C : Nat} {q : PX} {bl : List Nat} {kg : Option Nat} {kc : Nat} {kl : List KS} (hA : KAt w1 C bl q) (hb : ∀ b ∈ bl, w.heap.size ≤ b) (ht : Touch [] w w1) (hK : KLs w1 w2 kg kc kl) (ht2 : Touch [] w1 w2) : DumpJ w w2 C q kg kc kl [] (.slice none 0 0) := by
 have hs := ht.size
 obtain ⟨g0, c0, l0, e1, e2, e3⟩ := PL.nil w w2
 have hl0 : l0 = [] := by simpa using e3
 subst hl0
 have hg0 : g0 = none := by
  cases g0 with
  | none => rfl
  | some b => unfold slV at e1; injection e1 with e1; cases e1
 subst hg0
 refine ⟨⟨q, bl, none, c0, [], e1, hA.still ht2, rfl, rfl, e2, rfl, fun b hbb => ⟨hb b hbb, fun e => ?_, fun k hk e => ?_, by simp, by simp⟩, by simp⟩, hK.weaken hs, ht.trans ht2 (by simp)⟩
 ·have := hK.own b e
  have := hA.lt b hbb
  omega
 ·have := (hK.keys k hk).2.1
  have := hA.lt b hbb
  omega
theorem pdump_any {w : World} {x : PT} {s : Mem.MS} (h : PBoth w x s) {k : Nat} {m : PMap} (hm : x.maps[k]? = some m) (hsv : Served s.rs k m.d.val m.q.slots.length) :
  Calls Tryz.prog 14 #[.pointer (some ⟨x.t, 0, none⟩), .int .i64 (k : Int)] w (PDumpPost w (m.dump k s.rs)) := by
 have hz := (zero_of_info (P := Tryz.prog) zero89).1
 have hsz := (zero_of_info (P := Tryz.prog) zero89).2
 have hmem := List.mem_of_getElem? hm
 have H1 := toHid (numbered_any h.tab k)
 rw [nth_of hm] at H1
 have hok := h.tab.ok m hmem
 have hgood := (h.tab.maps m hmem).good
 have hkd := hok.kind
 have hk8 : k < 8 := by have := (List.getElem?_eq_some_iff.1 hm).1; have := h.tab.many; omega
 have kk0 : 0 ≤ m.d.kind := by rw [← hkd]; exact hgood.k0
 have kk3 : m.d.kind ≤ 3 := by rw [← hkd]; exact hgood.k3
 have HMK := fun X => method_keys m.d.kind kk0 kk3 X
 have HMF := fun X => method_find m.d.kind kk0 kk3 X
 have HCK := call_keys m.d.kind kk0 kk3
 have HCF := call_find m.d.kind kk0 kk3
 have H2 := toHid (fun w0 (ht : Touch [] w w0) => twin_any ((h.tab.maps m hmem).still ht))
 have H3 := toHid (fun (w0 : World) (C : Nat) (bl : List Nat) (q : PX) (hA : KAt w0 C bl q) (hq : q.kind = m.d.kind) => by have := kkeys_any hA; rw [hq] at this; exact this)
 have H4 := toHid (fun (w0 : World) (C : Nat) (bl : List Nat) (q : PX) (hA : KAt w0 C bl q) (hq : q.kind = m.d.kind) (ks : KS) (hk : ks.At w0) => by have := kfind_any hA hk.key ks.cap hk.2.2.2.2; rw [hq] at this; exact this)
 rw [hkd] at H2
 have HH := toHid (And.intro h (And.intro hsv (And.intro hgood.m2 (And.intro hkd (And.intro hok.v1 hok.v2)))))
 have HD : Hid (m.dump k s.rs = heldP m.q.slots fun s' => Mem.readV s.rs (plI k s') m.d.val) := rfl
 simp only [mapV, numE, PMap.v, ixV] at H1
 unfold ixV at H2
 unfold TwinPost ixV at H2
 have hv2 := hok.v2
 generalize m.dump k s.rs = hp at *
 generalize hqq : m.q = q at *
 generalize m.d.val = mv at *
 generalize m.d.key = ky at *
 generalize m.d.max = mx at *
 generalize m.X = X at *
 generalize typF m.d.kind = ty at *
 generalize keysF m.d.kind = fk at *
 generalize findF m.d.kind = ff at *
 generalize m.d.kind = kd at *
 clear h hm hsv hmem hok hgood hkd kk0 kk3 hqq
 go_enter Tryz.func14, Tryz.ntmps14
 go_wp2_with fail
 refine Calls.mono H1.out ?_
 rintro e w2 ⟨rfl, ht2⟩
 have hta : ∀ o, Touch [] w (w2.alloc o) := fun o => ht2.alloc o
 have HT := toHid hta
 have HTS := toHid ht2
 clear ht2 hta H1
 have hNB := Blk.newA w2 #[.int .i64 kd, .int .i64 ky, .int .i64 mv, .int .i64 mx, .iface ty (.pointer (some ⟨X, 0, none⟩))] _ 89 rfl
 have HNB := toHid hNB
 clear hNB
 go_wp2_with fail
 generalize hw1 : w2.alloc (.cells #[.int .i64 kd, .int .i64 ky, .int .i64 mv, .int .i64 mx, .iface ty (.pointer (some ⟨X, 0, none⟩))] 89) = w1 at *
 have hT1 : Touch [] w w1 := by rw [← hw1]; exact HT.out _
 have HT1 := toHid hT1
 clear HT
 refine Calls.mono (H2.out _ hT1) ?_
 rintro e w3 ⟨C, bl, rfl, hA, hb, ht3⟩
 have HA := toHid (And.intro hA (And.intro hb ht3))
 clear hw1 hT1 hA hb ht3
 go_wp2_with fail
 refine Calls.mono (H3.out _ _ _ _ HA.out.1 HH.out.2.2.2.1) ?_
 rintro e w4 ⟨⟨v, rfl, kg, kc, kl, rfl, hK, hkl⟩, ht4⟩
 have hn : hp.length = kl.length := by
  have h1 := congrArg List.length (heldP_keys q.slots fun s' => Mem.readV s.rs (plI k s') mv)
  rw [← HD.out, List.length_map] at h1
  have h2 := congrArg List.length hkl
  rw [List.length_map] at h2
  rw [h1, h2]
  rfl
 have hpn : hp.length ≤ 64 := by
  rw [HD.out]
  unfold heldP
  have := List.length_filterMap_le (fun j => match q.slots.getD j none with
   | some b => some (b, Mem.readV s.rs (plI k j) mv)
   | none => none) (List.range q.slots.length)
  rw [List.length_range] at this
  have := HH.out.2.2.1
  exact Nat.le_trans (by assumption) this
 have HK := toHid (And.intro hkl hn)
 have HJ0 := toHid (DumpJ.start HA.out.1 HA.out.2.1 HA.out.2.2 hK ht4)
 clear hK ht4 hkl H2 H3 HMK HCK HA
 unfold slV
 generalize hsg : (kg.map fun b => (⟨b, 0, none⟩ : Addr)) = sg at *
 have HG := toHid hsg
 generalize hL : kl.length = n at *
 have HL := toHid hL
 clear hsg hL
 go_wp2_with fail
 go_loopw [9, 31] (fun o t w' => ∃ j : Nat, j ≤ n ∧ t = .int .i64 j ∧ Hid (DumpJ w1 w' C q kg kc kl (hp.take j) o)) (fun _ t _ => n - (intOf t).toNat)
 case atStart => exact ⟨0, by omega, rfl, HJ0.out⟩
 case round =>
  obtain ⟨j, hj, rfl, HI⟩ := hrel
  clear HJ0
  by_cases hlt : j < n
  ·obtain ⟨⟨q', bl, g, cap, l, rfl, hA, hqs, hqk, hP, hPl, h6, h7⟩, hK, hT⟩ := HI.out
   obtain ⟨kb, ks, hkg, hkj, hcell, hks⟩ := hK.at_ (j := j) (by rw [HL.out]; exact hlt)
   have hsg := HG.out
   rw [hkg, Option.map_some] at hsg
   subst hsg
   have hkm := List.mem_of_getElem? hkj
   obtain ⟨p, hpj⟩ : ∃ p, hp[j]? = some p := ⟨_, List.getElem?_eq_getElem (by have := HK.out.2; have := HL.out; omega)⟩
   have hp1 : p.1 = ks.bs := by
    have h1 := heldP_keys q.slots fun s' => Mem.readV s.rs (plI k s') mv
    rw [← HD.out] at h1
    have h2 : (hp.map Prod.fst)[j]? = some p.1 := by rw [List.getElem?_map, hpj]; rfl
    have h3 : (kl.map KS.bs)[j]? = some ks.bs := by rw [List.getElem?_map, hkj]; rfl
    rw [h1] at h2
    rw [HK.out.1] at h3
    exact Option.some.inj (h2.symm.trans h3)
   obtain ⟨sN, hsN, hsl, hp2⟩ := heldP_mem (show p ∈ heldP q.slots (fun s' => Mem.readV s.rs (plI k s') mv) by rw [← HD.out]; exact List.mem_of_getElem? hpj)
   rw [hp1] at hsl
   have hown := kfind_own hA (i := sN) (bs := ks.bs) (by rw [hqs]; exact hsl)
   have H5 := toHid (H4.out wr C bl q' hA (by rw [hqk]; exact HH.out.2.2.2.1) ks hks)
   have hgk := (hA.good.findA ks.bs).2.kind
   have hgs := pfind_slots q' ks.bs
   obtain ⟨hE, hvl, hvb⟩ := HH.out.2.1 sN hsN
   have hpp : hp[j]? = some (ks.bs, Mem.readV s.rs (plI k sN) mv) := by rw [hpj, ← hp1, ← hp2]
   have hs64 : sN < 64 := by have := HH.out.2.2.1; omega
   have HP := toHid (fun w0 => place_any w0 k sN hk8 hs64)
   have HPL : Hid (0 ≤ plI k sN ∧ plI k sN ≤ 18446744073709551615) := ⟨by unfold plI; omega, by unfold plI; omega⟩
   have hll : l.length ≤ 1000 := by
    have h1 := congrArg List.length hPl
    rw [List.length_map, List.length_take] at h1
    omega
   unfold KS.v at hcell
   unfold KFindPost at H5
   rw [hown] at H5
   have HX := toHid (And.intro hA (And.intro hqs (And.intro hqk (And.intro hP (And.intro hPl (And.intro h6 (And.intro h7 (And.intro hK (And.intro hT (And.intro hgk (And.intro hgs (And.intro hpp (And.intro hvl (And.intro hvb (And.intro hkm hll)))))))))))))))
   generalize plI k sN = pl at *
   generalize (q'.findA ks.bs).2 = q2 at *
   clear hA hqs hqk hP hPl h6 h7 hK hT hgk hgs hpp hvl hvb hkm hll hkg hkj hpj hp1 hsl hp2 hown hsN hs64 HI
   go_wp2_with fail
   refine Calls.mono H5.out ?_
   rintro e w5 ⟨rfl, st⟩
   obtain ⟨hA, hqs, hqk, hP, hPl, h6, h7, hK, hT, hgk, hgs, hpp, hvl, hvb, hkm, hll⟩ := HX.out
   obtain ⟨bl2, fA, fP, f6, fK, fT⟩ := DumpJ.found hP h6 hK hT st
   have hW := HT1.out.trans fT (by simp)
   have hBd := (HH.out.1.still hW).still ((Touch.refl [] w5).drew)
   have HR := toHid (Mem.read2_any hBd.mem pl mv HPL.out.1 HPL.out.2 (by have := HH.out.2.2.2.2.2; omega))
   unfold Mem.ReadPost2 at HR
   rw [hE] at HR
   have e0 := hBd.tab.c0
   rw [hBd.at_] at e0
   have e2 : w5.drew.cell? ⟨w2.heap.size, 2, none⟩ = some (.int .i64 mv) := ((fT.drew).blk HNB.out (by simp)).cell (i := 2) rfl
   have HSS : Hid (∀ w', Touch [] w5.drew w' → w'.cell? ⟨x.t, 0, none⟩ = some (.pointer (some ⟨s.m, 0, none⟩)) ∧ w'.cell? ⟨w2.heap.size, 2, none⟩ = some (.int .i64 mv)) := fun w' ht => ⟨ht.cell e0 (by simp), ht.cell e2 (by simp)⟩
   have HY := toHid (And.intro fA (And.intro fP (And.intro f6 (And.intro fK fT))))
   clear st hA hqs hqk hP hPl h6 h7 hK hT hgk hgs hpp hvl hvb hkm hll fA fP f6 fK fT hW hBd e0 e2 hcell H5 hE
   unfold foundV idx0
   go_wp2_with fail
   refine wp_region_held_drew (S := fun w' => w'.cell? ⟨x.t, 0, none⟩ = some (.pointer (some ⟨s.m, 0, none⟩)) ∧ w'.cell? ⟨w2.heap.size, 2, none⟩ = some (.int .i64 mv)) (by kernel_rfl) ?_ (fun hHeld => ?_)
   ·exact HSS.out _ (Touch.refl _ _)
   refine tk 0 (v := ?_) rfl ?_ ?_
   rotate_left
   ·(intro w hSw; (try dsimp only at hSw); go_simp; try with_reducible rfl)
   simp only [Act.put, AP]
   refine tk 1 (v := ?_) rfl ?_ ?_
   rotate_left
   ·(intro w hSw; (try dsimp only at hSw); go_simp; try with_reducible rfl)
   simp only [Act.put, AP]
   refine tk 2 (v := ?_) rfl ?_ ?_
   rotate_left
   ·(intro w hSw; (try dsimp only at hSw); go_simp; try with_reducible rfl)
   simp only [Act.put, AP]
   refine tk 3 (v := ?_) rfl ?_ ?_
   rotate_left
   ·(intro w hSw; (try dsimp only at hSw); go_simp; try with_reducible rfl)
   simp only [Act.put, AP]
   refine tk 4 (v := ?_) rfl ?_ ?_
   rotate_left
   ·(intro w hSw; (try dsimp only at hSw); go_simp; try with_reducible rfl)
   simp only [Act.put, AP]
   refine tk 5 (v := ?_) rfl ?_ ?_
   rotate_left
   ·(intro w hSw; (try dsimp only at hSw); go_simp; try with_reducible rfl)
   simp only [Act.put, AP]
   refine tk 7 (v := ?_) rfl ?_ ?_
   rotate_left
   ·(intro w hSw; (try dsimp only at hSw); go_simp; try with_reducible rfl)
   simp only [Act.put, AP]
   refine tk 8 (v := ?_) rfl ?_ ?_
   rotate_left
   ·(intro w hSw; (try dsimp only at hSw); go_simp; try with_reducible rfl)
   simp only [Act.put, AP]
   refine tk 9 (v := ?_) rfl ?_ ?_
   rotate_left
   ·(intro w hSw; (try dsimp only at hSw); go_simp; try with_reducible rfl)
   simp only [Act.put, AP]
   refine wpAnyH_ready (rs := [6]) (by kernel_rfl) (by simp) ?_
   refine AllReadyH.cons rfl (fun K hK => ?_) AllReadyH.nil
   simp only [AP]
   go_simp
   refine Calls.mono (HP.out _) ?_; rintro e w6 ⟨rfl, rfl⟩
   go_wp2_with fail
   refine hK.out _ _ ?_ (fun hHeld => ?_)
   ·exact HSS.out _ (Touch.refl _ _)
   clear hK K
   try simp only [Act.put, AP]
   refine wpAnyH_ready (rs := [10]) (by kernel_rfl) (by simp) ?_
   refine AllReadyH.cons rfl (fun K hK => ?_) AllReadyH.nil
   simp only [AP]
   go_simp
   refine Calls.mono HR.out ?_; rintro e w6 ⟨rv, rfl, hsl, hnw, ht6⟩; have HN := toHid (And.intro hsl (And.intro hnw ht6)); clear hsl hnw ht6
   go_wp2_with fail
   refine hK.out _ _ ?_ (fun hHeld => ?_)
   ·exact HSS.out _ HN.out.2.2
   clear hK K
   try simp only [Act.put, AP]
   refine tk 11 (v := ?_) rfl ?_ ?_
   rotate_left
   ·(intro w hSw; (try dsimp only at hSw); go_simp; try with_reducible rfl)
   simp only [Act.put, AP]
   refine tk 12 (v := ?_) rfl ?_ ?_
   rotate_left
   ·(intro w hSw; (try dsimp only at hSw); go_simp; try with_reducible rfl)
   simp only [Act.put, AP]
   refine tk 13 (v := ?_) rfl ?_ ?_
   rotate_left
   ·(intro w hSw; (try dsimp only at hSw); go_simp; try with_reducible rfl)
   simp only [Act.put, AP]
   refine wpAnyH_ready (rs := [14]) (by kernel_rfl) (by simp) ?_
   refine AllReadyH.cons rfl (fun K hK => ?_) AllReadyH.nil
   simp only [AP]
   go_simp
   refine hK.out _ _ ?_ (fun hHeld => ?_)
   ·exact hHeld
   clear hK K
   try simp only [Act.put, AP]
   refine wpAnyH_ready (rs := [15]) (by kernel_rfl) (by simp) ?_
   refine AllReadyH.cons rfl (fun K hK => ?_) AllReadyH.nil
   simp only [AP]
   go_simp
   refine hK.out _ _ ?_ (fun hHeld => ?_)
   ·exact hHeld
   clear hK K
   try simp only [Act.put, AP]
   refine wpAnyH_done (by kernel_rfl) ?_ _
   clear hHeld HSS HR HP
   obtain ⟨hA, hqs, hqk, hP, hPl, h6, h7, hK, hT, hgk, hgs, hpp, hvl, hvb, hkm, hll⟩ := HX.out
   obtain ⟨fA, fP, f6, fK, fT⟩ := HY.out
   obtain ⟨hsl, hnw, ht6⟩ := HN.out
   have hv1 := HH.out.2.2.2.2.1
   have hv64 := HH.out.2.2.2.2.2
   rcases hsl with ⟨hnil, _⟩ | ⟨_, N, rfl, hB⟩
   ·rw [hnil] at hvl
    simp at hvl
    omega
   ·have hNs : w5.heap.size ≤ N := hnw _ _ _ _ rfl
    obtain ⟨g', cap', w7, hr, hD⟩ := DumpJ.push fA (hgs.trans hqs) (hgk.trans hqk) fP hPl f6 h7 fK fT (((Touch.refl [] w5).drew).trans ht6 (by simp)) hkm hpp hB hNs (by omega) (by omega) hvb hll
    have HDD := toHid hD
    unfold KS.v at hr
    have HR2 := toHid hr
    clear hA hqs hqk hP hPl h6 h7 hK hT hgk hgs hpp hvl hvb hkm hll fA fP f6 fK fT ht6 hB hNs hD HN HX HY H4 HMF HCF hr hnw
    generalize (Mem.readV s.rs pl mv).length = vl at *
    generalize hv9 : slV g' (l.length + 1) cap' = v9 at *
    clear hv9
    unfold slV at HR2 ⊢
    go_wp2_with (first | (at_builtin; refine Lib.wpList_append_run _ rfl _ _ _ _ rfl _ _ rfl rfl _ _ HR2.out ?_))
    exact ⟨⟨j + 1, by omega, by go_num, HDD⟩, by simp [intOf]; omega⟩
  ·obtain rfl : j = n := by omega
   have htk : hp.take j = hp := by rw [← HK.out.2]; exact List.take_length
   rw [htk] at HI
   obtain ⟨⟨q', bl, g, cap, l, rfl, hA, hqs, hqk, hP, hPl, h6, h7⟩, hK, hT⟩ := HI.out
   have HF : Hid (PDumpPost w hp (.returned (.tuple #[slV g l.length cap, .int .i64 0])) wr) := ⟨⟨_, rfl, PL.weaken ⟨g, cap, l, rfl, hP, hPl⟩ HT1.out.size⟩, HT1.out.trans hT (by simp)⟩
   generalize slV g l.length cap = o at *
   clear hA hqs hqk hP hPl h6 h7 hK hT HI htk
   go_wp2
   go_ret2
   exact HF.out
end Go.Proofs.YtmhhahmjkopjhaaGreat
end
section
namespace Go.Proofs.YtmhhahmjkopjhaaGreat
open Go.RowKit
theorem filterMap_same' {α β : Type} {f g : α → Option β} : ∀ {l : List α}, (∀ a ∈ l, f a = g a) → l.filterMap f = l.filterMap g
 | [], _ => rfl
 | a :: l, h => by
  rw [List.filterMap_cons, List.filterMap_cons, h a (by simp), filterMap_same' (l := l) (fun b hb => h b (by simp [hb]))]
theorem Alike.dump {w0 w : World} {x x' : PT} {s s' : Mem.MS} {qs qs' : List PX} {a b : MDef} (h : Alike w0 w x s qs x' s' qs' a b) :
  ∃ m m', x.maps[1]? = some m ∧ x'.maps[0]? = some m' ∧ m.dump 1 s.rs = m'.dump 0 s'.rs ∧ Served s.rs 1 m.d.val m.q.slots.length ∧ Served s'.rs 0 m'.d.val m'.q.slots.length := by
 obtain ⟨q0, q, hq, hq'⟩ := h.q
 obtain ⟨m, hm, hd, hmq⟩ := PT.at_ds (x := x) (k := 1) (d := b) (q := q) (by rw [h.sep.t.ds]; rfl) (by rw [h.sep.t.qs, hq]; rfl)
 obtain ⟨m', hm', hd', hmq'⟩ := PT.at_ds (x := x') (k := 0) (d := b) (q := q) (by rw [h.sep.u.ds]; rfl) (by rw [h.sep.u.qs, hq']; rfl)
 subst hq
 subst hq'
 obtain ⟨_, hx, _⟩ := h.sep.u.map (k := 0) (d := b) (q := q) rfl rfl
 refine ⟨m, m', hm, hm', ?_, fun sl hs => ?_, fun sl hs => ?_⟩
 ·unfold PMap.dump heldP
  rw [hmq, hmq', hd, hd']
  refine filterMap_same' fun j hj => ?_
  have hj := List.mem_range.1 hj
  cases q.slots.getD j none with
  | none => rfl
  | some bs =>
   dsimp only
   rw [show Mem.readV s.rs (plI ((1 : Nat) : Int) j) b.val = Mem.readV s'.rs (plI ((0 : Nat) : Int) j) b.val from h.vals j (by omega)]
 ·rw [hd]
  exact h.sep.t.read (k := 1) (d := b) rfl (by rw [hmq] at hs; omega)
 ·rw [hd']
  exact h.sep.u.read (k := 0) (d := b) rfl (by rw [hmq'] at hs; omega)
end Go.Proofs.YtmhhahmjkopjhaaGreat
end
section
namespace Go.Proofs.YtmhhahmjkopjhaaGreat
open Go.RowKit
theorem KeyAt.new1 (w : World) (a : Int) (h : 0 ≤ a ∧ a ≤ 255) : KeyAt (w.alloc (.cells #[.int .u8 a] 5)) (some ⟨w.heap.size, 0, none⟩) 1 [a] := by
 have hB := Blk.newA w #[.int .u8 a] _ 5 rfl
 refine ⟨rfl, by simpa using h, by simp, fun _ => ⟨_, 0, rfl, fun j hj => ?_⟩⟩
 simp at hj
 subst hj
 exact hB.cell rfl
theorem KeyAt.new2 (w : World) (a b : Int) (h : 0 ≤ a ∧ a ≤ 255) (h' : 0 ≤ b ∧ b ≤ 255) : KeyAt (w.alloc (.cells #[.int .u8 a, .int .u8 b] 5)) (some ⟨w.heap.size, 0, none⟩) 2 [a, b] := by
 have hB := Blk.newA w #[.int .u8 a, .int .u8 b] _ 5 rfl
 refine ⟨rfl, by simpa using ⟨h, h'⟩, by simp, fun _ => ⟨_, 0, rfl, fun j hj => ?_⟩⟩
 simp at hj
 have : j = 0 ∨ j = 1 := by omega
 rcases this with rfl | rfl <;> exact hB.cell rfl
theorem DefsAt.one (w : World) (d : MDef) : DefsAt (w.alloc (.cells d.cells.toArray 36)) (some ⟨w.heap.size, 0, none⟩) 1 [d] := by
 have hB := Blk.newA w d.cells.toArray _ 36 rfl
 refine ⟨rfl, by omega, fun _ => ⟨_, 0, rfl, fun i d' hd j v hv => ?_⟩⟩
 match i, hd with
 | 0, hd =>
  simp at hd
  subst hd
  simp only [Nat.zero_mul, Nat.zero_add]
  exact hB.cell hv
theorem FreeAll.nil (ds : List MDef) (h : ds.length ≤ 8) (h2 : ∀ d ∈ ds, 0 ≤ d.max ∧ d.max ≤ 64) : roomOk ds [] := by
 have := maxSum_bd ds h2
 exact ⟨fun i d _ _ s _ => by simp [Mem.busyB], by simp; omega⟩
def fD : MDef := ⟨1, 1, 2, 2⟩
def fQ : PX := ((newQ fD).putA [7] 0).2
theorem upd_eqs {x : PT} {ds : List MDef} {qs : List PX} (h1 : x.ds = ds) (h2 : x.qs = qs) {k : Nat} {d : MDef} {q : PX} (hd : ds[k]? = some d) (hq : qs[k]? = some q) {bs vs : List Int} {fl : Int} (hb : (bs.length : Int) = d.key) (hv : (vs.length : Int) = d.val) :
  updP x k bs vs fl = if (q.putA bs fl).1.2.2 = 0 then (0, qs.set k (q.putA bs fl).2, some (plI k (q.putA bs fl).1.1)) else ((q.putA bs fl).1.2.2, qs.set k (q.putA bs fl).2, none) := by
 subst h1
 subst h2
 obtain ⟨m, hm, hmd, hmq⟩ := PT.at_ds hd hq
 subst hmd
 subst hmq
 have hc : chkP x.ds k bs.length = 0 := by
  unfold chkP
  rw [if_pos ⟨by omega, by have := (List.getElem?_eq_some_iff.1 hd).1; omega⟩, Int.toNat_natCast, hd]
  dsimp only
  rw [if_pos hb]
 unfold updP
 rw [if_pos hc, Int.toNat_natCast, hm]
 dsimp only
 rw [if_pos hv]
theorem look_eqs {x : PT} {ds : List MDef} {qs : List PX} (h1 : x.ds = ds) (h2 : x.qs = qs) {k : Nat} {d : MDef} {q : PX} (hd : ds[k]? = some d) (hq : qs[k]? = some q) {bs : List Int} (hb : (bs.length : Int) = d.key) :
  lookP x k bs = ((match (q.findA bs).1 with
   | some s => plI k (s : Int)
   | none => 0, 0), qs.set k (q.findA bs).2) := by
 subst h1
 subst h2
 obtain ⟨m, hm, hmd, hmq⟩ := PT.at_ds hd hq
 subst hmd
 subst hmq
 have hc : chkP x.ds k bs.length = 0 := by
  unfold chkP
  rw [if_pos ⟨by omega, by have := (List.getElem?_eq_some_iff.1 hd).1; omega⟩, Int.toNat_natCast, hd]
  dsimp only
  rw [if_pos hb]
 unfold lookP
 rw [if_pos hc, Int.toNat_natCast, hq] <;> rfl
theorem first_any (w : World) : Calls Tryz.prog 7 #[] w fun e w' => e = .returned (.bool true) ∧ Touch [] w w' := by
 go_enter Tryz.func7, Tryz.ntmps7
 go_wp2_with fail
 refine (Mem.newM_any _).mono ?_
 rintro e w2 ⟨rfl, hm, ht⟩
 go_wp2_with fail
 have HM := toHid (And.intro hm ht)
 have ht2 := (Touch.refl [] w2).alloc (.cells fD.cells.toArray 36)
 have H1 := toHid (pnew_any (hm.touch ht2 (by simp)) (by show 0 ≤ 1000000; omega) (sc := 1) (DefsAt.one w2 fD))
 clear hm ht ht2
 refine Calls.mono H1.out ?_
 rintro e w3 hp
 have hp : ∃ x s', e = .returned (.tuple #[.pointer (some ⟨x.t, 0, none⟩), .int .i64 0]) ∧ s'.m = w.heap.size ∧ Solo w w3 x s' [fD] [newQ fD] := by
  rcases hp with hp | hp | ⟨_, _, x, s', he, hN⟩
  ·exact absurd hp.1 (by decide)
  ·exact absurd (FreeAll.nil [fD] (by simp) (by decide)) hp.2.1
  ·exact ⟨x, s', he, hN.m, Solo.new hN (by decide) (HM.out.2.trans ((Touch.refl [] w2).alloc _) (by simp)) (fun b hb => by
    have : b = w.heap.size := by simpa [Mem.MS.blocks, Mem.MS.new] using hb
    omega)⟩
 obtain ⟨x, s, rfl, hsm, hS⟩ := hp
 have HS := toHid (And.intro hS hsm)
 clear hS hsm H1 HM
 go_wp2_with fail
 have ht3 := ((Touch.refl [] w3).alloc (.cells #[.int .u8 7] 5)).trans ((Touch.refl [] _).alloc (.cells #[.int .u8 1, .int .u8 2] 5)) (S' := []) (by simp)
 have hS3 := HS.out.1.still ht3
 have hk7 := (KeyAt.new1 w3 7 (by decide)).touch ((Touch.refl [] _).alloc (.cells #[.int .u8 1, .int .u8 2] 5))
 have hxb : ∀ b off, (some ⟨w3.heap.size, 0, none⟩ : Option Addr) = some ⟨b, off, none⟩ → b ∉ x.blocks := fun b off e hx => by
  injection e with e
  injection e with e
  have := HS.out.1.p.tab.lt b hx
  omega
 have hxb2 : ∀ b off, (some ⟨w3.heap.size + 1, 0, none⟩ : Option Addr) = some ⟨b, off, none⟩ → b ∉ x.blocks := fun b off e hx => by
  injection e with e
  injection e with e
  have := HS.out.1.p.tab.lt b hx
  omega
 have hsz : (w3.alloc (.cells #[.int .u8 7] 5)).heap.size = w3.heap.size + 1 := World.size_alloc _ _
 have hv12 := KeyAt.new2 (w3.alloc (.cells #[.int .u8 7] 5)) 1 2 (by decide) (by decide)
 rw [hsz] at hv12
 have H1 := toHid (pupdate_any hS3.p 0 hk7 1 (by omega) (fun b off e _ => hxb b off e) hv12 2 (fun b off e _ => hxb2 b off e) 0 (by omega))
 rw [show updP x 0 [7] [1, 2] 0 = (0, [fQ], some (plI 0 0)) from (upd_eqs HS.out.1.ds HS.out.1.qs (k := 0) (d := fD) (q := newQ fD) rfl rfl rfl rfl).trans rfl] at H1
 have HS3 := toHid hS3
 clear ht3 hS3 hk7 hxb hxb2 hsz hv12
 refine Calls.mono H1.out ?_
 rintro e w4 ⟨rfl, x1, st⟩
 replace st : PUSt _ w4 x x1 s [fQ] (Mem.writeRs s.rs (plI 0 0) [1, 2]) := st
 obtain ⟨he, hg⟩ := HS3.out.writes (k := 0) (d := fD) rfl (sl := 0) (by decide) (vs := [1, 2]) rfl
 rw [show updE s.rs [1, 2] (0, [fQ], some (plI 0 0)) = 0 from he]
 have HS4 := toHid (HS3.out.upd st hg)
 have HV := toHid (HS3.out.write st.both.mem (k := 0) (d := fD) rfl (sl := 0) (by decide) (vs := [1, 2]) rfl rfl).1
 have HE : Hid (x1.t = x.t) := st.t
 clear st he hg H1
 dsimp only at HV
 generalize Mem.writeRs s.rs (plI 0 0) [1, 2] = rs1 at *
 go_wp2_with fail
 have ht4 := (Touch.refl [] w4).alloc (.cells #[.int .u8 7] 5)
 have hS4 := HS4.out.still ht4
 have H1 := toHid (plookup_any hS4.p.tab 0 (KeyAt.new1 w4 7 (by decide)) 1 (by omega))
 rw [show lookP x1 0 [7] = ((137438953472, 0), [(fQ.findA [7]).2]) from (look_eqs hS4.ds hS4.qs (k := 0) (d := fD) (q := fQ) rfl rfl rfl).trans rfl, HE.out] at H1
 have HS5 := toHid hS4
 clear ht4 hS4 HS4 HS3
 refine Calls.mono H1.out ?_
 rintro e w5 ⟨rfl, x2, st⟩
 have HS6 := toHid (HS5.out.step st)
 clear st H1 HS5
 have H1 := toHid (Mem.load_any HS6.out.p.mem 137438953472 2 (by omega) (by omega))
 have hl := load_read (n := 2) (by omega) (by decide) (HS6.out.read (k := 0) (d := fD) rfl (sl := 0) (by decide)).1
 rw [show Mem.loadE rs1 137438953472 2 = 0 from hl.1, show Mem.loadV rs1 137438953472 2 = 513 from hl.2.trans (by show Mem.num (fun j => (Mem.readV rs1 (plI ((0 : Nat) : Int) ((0 : Nat) : Int)) 2).getD j 0) 2 = 513; rw [show Mem.readV rs1 (plI ((0 : Nat) : Int) ((0 : Nat) : Int)) 2 = [1, 2] from HV.out]; rfl)] at H1
 rw [show ({ s with rs := rs1 } : Mem.MS).m = w.heap.size from HS.out.2] at H1
 clear hl
 go_wp2_with fail
 refine Calls.mono H1.out ?_
 rintro e w6 ⟨rfl, k, rfl⟩
 have HT := toHid (HS6.out.touch.trans ((Touch.refl [] w5).drewN k) (by simp))
 clear H1 HS6
 go_wp2
 go_ret
 exact ⟨rfl, HT.out⟩
end Go.Proofs.YtmhhahmjkopjhaaGreat
end
section
namespace Go.Proofs.YtmhhahmjkopjhaaGreat
open Go.RowKit
def Zeros (ds : List MDef) (rs : List Mem.Reg) : Prop := ∀ (k : Nat) (d : MDef), ds[k]? = some d → ∀ sl : Nat, (sl : Int) < d.max → Mem.readV rs (plI k sl) d.val = List.replicate d.val.toNat 0
theorem new_zero {w w' : World} {x : PT} {s s' : Mem.MS} {ds : List MDef} (h : PNewAt w w' x s s' ds) (hv : ∀ d ∈ ds, 1 ≤ d.val) : Zeros ds s'.rs := fun k d hd sl hs => by
 have hk := (List.getElem?_eq_some_iff.1 hd).1
 obtain ⟨r, hr, id, _, hn⟩ := h.adds.facts.2.2.2.1 _ (plcs_of hk hd hs)
 have h1 := hv d (List.mem_of_getElem? hd)
 have h2 := (MemAt.read_at h.both.mem hr hn.hperm).2
 have hl : (r.bytes.length : Int) = d.val := by
  rw [hn.hbytes]
  simp
  omega
 rw [hl, hn.hbase, hn.hbytes] at h2
 exact h2
def NewR (w0 w' : World) (ds : List MDef) (o : Option Addr) (e1 : Int) : Prop :=
 Touch [] w0 w' ∧ ((mayI ds = false ∧ o = none ∧ e1 = 2) ∨ (mayI ds = true ∧ ∃ x s, o = some ⟨x.t, 0, none⟩ ∧ e1 = 0 ∧ Solo w0 w' x s ds (ds.map newQ) ∧ Zeros ds s.rs))
theorem may_facts' {ds : List MDef} (h : mayI ds = true) : ds.length ≤ 8 ∧ ∀ d ∈ ds, 1 ≤ d.max ∧ d.max ≤ 64 ∧ 1 ≤ d.val := by
 unfold mayI at h
 rw [decide_eq_true_iff] at h
 exact ⟨h.1, fun d hd => by have h9 := h.2 d hd; exact ⟨h9.2.2.2.2.1, h9.2.2.2.2.2.1, h9.2.2.1⟩⟩
theorem new_fresh {w0 w : World} {M : Nat} (h : Mem.MemAt w (Mem.MS.new M)) (hM : w0.heap.size ≤ M) (ht : Touch [] w0 w) {sa : Option Addr} {n sc : Nat} {ds : List MDef} (hd : DefsAt w sa n ds) :
  Calls Tryz.prog 21 #[.pointer (some ⟨M, 0, none⟩), .slice sa n sc] w fun e w' => ∃ o e1, e = .returned (.tuple #[.pointer o, .int .i64 e1]) ∧ NewR w0 w' ds o e1 := by
 refine (pnew_any (s := Mem.MS.new M) h (by show 0 ≤ 1000000; omega) (sc := sc) hd).mono ?_
 intro e w' hp
 rcases hp with ⟨h1, rfl, h2⟩ | ⟨h1, h2, _⟩ | ⟨h1, _, x, s', rfl, hN⟩
 ·exact ⟨none, 2, rfl, ht.trans h2 (by simp), Or.inl ⟨h1, rfl, rfl⟩⟩
 ·obtain ⟨h3, h4⟩ := may_facts' h1
  exact absurd (FreeAll.nil ds h3 (fun d hd => by have := h4 d hd; omega)) h2
 ·have hS := Solo.new hN (fun d hd => ((may_facts' h1).2 d hd).2.2) ht (fun b hb => by
   have : b = M := by simpa [Mem.MS.blocks, Mem.MS.new] using hb
   omega)
  exact ⟨_, 0, rfl, hS.touch, Or.inr ⟨h1, x, s', rfl, rfl, hS, new_zero hN (fun d hd => ((may_facts' h1).2 d hd).2.2)⟩⟩
theorem sep_new {w0 w1 w2 : World} {x x' : PT} {s s' : Mem.MS} {ds ds' : List MDef} {qs qs' : List PX} (h : Solo w0 w1 x s ds qs) (h' : Solo w1 w2 x' s' ds' qs') : Sep w0 w2 x s ds qs x' s' ds' qs' := by
 have hz := h.touch.size
 refine ⟨h.still h'.touch, ⟨h'.p, h'.regs, h'.ds, h'.qs, fun b hb => by have := h'.own b hb; omega, h.touch.trans h'.touch (by simp)⟩, fun y hy hx => ?_⟩
 have h1 := h'.own y hx
 rcases hy with hy | hy
 ·have := h.p.tab.lt y hy
  omega
 ·have := h.p.mem.lt y hy
  omega
theorem alike_new {w0 w1 w2 : World} {x x' : PT} {s s' : Mem.MS} {a b : MDef} (h : Solo w0 w1 x s [a, b] ([a, b].map newQ)) (h' : Solo w1 w2 x' s' [b] ([b].map newQ)) (hz : Zeros [a, b] s.rs) (hz' : Zeros [b] s'.rs) :
  Alike w0 w2 x s [newQ a, newQ b] x' s' [newQ b] a b :=
 ⟨sep_new h h', ⟨newQ a, newQ b, rfl, rfl⟩, fun sl hs => (hz 1 b rfl sl hs).trans (hz' 0 b rfl sl hs).symm⟩
end Go.Proofs.YtmhhahmjkopjhaaGreat
end
section
namespace Go.Proofs.YtmhhahmjkopjhaaGreat
open Go.RowKit
structure OpT where
 k : Int
 mp : Int
 ka : Option Addr
 kl : Nat
 kc : Nat
 kb : List Int
 va : Option Addr
 vl : Nat
 vc : Nat
 vb : List Int
 fl : Int
structure OpT.Ok (w : World) (o : OpT) : Prop where
 k0 : -9223372036854775808 ≤ o.k
 k1 : o.k ≤ 9223372036854775807
 m0 : -9223372036854775808 ≤ o.mp
 m1 : o.mp ≤ 9223372036854775807
 f0 : 0 ≤ o.fl
 f1 : o.fl ≤ 18446744073709551615
 key : KeyAt w o.ka o.kl o.kb
 val : KeyAt w o.va o.vl o.vb
 kcap : o.kl ≤ o.kc
 vcap : o.vl ≤ o.vc
def OpT.cells (o : OpT) : List Value := [.int .i64 o.k, .int .i64 o.mp, .slice o.ka o.kl o.kc, .slice o.va o.vl o.vc, .int .u64 o.fl]
def opT (o : OpT) : Value := .agg #[.int .i64 o.k, .int .i64 o.mp, .slice o.ka o.kl o.kc, .slice o.va o.vl o.vc, .int .u64 o.fl]
theorem KeyAt.old {w : World} {sa : Option Addr} {sl : Nat} {bs : List Int} (h : KeyAt w sa sl bs) {b off : Nat} (e : sa = some ⟨b, off, none⟩) (h1 : 1 ≤ bs.length) : b < w.heap.size := by
 obtain ⟨b', off', e', hc⟩ := h.2.2.2 h1
 rw [e] at e'
 injection e' with e'
 injection e' with e1
 have e1 : b = b' := e1
 rw [e1]
 exact World.block_lt_of_cell? _ _ (hc 0 (by omega))
end Go.Proofs.YtmhhahmjkopjhaaGreat
end
section
namespace Go.Proofs.YtmhhahmjkopjhaaGreat
open Go.ChangeShapes Go.WideShapes Go.ChangeAt Go.RowKit
theorem laidOut : laidOutB Tryz.prog = true := by kernel_rfl
theorem cellsOp : Tryz.prog.cellsOf 41 = 5 := by kernel_rfl
theorem cellsDef : Tryz.prog.cellsOf 36 = 4 := by kernel_rfl
theorem cellTypesOp : Tryz.prog.cellTypes Tryz.prog.depth 41 = some [3, 3, 39, 39, 23] := by kernel_rfl
theorem cellTypesDef : Tryz.prog.cellTypes Tryz.prog.depth 36 = some [34, 3, 3, 3] := by kernel_rfl
theorem cell_int {P : Program} {w : World} {r : Reach} {base : Nat} {t : TypeId} {v : Value} {k : IntKind} (ht : P.underlying t = some (.int k)) (h : Cell.okWide P w r base t v) : ∃ n, v = .int k n ∧ k.has n := by
 simp only [Cell.okWide, ht] at h
 cases v <;> simp_all [Cell.ok]
theorem cell_slice {P : Program} {w : World} {r : Reach} {base : Nat} {t e : TypeId} {v : Value} (ht : P.underlying t = some (.slice e)) (h : Cell.okWide P w r base t v) : ∃ a len cap, v = .slice a len cap := by
 simp only [Cell.okWide, ht] at h
 cases v <;> simp_all [Cell.ok]
theorem int_open {P : Program} {w : World} {r : Reach} {base : Nat} {t : TypeId} {v : Value} {k : IntKind} (ht : P.underlying t = some (.int k)) (h : Value.okWide P w r base t v) : ∃ n, v = .int k n ∧ k.has n := by
 simp only [Value.okWide, ht] at h
 exact cell_int ht h
theorem slice_open {P : Program} {w : World} {r : Reach} {base : Nat} {t e : TypeId} {v : Value} (ht : P.underlying t = some (.slice e)) (h : Value.okWide P w r base t v) : ∃ a len cap, v = .slice a len cap := by
 simp only [Value.okWide, ht] at h
 exact cell_slice ht h
theorem has_i64 {n : Int} (h : IntKind.i64.has n) : -9223372036854775808 ≤ n ∧ n ≤ 9223372036854775807 := by
 simp [IntKind.has, IntKind.min, IntKind.max, IntKind.signed, IntKind.bits] at h
 omega
theorem has_u64 {n : Int} (h : IntKind.u64.has n) : 0 ≤ n ∧ n ≤ 18446744073709551615 := by
 simp [IntKind.has, IntKind.min, IntKind.max, IntKind.signed, IntKind.bits] at h
 omega
theorem val_i64 {W : World} {base : Nat} {v : Value} (h : Value.okWide Tryz.prog W .any base 3 v) : ∃ n, v = .int .i64 n ∧ -9223372036854775808 ≤ n ∧ n ≤ 9223372036854775807 := by
 obtain ⟨n, rfl, hn⟩ := int_open Tryz.underlying3 h
 exact ⟨n, rfl, has_i64 hn⟩
theorem val_u64 {W : World} {base : Nat} {v : Value} (h : Value.okWide Tryz.prog W .any base 23 v) : ∃ n, v = .int .u64 n ∧ 0 ≤ n ∧ n ≤ 18446744073709551615 := by
 obtain ⟨n, rfl, hn⟩ := int_open Tryz.underlying23 h
 exact ⟨n, rfl, has_u64 hn⟩
theorem wf_u64 {n : Int} (h : (Lit.int .u64 n).wf = true) : 0 ≤ n ∧ n ≤ 18446744073709551615 := by
 simp [Lit.wf, IntKind.min, IntKind.max, IntKind.signed, IntKind.bits] at h
 omega
theorem wf_i64 {n : Int} (h : (Lit.int .i64 n).wf = true) : -9223372036854775808 ≤ n ∧ n ≤ 9223372036854775807 := by
 simp [Lit.wf, IntKind.min, IntKind.max, IntKind.signed, IntKind.bits] at h
 omega
theorem wf_u8 {n : Int} (h : (Lit.int .u8 n).wf = true) : 0 ≤ n ∧ n ≤ 255 := by
 simp [Lit.wf, IntKind.min, IntKind.max, IntKind.signed, IntKind.bits] at h
 omega
theorem five {cs : Array Value} (h : cs.size = 5) : ∃ c0 c1 c2 c3 c4, cs = #[c0, c1, c2, c3, c4] := by
 obtain ⟨l⟩ := cs
 match l, h with
 | [c0, c1, c2, c3, c4], _ => exact ⟨c0, c1, c2, c3, c4, rfl⟩
theorem four {cs : Array Value} (h : cs.size = 4) : ∃ c0 c1 c2 c3, cs = #[c0, c1, c2, c3] := by
 obtain ⟨l⟩ := cs
 match l, h with
 | [c0, c1, c2, c3], _ => exact ⟨c0, c1, c2, c3, rfl⟩
theorem op_cells {P : Program} {w : World} {r : Reach} {base : Nat} {t3 tb tu e : TypeId} (u3 : P.underlying t3 = some (.int .i64)) (uu : P.underlying tu = some (.int .u64)) (ub : P.underlying tb = some (.slice e))
  {c0 c1 c2 c3 c4 : Value} (hc : ∀ (i : Nat) v, (#[c0, c1, c2, c3, c4] : Array Value)[i]? = some v → ∃ u, ([t3, t3, tb, tb, tu] : List TypeId)[i % 5]? = some u ∧ Cell.okWide P w r base u v) : ∃ o : OpT, (.agg #[c0, c1, c2, c3, c4]) = opT o := by
 obtain ⟨x0, hu0, h0⟩ := hc 0 c0 rfl
 obtain ⟨x1, hu1, h1⟩ := hc 1 c1 rfl
 obtain ⟨x2, hu2, h2⟩ := hc 2 c2 rfl
 obtain ⟨x3, hu3, h3⟩ := hc 3 c3 rfl
 obtain ⟨x4, hu4, h4⟩ := hc 4 c4 rfl
 simp at hu0 hu1 hu2 hu3 hu4
 subst hu0 hu1 hu2 hu3 hu4
 obtain ⟨k0, rfl, _⟩ := cell_int u3 h0
 obtain ⟨m0, rfl, _⟩ := cell_int u3 h1
 obtain ⟨ka, kl, kc, rfl⟩ := cell_slice ub h2
 obtain ⟨va, vl, vc, rfl⟩ := cell_slice ub h3
 obtain ⟨f0, rfl, _⟩ := cell_int uu h4
 exact ⟨⟨k0, m0, ka, kl, kc, [], va, vl, vc, [], f0⟩, rfl⟩
theorem op_open {W : World} {base : Nat} {v : Value} (h : Value.okWide Tryz.prog W .any base 41 v) : ∃ o : OpT, v = opT o := by
 simp only [Value.okWide, Tryz.underlying41] at h
 obtain ⟨cs, rfl, hsz, ts, hts, _, hc⟩ := h
 rw [cellTypesOp] at hts
 injection hts with hts
 subst hts
 rw [cellsOp] at hsz
 obtain ⟨c0, c1, c2, c3, c4, rfl⟩ := five hsz
 exact op_cells Tryz.underlying3 Tryz.underlying23 Tryz.underlying39 hc
theorem def_cells {P : Program} {w : World} {r : Reach} {base : Nat} {tk t3 : TypeId} (uk : P.underlying tk = some (.int .i64)) (u3 : P.underlying t3 = some (.int .i64))
  {c0 c1 c2 c3 : Value} (hc : ∀ (i : Nat) v, (#[c0, c1, c2, c3] : Array Value)[i]? = some v → ∃ u, ([tk, t3, t3, t3] : List TypeId)[i % 4]? = some u ∧ Cell.okWide P w r base u v) : ∃ d : MDef, (.agg #[c0, c1, c2, c3]) = Value.agg d.cells.toArray := by
 obtain ⟨x0, hu0, h0⟩ := hc 0 c0 rfl
 obtain ⟨x1, hu1, h1⟩ := hc 1 c1 rfl
 obtain ⟨x2, hu2, h2⟩ := hc 2 c2 rfl
 obtain ⟨x3, hu3, h3⟩ := hc 3 c3 rfl
 simp at hu0 hu1 hu2 hu3
 subst hu0 hu1 hu2 hu3
 obtain ⟨a, rfl, _⟩ := cell_int uk h0
 obtain ⟨b, rfl, _⟩ := cell_int u3 h1
 obtain ⟨c, rfl, _⟩ := cell_int u3 h2
 obtain ⟨d, rfl, _⟩ := cell_int u3 h3
 exact ⟨⟨a, b, c, d⟩, rfl⟩
theorem def_open {W : World} {base : Nat} {v : Value} (h : Value.okWide Tryz.prog W .any base 36 v) : ∃ d : MDef, v = .agg d.cells.toArray := by
 simp only [Value.okWide, Tryz.underlying36] at h
 obtain ⟨cs, rfl, hsz, ts, hts, _, hc⟩ := h
 rw [cellTypesDef] at hts
 injection hts with hts
 subst hts
 rw [cellsDef] at hsz
 obtain ⟨c0, c1, c2, c3, rfl⟩ := four hsz
 exact def_cells Tryz.underlying34 Tryz.underlying3 hc
structure ScriptT (w : World) (sa : Option Addr) (n : Nat) (f : Nat → OpT) : Prop where
 small : n ≤ 9223372036854775807
 at_ : ∀ j, j < n → ∃ b off, sa = some ⟨b, off, none⟩ ∧ (f j).Ok w ∧ ∀ r v, (f j).cells[r]? = some v → w.cell? ⟨b, off + j * 5 + r, none⟩ = some v
theorem OpT.Ok.touch {w w' : World} {o : OpT} (h : o.Ok w) (ht : Touch [] w w') : o.Ok w' := ⟨h.k0, h.k1, h.m0, h.m1, h.f0, h.f1, h.key.touch ht, h.val.touch ht, h.kcap, h.vcap⟩
theorem ScriptT.touch {w w' : World} {sa : Option Addr} {n : Nat} {f : Nat → OpT} (h : ScriptT w sa n f) (ht : Touch [] w w') : ScriptT w' sa n f :=
 ⟨h.small, fun j hj => by
  obtain ⟨b, off, h1, h2, h3⟩ := h.at_ j hj
  exact ⟨b, off, h1, h2.touch ht, fun r v hv => ht.cell (h3 r v hv) (by simp)⟩⟩
section
variable {H : Type} {enc : TypeId × Value → H} {W : World}
theorem key_in {m : Nat} {v : Value} {x : DataW H × List MemPlace} (h : DataW.trod enc Tryz.prog W 0 (fun _ => true) true m 39 [v] = some x) : ∃ sa sl sc bs, v = .slice sa sl sc ∧ KeyAt W sa sl bs ∧ sl ≤ sc := by
 rcases open_ints Tryz.underlying39 Tryz.underlying5 (by kernel_rfl) h with ⟨hcs, _⟩ | ⟨a, l, c, zs, hcs, _, hl, hm, hz, _, hcell, hwz⟩
 ·simp at hcs
  exact ⟨none, 0, 0, [], hcs, ⟨rfl, by simp, by simp, by simp⟩, Nat.le_refl _⟩
 ·simp at hcs
  have hz' : zs.length = c := by simpa using hz
  unfold maxLen at hm
  have hlen : (zs.take l).length = l := by simp; omega
  refine ⟨some a, l, c, zs.take l, hcs, ⟨hlen.symm, fun y hy => wf_u8 (hwz y (List.mem_of_mem_take hy)), by omega, fun hp => ?_⟩, hl⟩
  obtain ⟨b, off, spot⟩ := a
  have hc := hcell 0 (by omega)
  have hspot : spot = none := by simpa [Addr.add] using World.cell?_spot hc
  subst hspot
  refine ⟨b, off, rfl, fun j hj => ?_⟩
  have hjl : j < l := by omega
  have hj' := hcell j (by omega)
  rw [Addr.add_lit] at hj'
  rw [hj', List.getD_eq_getElem?_getD, List.getD_eq_getElem?_getD, List.getElem?_take, if_pos hjl]
theorem op_at {m : Nat} {cs : List Value} {x : DataW H × List MemPlace} (h : DataW.trod enc Tryz.prog W 0 (fun _ => true) true m 41 cs = some x) : ∃ o : OpT, o.Ok W ∧ cs = o.cells := by
 obtain ⟨xs, k, _, _, hl, hxl, hf⟩ := DataW.trod_struct Tryz.underlying41 h
 rw [cellsOp] at hl
 match cs, hl with
 | [u0, u1, u2, u3, u4], _ =>
  have g0 : DataW.trod enc Tryz.prog W 0 (fun _ => true) true k 3 (List.take (Tryz.prog.cellsOf 3) (List.drop 0 [u0, u1, u2, u3, u4])) = xs[0]? := hf 0 _ rfl
  have g1 : DataW.trod enc Tryz.prog W 0 (fun _ => true) true k 3 (List.take (Tryz.prog.cellsOf 3) (List.drop 1 [u0, u1, u2, u3, u4])) = xs[1]? := hf 1 _ rfl
  have g2 : DataW.trod enc Tryz.prog W 0 (fun _ => true) true k 39 (List.take (Tryz.prog.cellsOf 39) (List.drop 2 [u0, u1, u2, u3, u4])) = xs[2]? := hf 2 _ rfl
  have g3 : DataW.trod enc Tryz.prog W 0 (fun _ => true) true k 39 (List.take (Tryz.prog.cellsOf 39) (List.drop 3 [u0, u1, u2, u3, u4])) = xs[3]? := hf 3 _ rfl
  have g4 : DataW.trod enc Tryz.prog W 0 (fun _ => true) true k 23 (List.take (Tryz.prog.cellsOf 23) (List.drop 4 [u0, u1, u2, u3, u4])) = xs[4]? := hf 4 _ rfl
  have k3 : Tryz.prog.cellsOf 3 = 1 := by kernel_rfl
  have kb : Tryz.prog.cellsOf 39 = 1 := by kernel_rfl
  have ku : Tryz.prog.cellsOf 23 = 1 := by kernel_rfl
  simp only [k3, kb, ku, List.drop_succ_cons, List.drop_zero, List.take_succ_cons, List.take_zero] at g0 g1 g2 g3 g4
  match xs, hxl with
  | [x0, x1, x2, x3, x4], _ =>
   obtain ⟨n0, e0, _, w0⟩ := DataW.trod_int Tryz.underlying3 (show _ = some x0 from g0)
   obtain ⟨n1, e1, _, w1⟩ := DataW.trod_int Tryz.underlying3 (show _ = some x1 from g1)
   obtain ⟨ka, kl, kc, kb, e2, hk, hkc⟩ := key_in (show _ = some x2 from g2)
   obtain ⟨va, vl, vc, vb, e3, hv, hvc⟩ := key_in (show _ = some x3 from g3)
   obtain ⟨n4, e4, _, w4⟩ := DataW.trod_int Tryz.underlying23 (show _ = some x4 from g4)
   simp at e0 e1 e4
   subst e0 e1 e2 e3 e4
   exact ⟨⟨n0, n1, ka, kl, kc, kb, va, vl, vc, vb, n4⟩, ⟨(wf_i64 w0).1, (wf_i64 w0).2, (wf_i64 w1).1, (wf_i64 w1).2, (wf_u64 w4).1, (wf_u64 w4).2, hk, hv, hkc, hvc⟩, rfl⟩
def OpT.zero : OpT := ⟨0, 0, none, 0, 0, [], none, 0, 0, [], 0⟩
theorem choose_op {Q : Nat → OpT → Prop} {m : Nat} (h : ∀ j, j < m → ∃ i, Q j i) : ∃ f : Nat → OpT, ∀ j, j < m → Q j (f j) := by
 refine ⟨fun j => if hj : j < m then Classical.choose (h j hj) else OpT.zero, fun j hj => ?_⟩
 simp only [hj, dif_pos]
 exact Classical.choose_spec (h j hj)
theorem script_in {sa : Option Addr} {n c : Nat} {d : DataW H} {p : List MemPlace} (h : DataW.Trod enc Tryz.prog W 0 (fun _ => true) true 24 (.slice sa n c) d p) : (∃ f, ScriptT W sa n f) ∧ n ≤ c := by
 obtain ⟨fuel, hf⟩ := h
 rcases Deep.open_slice Tryz.underlying24 hf with ⟨hcs, _⟩ | ⟨x, l, c', m, k, D, Pl, hcs, _, hl, hm, hmm, _, hx⟩
 ·simp [Value.cells] at hcs
  obtain ⟨rfl, rfl, rfl⟩ := hcs
  exact ⟨⟨fun _ => OpT.zero, by omega, fun j hj => by omega⟩, by omega⟩
 ·simp [Value.cells] at hcs
  obtain ⟨rfl, rfl, rfl⟩ := hcs
  simp only [if_true] at hmm
  subst hmm
  unfold maxLen at hm
  refine ⟨?_, by omega⟩
  by_cases h0 : n = 0
  ·exact ⟨fun _ => OpT.zero, by omega, fun j hj => by omega⟩
  ·rw [cellsOp] at hx
   have hx' : ∀ j, j < n → ∃ o : OpT, o.Ok W ∧ ∀ r v, o.cells[r]? = some v → W.cell? ((x.add (j * 5)).add r) = some v := by
    intro j hj
    obtain ⟨cs', h1, h2⟩ := hx j (by omega)
    obtain ⟨o, ok, rfl⟩ := op_at h2
    obtain ⟨_, hlen, hcell⟩ := World.cells?_some h1
    refine ⟨o, ok, fun r v hv => ?_⟩
    have hr : r < 5 := by have := (List.getElem?_eq_some_iff.1 hv).1; simpa [OpT.cells] using this
    rw [hcell r hr]
    exact hv
   obtain ⟨f, hf⟩ := choose_op hx'
   obtain ⟨b, off, spot⟩ := x
   have hc := (hf 0 (by omega)).2 0 _ rfl
   have hspot : spot = none := by simpa [Addr.add] using World.cell?_spot hc
   subst hspot
   refine ⟨f, by omega, fun j hj => ⟨b, off, rfl, (hf j hj).1, fun r v hv => ?_⟩⟩
   have := (hf j hj).2 r v hv
   rw [Addr.add_lit, Addr.add_lit] at this
   exact this
theorem def_at {m : Nat} {cs : List Value} {x : DataW H × List MemPlace} (h : DataW.trod enc Tryz.prog W 0 (fun _ => true) true m 36 cs = some x) : ∃ d : MDef, cs = d.cells := by
 obtain ⟨xs, k, _, _, hl, hxl, hf⟩ := DataW.trod_struct Tryz.underlying36 h
 rw [cellsDef] at hl
 match cs, hl with
 | [u0, u1, u2, u3], _ =>
  have g0 : DataW.trod enc Tryz.prog W 0 (fun _ => true) true k 34 (List.take (Tryz.prog.cellsOf 34) (List.drop 0 [u0, u1, u2, u3])) = xs[0]? := hf 0 _ rfl
  have g1 : DataW.trod enc Tryz.prog W 0 (fun _ => true) true k 3 (List.take (Tryz.prog.cellsOf 3) (List.drop 1 [u0, u1, u2, u3])) = xs[1]? := hf 1 _ rfl
  have g2 : DataW.trod enc Tryz.prog W 0 (fun _ => true) true k 3 (List.take (Tryz.prog.cellsOf 3) (List.drop 2 [u0, u1, u2, u3])) = xs[2]? := hf 2 _ rfl
  have g3 : DataW.trod enc Tryz.prog W 0 (fun _ => true) true k 3 (List.take (Tryz.prog.cellsOf 3) (List.drop 3 [u0, u1, u2, u3])) = xs[3]? := hf 3 _ rfl
  have k3 : Tryz.prog.cellsOf 3 = 1 := by kernel_rfl
  have kk : Tryz.prog.cellsOf 34 = 1 := by kernel_rfl
  simp only [k3, kk, List.drop_succ_cons, List.drop_zero, List.take_succ_cons, List.take_zero] at g0 g1 g2 g3
  match xs, hxl with
  | [x0, x1, x2, x3], _ =>
   obtain ⟨n0, e0, _, w0⟩ := DataW.trod_int Tryz.underlying34 (show _ = some x0 from g0)
   obtain ⟨n1, e1, _, w1⟩ := DataW.trod_int Tryz.underlying3 (show _ = some x1 from g1)
   obtain ⟨n2, e2, _, w2⟩ := DataW.trod_int Tryz.underlying3 (show _ = some x2 from g2)
   obtain ⟨n3, e3, _, w3⟩ := DataW.trod_int Tryz.underlying3 (show _ = some x3 from g3)
   simp at e0 e1 e2 e3
   subst e0 e1 e2 e3
   exact ⟨⟨n0, n1, n2, n3⟩, rfl⟩
theorem choose_defs {Q : Nat → MDef → Prop} : ∀ {m : Nat}, (∀ j, j < m → ∃ i, Q j i) → ∃ ds : List MDef, ds.length = m ∧ ∀ j d, ds[j]? = some d → Q j d
 | 0, _ => ⟨[], rfl, fun j d h => by simp at h⟩
 | m + 1, h => by
  obtain ⟨ds, h1, h2⟩ := choose_defs (m := m) (fun j hj => h j (by omega))
  obtain ⟨d, hd⟩ := h m (by omega)
  refine ⟨ds ++ [d], by simp [h1], fun j d' hj => ?_⟩
  by_cases hjm : j < ds.length
  ·rw [List.getElem?_append_left hjm] at hj
   exact h2 j d' hj
  ·have hlt := (List.getElem?_eq_some_iff.1 hj).1
   simp at hlt
   have : j = ds.length := by omega
   subst this
   simp at hj
   subst hj
   rw [h1]
   exact hd
theorem defs_in {sa : Option Addr} {n c : Nat} {d : DataW H} {p : List MemPlace} (h : DataW.Trod enc Tryz.prog W 0 (fun _ => true) true 22 (.slice sa n c) d p) : ∃ ds, DefsAt W sa n ds := by
 obtain ⟨fuel, hf⟩ := h
 rcases Deep.open_slice Tryz.underlying22 hf with ⟨hcs, _⟩ | ⟨x, l, c', m, k, D, Pl, hcs, _, hl, hm, hmm, _, hx⟩
 ·simp [Value.cells] at hcs
  obtain ⟨rfl, rfl, rfl⟩ := hcs
  exact ⟨[], rfl, by omega, by omega⟩
 ·simp [Value.cells] at hcs
  obtain ⟨rfl, rfl, rfl⟩ := hcs
  simp only [if_true] at hmm
  subst hmm
  unfold maxLen at hm
  rw [cellsDef] at hx
  have hx' : ∀ j, j < n → ∃ d : MDef, ∀ r v, d.cells[r]? = some v → W.cell? ((x.add (j * 4)).add r) = some v := by
   intro j hj
   obtain ⟨cs', h1, h2⟩ := hx j (by omega)
   obtain ⟨d, rfl⟩ := def_at h2
   obtain ⟨_, hlen, hcell⟩ := World.cells?_some h1
   refine ⟨d, fun r v hv => ?_⟩
   have hr : r < 4 := by have := (List.getElem?_eq_some_iff.1 hv).1; simpa [MDef.cells] using this
   rw [hcell r hr]
   exact hv
  obtain ⟨ds, hl2, hf⟩ := choose_defs hx'
  refine ⟨ds, hl2.symm, by omega, fun hn => ?_⟩
  obtain ⟨b, off, spot⟩ := x
  have hc := hf 0 ds[0] (List.getElem?_eq_getElem (by omega)) 0 _ rfl
  have hspot : spot = none := by simpa [Addr.add] using World.cell?_spot hc
  subst hspot
  refine ⟨b, off, rfl, fun i d hd j v hv => ?_⟩
  have := hf i d hd j v hv
  rw [Addr.add_lit, Addr.add_lit] at this
  exact this
end
end Go.Proofs.YtmhhahmjkopjhaaGreat
end
section
namespace Go.Proofs.YtmhhahmjkopjhaaGreat
open Go.RowKit
theorem Solo.updEq {w0 w : World} {x : PT} {s : Mem.MS} {ds : List MDef} {qs : List PX} (h : Solo w0 w x s ds qs) {k : Nat} {d : MDef} {q : PX} (hd : ds[k]? = some d) (hq : qs[k]? = some q) (bs vs : List Int) (fl : Int) :
  updE s.rs vs (updP x k bs vs fl) = (updA d q bs vs fl).1 := by
 have hu := upd_at h.ds h.qs hd hq bs vs fl
 obtain ⟨hg, hmax, h64⟩ := h.map hd hq
 rw [hu]
 cases hz : (updA d q bs vs fl).2.2 with
 | none => rfl
 | some z =>
  obtain ⟨sl0, rfl, hsl, hv⟩ := upd_slot hg hz
  obtain ⟨w1, w2'⟩ := h.writes hd (sl := sl0) (by omega) hv
  rw [upd_zero hz]
  exact w1
theorem Alike.updEq {w0 w : World} {x x' : PT} {s s' : Mem.MS} {qs qs' : List PX} {a b : MDef} (h : Alike w0 w x s qs x' s' qs' a b) (bs vs : List Int) (fl : Int) :
  updE s.rs vs (updP x 1 bs vs fl) = updE s'.rs vs (updP x' 0 bs vs fl) := by
 obtain ⟨q0, q, hq, hq'⟩ := h.q
 subst hq
 subst hq'
 show updE s.rs vs (updP x ((1 : Nat) : Int) bs vs fl) = updE s'.rs vs (updP x' ((0 : Nat) : Int) bs vs fl)
 rw [h.sep.t.updEq (k := 1) (d := b) (q := q) rfl rfl, h.sep.u.updEq (k := 0) (d := b) (q := q) rfl rfl]
structure Held (B : Nat) (cs : List Value) (t : TypeId) (w : World) (x : PT) (s : Mem.MS) (x' : PT) (s' : Mem.MS) : Prop where
 blk : Blk w B cs t
 out : B ∉ x.blocks ++ s.blocks
 out' : B ∉ x'.blocks ++ s'.blocks
theorem Held.new {w0 w : World} {x x' : PT} {s s' : Mem.MS} {qs qs' : List PX} {a b : MDef} (h : Alike w0 w x s qs x' s' qs' a b) (cs : List Value) (t : TypeId) : Held w.heap.size cs t (w.alloc (.cells cs.toArray t)) x s x' s' := by
 refine ⟨Blk.newA w cs.toArray _ t rfl, fun hx => ?_, fun hx => ?_⟩
 ·rcases List.mem_append.1 hx with hx | hx
  ·have := h.sep.t.p.tab.lt _ hx; omega
  ·have := h.sep.t.p.mem.lt _ hx; omega
 ·rcases List.mem_append.1 hx with hx | hx
  ·have := h.sep.u.p.tab.lt _ hx; omega
  ·have := h.sep.u.p.mem.lt _ hx; omega
theorem Held.still {B : Nat} {cs : List Value} {t : TypeId} {w w' : World} {x x' : PT} {s s' : Mem.MS} (h : Held B cs t w x s x' s') (ht : Touch [] w w') : Held B cs t w' x s x' s' := ⟨ht.blk h.blk (by simp), h.out, h.out'⟩
theorem Held.upd {B : Nat} {cs : List Value} {t : TypeId} {w w2 : World} {x x1 x' : PT} {s s' : Mem.MS} {qs : List PX} {rs : List Mem.Reg} (h : Held B cs t w x s x' s') (st : PUSt w w2 x x1 s qs rs) : Held B cs t w2 x1 { s with rs := rs } x' s' := by
 have hl := h.blk.lt
 refine ⟨st.touch.blk h.blk h.out, fun hx => ?_, h.out'⟩
 rcases List.mem_append.1 hx with hx | hx
 ·rcases st.blocks _ hx with h1 | h1
  ·exact h.out (List.mem_append_left _ h1)
  ·omega
 ·rw [st.sblk] at hx
  exact h.out (List.mem_append_right _ hx)
theorem Held.step {B : Nat} {cs : List Value} {t : TypeId} {w w2 : World} {x x1 x' : PT} {s s' : Mem.MS} {qs : List PX} (h : Held B cs t w x s x' s') (st : PStep w w2 x x1 qs) : Held B cs t w2 x1 s x' s' := by
 have hl := h.blk.lt
 refine ⟨st.touch.blk h.blk (fun hx => h.out (List.mem_append_left _ hx)), fun hx => ?_, h.out'⟩
 rcases List.mem_append.1 hx with hx | hx
 ·rcases st.blocks _ hx with h1 | h1
  ·exact h.out (List.mem_append_left _ h1)
  ·omega
 ·exact h.out (List.mem_append_right _ hx)
theorem Alike.overU {w0 w w2 : World} {x x' x1 : PT} {s s' : Mem.MS} {qs qs' q1 : List PX} {rs : List Mem.Reg} {a b : MDef} (h : Alike w0 w x s qs x' s' qs' a b) (st : PUSt w w2 x x1 s q1 rs) : Solo w0 w2 x' s' [b] qs' :=
 h.sep.u.over st.touch (fun y hy hx => h.sep.apart y (List.mem_append.1 hx) hy) (fun y hy => h.sep.t.own y (List.mem_append.1 hy))
theorem Alike.overS {w0 w w2 : World} {x x' x1 : PT} {s s' : Mem.MS} {qs qs' q1 : List PX} {a b : MDef} (h : Alike w0 w x s qs x' s' qs' a b) (st : PStep w w2 x x1 q1) : Solo w0 w2 x' s' [b] qs' :=
 h.sep.u.over st.touch (fun y hy hx => h.sep.apart y (Or.inl hx) hy) (fun y hy => h.sep.t.own y (Or.inl hy))
theorem Solo.update {w0 w : World} {x : PT} {s : Mem.MS} {ds : List MDef} {qs : List PX} (h : Solo w0 w x s ds qs) (i : Int) (o : OpT) (ok : o.Ok w0) :
  Calls Tryz.prog 24 #[.pointer (some ⟨x.t, 0, none⟩), .int .i64 i, .slice o.ka o.kl o.kc, .slice o.va o.vl o.vc, .int .u64 o.fl] w (PUpdPost w x s o.vb (updP x i o.kb o.vb o.fl)) :=
 pupdate_any h.p i (ok.key.touch h.touch) o.kc ok.kcap (fun b off e h1 hx => by have := ok.key.old e h1; have := h.own b (Or.inl hx); omega) (ok.val.touch h.touch) o.vc (fun b off e h1 hx => by have := ok.val.old e h1; have := h.own b (Or.inl hx); omega) o.fl ok.f0
theorem Solo.delete {w0 w : World} {x : PT} {s : Mem.MS} {ds : List MDef} {qs : List PX} (h : Solo w0 w x s ds qs) (i : Int) (o : OpT) (ok : o.Ok w0) :
  Calls Tryz.prog 25 #[.pointer (some ⟨x.t, 0, none⟩), .int .i64 i, .slice o.ka o.kl o.kc] w (PDelPost w x (delP x i o.kb)) :=
 pdelete_any h.p.tab i (ok.key.touch h.touch) o.kc ok.kcap
theorem Solo.deleteV {w0 w : World} {x : PT} {s : Mem.MS} {ds : List MDef} {qs : List PX} (h : Solo w0 w x s ds qs) (i : Int) (o : OpT) (ok : o.Ok w0) :
  Calls Tryz.prog 25 #[.pointer (some ⟨x.t, 0, none⟩), .int .i64 i, .slice o.va o.vl o.vc] w (PDelPost w x (delP x i o.vb)) :=
 pdelete_any h.p.tab i (ok.val.touch h.touch) o.vc ok.vcap
theorem Solo.get {w0 w : World} {x : PT} {s : Mem.MS} {ds : List MDef} {qs : List PX} (h : Solo w0 w x s ds qs) (i : Int) (o : OpT) (ok : o.Ok w0) :
  Calls Tryz.prog 23 #[.pointer (some ⟨x.t, 0, none⟩), .int .i64 i, .slice o.ka o.kl o.kc] w (PGetPost w x (getP x s.rs i o.kb)) :=
 pget_any h.p i (ok.key.touch h.touch) o.kc ok.kcap
theorem Solo.many {w0 w : World} {x : PT} {s : Mem.MS} {ds : List MDef} {qs : List PX} (h : Solo w0 w x s ds qs) {k : Nat} {m : PMap} (hm : x.maps[k]? = some m) (rs : List Mem.Reg) : (m.dump k rs).length ≤ 1000 := by
 unfold PMap.dump heldP
 have h1 := List.length_filterMap_le (fun j => match m.q.slots.getD j none with
  | some b => some (b, Mem.readV rs (plI k j) m.d.val)
  | none => none) (List.range m.q.slots.length)
 rw [List.length_range] at h1
 have h2 := (h.p.tab.maps m (List.mem_of_getElem? hm)).good.m2
 exact Nat.le_trans h1 (by omega)
theorem Solo.got {w0 w : World} {x : PT} {s : Mem.MS} {ds : List MDef} {qs : List PX} (h : Solo w0 w x s ds qs) {k : Nat} {d : MDef} {q : PX} (hd : ds[k]? = some d) (hq : qs[k]? = some q) (bs : List Int) :
  (∀ y ∈ (getP x s.rs k bs).1.1, 0 ≤ y ∧ y ≤ 255) ∧ (getP x s.rs k bs).1.1.length ≤ 9223372036854775807 := by
 rw [get_at h.ds h.qs s.rs hd hq bs]
 dsimp only
 obtain ⟨_, hmax, _⟩ := h.map hd hq
 split
 ·split
  ·rename_i sl hl
   have hs := look_slot hl
   obtain ⟨r1, r2, r3⟩ := h.read hd (sl := sl) (by omega)
   obtain ⟨r, _, _, _, hrl⟩ := h.regs k d hd sl (by omega)
   refine ⟨r3, ?_⟩
   have := (h.p.mem.ok r (by assumption)).size2
   dsimp only
   omega
  ·exact ⟨by simp, by simp⟩
 ·exact ⟨by simp, by simp⟩
theorem SliceIs.keyAt {w : World} {sa : Option Addr} {sl sc : Nat} {bs : List Int} (h : Mem.SliceIs w (.slice sa sl sc) bs) (hb : ∀ y ∈ bs, 0 ≤ y ∧ y ≤ 255) (hl : bs.length ≤ 9223372036854775807) : KeyAt w sa sl bs := by
 rcases h with ⟨hn, hv⟩ | ⟨h1, N, hv, hBN⟩
 ·injection hv with q1 q2
  rw [hn, q1, q2]
  exact ⟨rfl, by simp, by simp, by simp⟩
 ·injection hv with q1 q2
  refine ⟨q2, hb, hl, fun _ => ⟨N, 0, q1, fun j hj => ?_⟩⟩
  rw [Nat.zero_add]
  refine hBN.cell ?_
  rw [List.getElem?_map, List.getElem?_eq_getElem hj, List.getD_eq_getElem?_getD, List.getElem?_eq_getElem hj]
  rfl
theorem SliceIs.form {w : World} {v : Value} {bs : List Int} (h : Mem.SliceIs w v bs) : ∃ sa sl sc, v = .slice sa sl sc := by
 rcases h with ⟨_, rfl⟩ | ⟨_, N, rfl, _⟩ <;> exact ⟨_, _, _, rfl⟩
theorem SliceIs.over {S : List Nat} {w w' : World} {v : Value} {bs : List Int} (h : Mem.SliceIs w v bs) (ht : Touch S w w') (hS : ∀ b off l c, v = .slice (some ⟨b, off, none⟩) l c → b ∉ S) : Mem.SliceIs w' v bs := by
 rcases h with h | ⟨h1, N, rfl, hBN⟩
 ·exact Or.inl h
 ·exact Or.inr ⟨h1, N, rfl, ht.blk hBN (hS N 0 _ _ rfl)⟩
theorem Alike.ends {w0 w : World} {x x' : PT} {s s' : Mem.MS} {qs qs' : List PX} {a b : MDef} (h : Alike w0 w x s qs x' s' qs' a b) : ∃ ps : List (List Int × List Int), ps.length ≤ 1000 ∧
  Calls Tryz.prog 14 #[.pointer (some ⟨x.t, 0, none⟩), .int .i64 1] w (PDumpPost w ps) ∧
  ∀ w2, Touch [] w w2 → Calls Tryz.prog 14 #[.pointer (some ⟨x'.t, 0, none⟩), .int .i64 0] w2 (PDumpPost w2 ps) := by
 obtain ⟨m, m', hm, hm', he, h1, h2⟩ := h.dump
 exact ⟨_, h.sep.t.many hm s.rs, pdump_any h.sep.t.p hm h1, fun w2 ht => by
  rw [he]
  exact pdump_any (h.still ht).sep.u.p hm' h2⟩
theorem Alike.gets {w0 w : World} {x x' : PT} {s s' : Mem.MS} {qs qs' : List PX} {a b : MDef} (h : Alike w0 w x s qs x' s' qs' a b) (bs : List Int) :
  (getP x s.rs 1 bs).1 = (getP x' s'.rs 0 bs).1 ∧ (∀ y ∈ (getP x' s'.rs 0 bs).1.1, 0 ≤ y ∧ y ≤ 255) ∧ (getP x' s'.rs 0 bs).1.1.length ≤ 9223372036854775807 ∧ ∃ p, (getP x s.rs 1 bs).2 = qs.set 1 p ∧ (getP x' s'.rs 0 bs).2 = qs'.set 0 p := by
 obtain ⟨h1, h2⟩ := h.get1 bs
 obtain ⟨q0, q, hq, hq'⟩ := h.q
 have h3 := h.sep.u.got (k := 0) (d := b) (q := q) rfl (by rw [hq']; rfl) bs
 exact ⟨h1, h3.1, h3.2, h2⟩
end Go.Proofs.YtmhhahmjkopjhaaGreat
end
section
namespace Go.Proofs.YtmhhahmjkopjhaaGreat
open Go.RowKit
attribute [local go_sem ↓] Go.wp_at_zero Go.wp_at_succ
theorem DefsAt.two (w : World) (a b : MDef) : DefsAt (w.alloc (.cells (a.cells ++ b.cells).toArray 36)) (some ⟨w.heap.size, 0, none⟩) 2 [a, b] := by
 have hB := Blk.newA w (a.cells ++ b.cells).toArray _ 36 rfl
 refine ⟨rfl, by omega, fun _ => ⟨_, 0, rfl, fun i d' hd j v hv => ?_⟩⟩
 have hj : j < 4 := by have := (List.getElem?_eq_some_iff.1 hv).1; simpa [MDef.cells] using this
 match i, hd with
 | 0, hd =>
  simp at hd
  subst hd
  simp only [Nat.zero_mul, Nat.zero_add]
  exact hB.cell (by rw [List.getElem?_append_left (by simpa [MDef.cells] using hj)]; exact hv)
 | 1, hd =>
  simp at hd
  subst hd
  simp only [Nat.zero_add, Nat.one_mul]
  exact hB.cell (by rw [List.getElem?_append_right (by simp [MDef.cells]), show 4 + j - a.cells.length = j by simp [MDef.cells]]; exact hv)
theorem may_tail {a b : MDef} (h : mayI [a, b] = true) : mayI [b] = true := by
 unfold mayI at h ⊢
 rw [decide_eq_true_iff] at h ⊢
 exact ⟨by simp, fun d hd => h.2 d (List.mem_cons_of_mem _ hd)⟩
theorem apart_law {w : World} (a b : MDef) {oa : Option Addr} {m oc : Nat} {f : Nat → OpT} (hs : ScriptT w oa m f) :
  Calls Tryz.prog 6 #[.agg a.cells.toArray, .agg b.cells.toArray, .slice oa m oc] w fun e w' => e = .returned (.bool true) ∧ Touch [] w w' := by
 have HD := toHid hs
 have hm := hs.small
 have HB := toHid (Blk.newA w a.cells.toArray _ 36 rfl)
 have HB2 := toHid (Blk.newA (w.alloc (.cells a.cells.toArray 36)) b.cells.toArray _ 36 rfl)
 have HT0 := toHid (((Touch.refl [] w).alloc (.cells a.cells.toArray 36)).alloc (.cells b.cells.toArray 36))
 have HW : Hid (∀ w', Touch [] ((w.alloc (.cells a.cells.toArray 36)).alloc (.cells b.cells.toArray 36)) w' → Blk w' w.heap.size a.cells 36 ∧ Blk w' (w.heap.size + 1) b.cells 36 ∧ Touch [] w w') := fun w' ht => by
  have h2 := ht.blk HB2.out (by simp)
  rw [World.size_alloc] at h2
  exact ⟨ht.blk (HB.out.alloc _) (by simp), h2, HT0.out.trans ht (by simp)⟩
 clear HB HB2 HT0 hs
 unfold MDef.cells at *
 go_enter Tryz.func6, Tryz.ntmps6
 go_wp2_with fail
 refine (first_any _).mono ?_
 rintro e wz ⟨rfl, ht2⟩
 have HV : Hid (∀ w', Touch [] wz w' → (w'.cell? ⟨w.heap.size, 0, none⟩ = some (.int .i64 a.kind) ∧ w'.cell? ⟨w.heap.size, 1, none⟩ = some (.int .i64 a.key) ∧ w'.cell? ⟨w.heap.size, 2, none⟩ = some (.int .i64 a.val) ∧ w'.cell? ⟨w.heap.size, 3, none⟩ = some (.int .i64 a.max) ∧ w'.cell? ⟨w.heap.size + 1, 0, none⟩ = some (.int .i64 b.kind) ∧ w'.cell? ⟨w.heap.size + 1, 1, none⟩ = some (.int .i64 b.key) ∧ w'.cell? ⟨w.heap.size + 1, 2, none⟩ = some (.int .i64 b.val) ∧ w'.cell? ⟨w.heap.size + 1, 3, none⟩ = some (.int .i64 b.max)) ∧ Touch [] w w') := fun w' ht => by
  obtain ⟨h1, h2, h3⟩ := HW.out w' (ht2.trans ht (by simp))
  exact ⟨⟨h1.cell rfl, h1.cell rfl, h1.cell rfl, h1.cell rfl, h2.cell rfl, h2.cell rfl, h2.cell rfl, h2.cell rfl⟩, h3⟩
 clear ht2
 go_upto_region 3 with fail
 go_cut [7, 8] from 23 to 30 (fun te er wx => ∃ (o : Option Addr) (e1 : Int), te = .pointer o ∧ er = .int .i64 e1 ∧ NewR wz wx [a, b] o e1)
 case first =>
  refine wp_region_held_drew (S := fun w' => w'.cell? ⟨w.heap.size, 0, none⟩ = some (.int .i64 a.kind) ∧ w'.cell? ⟨w.heap.size, 1, none⟩ = some (.int .i64 a.key) ∧ w'.cell? ⟨w.heap.size, 2, none⟩ = some (.int .i64 a.val) ∧ w'.cell? ⟨w.heap.size, 3, none⟩ = some (.int .i64 a.max) ∧ w'.cell? ⟨w.heap.size + 1, 0, none⟩ = some (.int .i64 b.kind) ∧ w'.cell? ⟨w.heap.size + 1, 1, none⟩ = some (.int .i64 b.key) ∧ w'.cell? ⟨w.heap.size + 1, 2, none⟩ = some (.int .i64 b.val) ∧ w'.cell? ⟨w.heap.size + 1, 3, none⟩ = some (.int .i64 b.max)) (by kernel_rfl) ?_ (fun hHeld => ?_)
  ·exact (HV.out _ (Touch.refl [] wz).drew).1
  refine tk 1 (v := ?_) rfl ?_ ?_
  rotate_left
  ·(intro w hSw; (try dsimp only at hSw); go_simp; try with_reducible rfl)
  simp only [Act.put, AP]
  refine tk 2 (v := ?_) rfl ?_ ?_
  rotate_left
  ·(intro w hSw; (try dsimp only at hSw); go_simp; try with_reducible rfl)
  simp only [Act.put, AP]
  refine wpAnyH_ready (rs := [0, 3]) (by kernel_rfl) (by simp) ?_
  refine (AllReadyH.cons rfl (fun K hK => ?_) (AllReadyH.cons rfl (fun K hK => ?_) AllReadyH.nil))
  ·simp only [List.getElem_toArray, List.getElem_cons_zero]
   go_simp
   refine (Mem.newM_any _).mono ?_
   rintro e wm ⟨rfl, hM, htm⟩
   have HM := toHid (And.intro hM htm)
   clear hM htm
   go_wp2_with fail
   refine hK.out _ _ ?_ (fun hHeld => ?_)
   ·exact (HV.out _ (((Touch.refl [] wz).drew).trans HM.out.2 (by simp))).1
   clear hK K
   try simp only [Act.put, AP]
   refine wpAnyH_ready (rs := [3]) (by kernel_rfl) (by simp) ?_
   refine (AllReadyH.cons rfl (fun K hK => ?_) AllReadyH.nil)
   simp only [AP]
   go_simp
   refine hK.out _ _ ?_ (fun hHeld => ?_)
   ·exact (HV.out _ ((((Touch.refl [] wz).drew).trans HM.out.2 (by simp)).alloc _)).1
   clear hK K
   try simp only [Act.put, AP]
   refine wpAnyH_ready (rs := [4]) (by kernel_rfl) (by simp) ?_
   refine (AllReadyH.cons rfl (fun K hK => ?_) AllReadyH.nil)
   simp only [AP]
   go_simp
   have hM2 : Mem.MemAt (wm.alloc (.cells #[.int .i64 a.kind, .int .i64 a.key, .int .i64 a.val, .int .i64 a.max, .int .i64 b.kind, .int .i64 b.key, .int .i64 b.val, .int .i64 b.max] 36)) (Mem.MS.new wz.heap.size) := HM.out.1.touch ((Touch.refl [] wm).alloc _) (by simp)
   have h0 := new_fresh (w0 := wz) (sc := 2) hM2 (Nat.le_refl _) ((((Touch.refl [] wz).drew).trans HM.out.2 (by simp)).alloc _) (DefsAt.two wm a b)
   refine h0.mono ?_
   rintro e wn ⟨o, e1, rfl, hN⟩
   have HN := toHid hN
   clear hN h0
   go_wp2_with fail
   refine hK.out _ _ ?_ (fun hHeld => ?_)
   ·exact (HV.out _ HN.out.1).1
   clear hK K
   try simp only [Act.put, AP]
   refine tk 5 (v := ?_) rfl ?_ ?_
   rotate_left
   ·(intro w hSw; (try dsimp only at hSw); go_simp; try with_reducible rfl)
   simp only [Act.put, AP]
   refine tk 6 (v := ?_) rfl ?_ ?_
   rotate_left
   ·(intro w hSw; (try dsimp only at hSw); go_simp; try with_reducible rfl)
   simp only [Act.put, AP]
   refine tk 7 (v := ?_) rfl ?_ ?_
   rotate_left
   ·(intro w hSw; (try dsimp only at hSw); go_simp; try with_reducible rfl)
   simp only [Act.put, AP]
   refine tk 8 (v := ?_) rfl ?_ ?_
   rotate_left
   ·(intro w hSw; (try dsimp only at hSw); go_simp; try with_reducible rfl)
   simp only [Act.put, AP]
   refine tk 9 (v := ?_) rfl ?_ ?_
   rotate_left
   ·(intro w hSw; (try dsimp only at hSw); go_simp; try with_reducible rfl)
   simp only [Act.put, AP]
   refine wpAnyH_done (by kernel_rfl) ?_ _
   go_wp2_with fail
   go_meet
   exact ⟨o, e1, rfl, rfl, HN.out⟩
  ·simp only [AP]
   go_simp
   refine hK.out _ _ ?_ (fun hHeld => ?_)
   ·exact (HV.out _ (((Touch.refl [] wz).drew).alloc _)).1
   clear hK K
   try simp only [Act.put, AP]
   refine wpAnyH_ready (rs := [0]) (by kernel_rfl) (by simp) ?_
   refine (AllReadyH.cons rfl (fun K hK => ?_) AllReadyH.nil)
   simp only [List.getElem_toArray, List.getElem_cons_zero]
   go_simp
   refine (Mem.newM_any _).mono ?_
   rintro e wm ⟨rfl, hM, htm⟩
   have HM := toHid (And.intro hM htm)
   clear hM htm
   go_wp2_with fail
   refine hK.out _ _ ?_ (fun hHeld => ?_)
   ·exact (HV.out _ ((((Touch.refl [] wz).drew).alloc _).trans HM.out.2 (by simp))).1
   clear hK K
   try simp only [Act.put, AP]
   refine wpAnyH_ready (rs := [4]) (by kernel_rfl) (by simp) ?_
   refine (AllReadyH.cons rfl (fun K hK => ?_) AllReadyH.nil)
   simp only [AP]
   go_simp
   have hM2 : Mem.MemAt wm (Mem.MS.new (wz.heap.size + 1)) := by have h9 := HM.out.1; have e9 : (wz.alloc (.cells #[.int .i64 a.kind, .int .i64 a.key, .int .i64 a.val, .int .i64 a.max, .int .i64 b.kind, .int .i64 b.key, .int .i64 b.val, .int .i64 b.max] 36)).drew.heap.size = wz.heap.size + 1 := World.size_alloc _ _; rw [e9] at h9; exact h9
   have hd2 : DefsAt wm (some ⟨wz.heap.size, 0, none⟩) 2 [a, b] := (DefsAt.two wz.drew a b).touch HM.out.2
   have h0 := new_fresh (w0 := wz) (sc := 2) hM2 (Nat.le_succ _) ((((Touch.refl [] wz).drew).alloc _).trans HM.out.2 (by simp)) hd2
   refine h0.mono ?_
   rintro e wn ⟨o, e1, rfl, hN⟩
   have HN := toHid hN
   clear hN h0
   go_wp2_with fail
   refine hK.out _ _ ?_ (fun hHeld => ?_)
   ·exact (HV.out _ HN.out.1).1
   clear hK K
   try simp only [Act.put, AP]
   refine tk 5 (v := ?_) rfl ?_ ?_
   rotate_left
   ·(intro w hSw; (try dsimp only at hSw); go_simp; try with_reducible rfl)
   simp only [Act.put, AP]
   refine tk 6 (v := ?_) rfl ?_ ?_
   rotate_left
   ·(intro w hSw; (try dsimp only at hSw); go_simp; try with_reducible rfl)
   simp only [Act.put, AP]
   refine tk 7 (v := ?_) rfl ?_ ?_
   rotate_left
   ·(intro w hSw; (try dsimp only at hSw); go_simp; try with_reducible rfl)
   simp only [Act.put, AP]
   refine tk 8 (v := ?_) rfl ?_ ?_
   rotate_left
   ·(intro w hSw; (try dsimp only at hSw); go_simp; try with_reducible rfl)
   simp only [Act.put, AP]
   refine tk 9 (v := ?_) rfl ?_ ?_
   rotate_left
   ·(intro w hSw; (try dsimp only at hSw); go_simp; try with_reducible rfl)
   simp only [Act.put, AP]
   refine wpAnyH_done (by kernel_rfl) ?_ _
   go_wp2_with fail
   go_meet
   exact ⟨o, e1, rfl, rfl, HN.out⟩
 case rest =>
  obtain ⟨o1, e1, rfl, rfl, hN1⟩ := hcut
  have HN1 := toHid hN1
  clear hN1
  generalize wc = wy at *
  have HU : Hid (∀ w', Touch [] wy w' → (w'.cell? ⟨w.heap.size + 1, 0, none⟩ = some (.int .i64 b.kind) ∧ w'.cell? ⟨w.heap.size + 1, 1, none⟩ = some (.int .i64 b.key) ∧ w'.cell? ⟨w.heap.size + 1, 2, none⟩ = some (.int .i64 b.val) ∧ w'.cell? ⟨w.heap.size + 1, 3, none⟩ = some (.int .i64 b.max)) ∧ Touch [] w w') := fun w' ht => by
   obtain ⟨⟨_, _, _, _, h5, h6, h7, h8⟩, h9⟩ := HV.out w' (HN1.out.1.trans ht (by simp))
   exact ⟨⟨h5, h6, h7, h8⟩, h9⟩
  have HVV := HV
  clear HV
  go_upto_region 4 with fail
  go_cut [9, 10] from 31 to 37 (fun te er wx => ∃ (o : Option Addr) (e2 : Int), te = .pointer o ∧ er = .int .i64 e2 ∧ NewR wy wx [b] o e2)
  case first =>
   refine wp_region_held_drew (S := fun w' => w'.cell? ⟨w.heap.size + 1, 0, none⟩ = some (.int .i64 b.kind) ∧ w'.cell? ⟨w.heap.size + 1, 1, none⟩ = some (.int .i64 b.key) ∧ w'.cell? ⟨w.heap.size + 1, 2, none⟩ = some (.int .i64 b.val) ∧ w'.cell? ⟨w.heap.size + 1, 3, none⟩ = some (.int .i64 b.max)) (by kernel_rfl) ?_ (fun hHeld => ?_)
   ·exact (HU.out _ (Touch.refl [] wy).drew).1
   refine tk 1 (v := ?_) rfl ?_ ?_
   rotate_left
   ·(intro w hSw; (try dsimp only at hSw); go_simp; try with_reducible rfl)
   simp only [Act.put, AP]
   refine wpAnyH_ready (rs := [0, 2]) (by kernel_rfl) (by simp) ?_
   refine (AllReadyH.cons rfl (fun K hK => ?_) (AllReadyH.cons rfl (fun K hK => ?_) AllReadyH.nil))
   ·simp only [List.getElem_toArray, List.getElem_cons_zero]
    go_simp
    refine (Mem.newM_any _).mono ?_
    rintro e wm ⟨rfl, hM, htm⟩
    have HM := toHid (And.intro hM htm)
    clear hM htm
    go_wp2_with fail
    refine hK.out _ _ ?_ (fun hHeld => ?_)
    ·exact (HU.out _ (((Touch.refl [] wy).drew).trans HM.out.2 (by simp))).1
    clear hK K
    try simp only [Act.put, AP]
    refine wpAnyH_ready (rs := [2]) (by kernel_rfl) (by simp) ?_
    refine (AllReadyH.cons rfl (fun K hK => ?_) AllReadyH.nil)
    simp only [AP]
    go_simp
    refine hK.out _ _ ?_ (fun hHeld => ?_)
    ·exact (HU.out _ ((((Touch.refl [] wy).drew).trans HM.out.2 (by simp)).alloc _)).1
    clear hK K
    try simp only [Act.put, AP]
    refine wpAnyH_ready (rs := [3]) (by kernel_rfl) (by simp) ?_
    refine (AllReadyH.cons rfl (fun K hK => ?_) AllReadyH.nil)
    simp only [AP]
    go_simp
    have hM2 : Mem.MemAt (wm.alloc (.cells #[.int .i64 b.kind, .int .i64 b.key, .int .i64 b.val, .int .i64 b.max] 36)) (Mem.MS.new wy.heap.size) := HM.out.1.touch ((Touch.refl [] wm).alloc _) (by simp)
    have h0 := new_fresh (w0 := wy) (sc := 1) hM2 (Nat.le_refl _) ((((Touch.refl [] wy).drew).trans HM.out.2 (by simp)).alloc _) (DefsAt.one wm b)
    refine h0.mono ?_
    rintro e wn ⟨o, e2, rfl, hN⟩
    have HN := toHid hN
    clear hN h0
    go_wp2_with fail
    refine hK.out _ _ ?_ (fun hHeld => ?_)
    ·exact (HU.out _ HN.out.1).1
    clear hK K
    try simp only [Act.put, AP]
    refine tk 4 (v := ?_) rfl ?_ ?_
    rotate_left
    ·(intro w hSw; (try dsimp only at hSw); go_simp; try with_reducible rfl)
    simp only [Act.put, AP]
    refine tk 5 (v := ?_) rfl ?_ ?_
    rotate_left
    ·(intro w hSw; (try dsimp only at hSw); go_simp; try with_reducible rfl)
    simp only [Act.put, AP]
    refine tk 6 (v := ?_) rfl ?_ ?_
    rotate_left
    ·(intro w hSw; (try dsimp only at hSw); go_simp; try with_reducible rfl)
    simp only [Act.put, AP]
    refine tk 7 (v := ?_) rfl ?_ ?_
    rotate_left
    ·(intro w hSw; (try dsimp only at hSw); go_simp; try with_reducible rfl)
    simp only [Act.put, AP]
    refine tk 8 (v := ?_) rfl ?_ ?_
    rotate_left
    ·(intro w hSw; (try dsimp only at hSw); go_simp; try with_reducible rfl)
    simp only [Act.put, AP]
    refine wpAnyH_done (by kernel_rfl) ?_ _
    go_wp2_with fail
    go_meet
    exact ⟨o, e2, rfl, rfl, HN.out⟩
   ·simp only [AP]
    go_simp
    refine hK.out _ _ ?_ (fun hHeld => ?_)
    ·exact (HU.out _ (((Touch.refl [] wy).drew).alloc _)).1
    clear hK K
    try simp only [Act.put, AP]
    refine wpAnyH_ready (rs := [0]) (by kernel_rfl) (by simp) ?_
    refine (AllReadyH.cons rfl (fun K hK => ?_) AllReadyH.nil)
    simp only [List.getElem_toArray, List.getElem_cons_zero]
    go_simp
    refine (Mem.newM_any _).mono ?_
    rintro e wm ⟨rfl, hM, htm⟩
    have HM := toHid (And.intro hM htm)
    clear hM htm
    go_wp2_with fail
    refine hK.out _ _ ?_ (fun hHeld => ?_)
    ·exact (HU.out _ ((((Touch.refl [] wy).drew).alloc _).trans HM.out.2 (by simp))).1
    clear hK K
    try simp only [Act.put, AP]
    refine wpAnyH_ready (rs := [3]) (by kernel_rfl) (by simp) ?_
    refine (AllReadyH.cons rfl (fun K hK => ?_) AllReadyH.nil)
    simp only [AP]
    go_simp
    have hM2 : Mem.MemAt wm (Mem.MS.new (wy.heap.size + 1)) := by have h9 := HM.out.1; have e9 : (wy.alloc (.cells #[.int .i64 b.kind, .int .i64 b.key, .int .i64 b.val, .int .i64 b.max] 36)).drew.heap.size = wy.heap.size + 1 := World.size_alloc _ _; rw [e9] at h9; exact h9
    have hd2 : DefsAt wm (some ⟨wy.heap.size, 0, none⟩) 1 [b] := (DefsAt.one wy.drew b).touch HM.out.2
    have h0 := new_fresh (w0 := wy) (sc := 1) hM2 (Nat.le_succ _) ((((Touch.refl [] wy).drew).alloc _).trans HM.out.2 (by simp)) hd2
    refine h0.mono ?_
    rintro e wn ⟨o, e2, rfl, hN⟩
    have HN := toHid hN
    clear hN h0
    go_wp2_with fail
    refine hK.out _ _ ?_ (fun hHeld => ?_)
    ·exact (HU.out _ HN.out.1).1
    clear hK K
    try simp only [Act.put, AP]
    refine tk 4 (v := ?_) rfl ?_ ?_
    rotate_left
    ·(intro w hSw; (try dsimp only at hSw); go_simp; try with_reducible rfl)
    simp only [Act.put, AP]
    refine tk 5 (v := ?_) rfl ?_ ?_
    rotate_left
    ·(intro w hSw; (try dsimp only at hSw); go_simp; try with_reducible rfl)
    simp only [Act.put, AP]
    refine tk 6 (v := ?_) rfl ?_ ?_
    rotate_left
    ·(intro w hSw; (try dsimp only at hSw); go_simp; try with_reducible rfl)
    simp only [Act.put, AP]
    refine tk 7 (v := ?_) rfl ?_ ?_
    rotate_left
    ·(intro w hSw; (try dsimp only at hSw); go_simp; try with_reducible rfl)
    simp only [Act.put, AP]
    refine tk 8 (v := ?_) rfl ?_ ?_
    rotate_left
    ·(intro w hSw; (try dsimp only at hSw); go_simp; try with_reducible rfl)
    simp only [Act.put, AP]
    refine wpAnyH_done (by kernel_rfl) ?_ _
    go_wp2_with fail
    go_meet
    exact ⟨o, e2, rfl, rfl, HN.out⟩
  case rest =>
   obtain ⟨o2, e2, rfl, rfl, hN2⟩ := hcut
   have HN2 := toHid hN2
   clear hN2
   generalize wc = wv at *
   have HTv := toHid (HN1.out.1.trans HN2.out.1 (by simp))
   have HB4 := toHid (HU.out wv HN2.out.1).1
   rcases HN1.out.2 with ⟨hno, rfl, rfl⟩ | ⟨hyes, x, s, rfl, rfl, hS, hZ⟩
   ·have HNO := toHid hno
    clear hno
    obtain ⟨⟨c0, c1, c2, c3, d0, d1, d2, d3⟩, hTw⟩ := HVV.out wv HTv.out
    have H1 := toHid (rmay_any (sc := 2) (DefsAt.two wv a b))
    rw [HNO.out] at H1
    have HTW := toHid hTw
    clear hTw
    go_wp2_with fail
    refine H1.out.mono ?_
    rintro e w5 ⟨rfl, ht5⟩
    have HF := toHid ((HTW.out.alloc _).trans ht5 (by simp))
    clear ht5 H1
    go_wp2
    go_ret
    exact ⟨rfl, HF.out⟩
   ·rcases HN2.out.2 with ⟨hno2, _, _⟩ | ⟨_, y, r, rfl, rfl, hS', hZ'⟩
    ·exact absurd hno2 (by rw [may_tail hyes]; decide)
    ·have HA0 : Hid (∃ x' s' qs y' r' qs', Alike wz wv x' s' qs y' r' qs' a b ∧ x'.t = x.t ∧ y'.t = y.t) := ⟨x, s, _, y, r, _, alike_new hS hS' hZ hZ', rfl, rfl⟩
     have HSC : Hid (ScriptT wz oa m f ∧ Touch [] w wz) := ⟨HD.out.touch (HVV.out wz (Touch.refl _ _)).2, (HVV.out wz (Touch.refl _ _)).2⟩
     clear hS hS' hZ hZ' hyes HN1 HN2 HTv HB4 HVV HU
     generalize x.t = T at *
     generalize y.t = Y at *
     go_wp2_with fail
     go_loopw [69] (fun v w' => ∃ k : Nat, k ≤ m ∧ k ≤ 40 ∧ v = .int .i64 k ∧ Hid (∃ x' s' qs y' r' qs', Alike wz w' x' s' qs y' r' qs' a b ∧ x'.t = T ∧ y'.t = Y)) (fun v _ => m - (intOf v).toNat)
     case atStart => exact ⟨0, by omega, by omega, rfl, HA0⟩
     case round =>
      clear HA0
      obtain ⟨k, hk, hk40, rfl, HI⟩ := hrel
      by_cases hlt : k < m
      ·obtain ⟨x, s, qs, y, r, qs', hA, hxT, hyY⟩ := HI.out
       obtain ⟨ob, off, hoa, ok, hcells⟩ := HSC.out.1.at_ k hlt
       subst hoa
       have HOK : Hid ((f k).Ok wz) := ok
       generalize f k = o at *
       have htz := hA.sep.t.touch
       have c0 := htz.cell (hcells 0 _ rfl) (by simp)
       have c1 := htz.cell (hcells 1 _ rfl) (by simp)
       have c2 := htz.cell (hcells 2 _ rfl) (by simp)
       have c3 := htz.cell (hcells 3 _ rfl) (by simp)
       have c4 := htz.cell (hcells 4 _ rfl) (by simp)
       rw [Nat.add_zero] at c0
       have hkm : (k : Int) < m := by omega
       by_cases h40 : k = 40
       ·have h40' : (40 : Int) ≤ k := by omega
        clear h40
        have HA := toHid (hA.still ((Touch.refl [] wr).alloc (.cells o.cells.toArray 41)))
        unfold OpT.cells at *
        obtain ⟨ps, hpl, h1, h2⟩ := HA.out.ends
        rw [hxT] at h1
        rw [hyY] at h2
        unfold PDumpPost at h1 h2
        have HL := toHid (And.intro hpl (And.intro h2 (HSC.out.2.trans HA.out.sep.t.touch (by simp))))
        have H1 := toHid h1
        clear h1 h2 hpl
        clear hA hcells HI ok htz
        go_wp2_with fail
        refine Calls.mono H1.out ?_
        rintro e w8 ⟨⟨v, rfl, hPL⟩, ht8⟩
        have H2 := toHid (HL.out.2.1 w8 ht8)
        have HPL := toHid (And.intro hPL ht8)
        clear hPL ht8 H1
        go_wp2_with fail
        refine Calls.mono H2.out ?_
        rintro e w9 ⟨⟨v2, rfl, hPL2⟩, ht9⟩
        have H3 := toHid (rsame_any (HPL.out.1.touch ht9 (by simp)) hPL2 HL.out.1)
        have HF := toHid ((HL.out.2.2.trans HPL.out.2 (by simp)).trans ht9 (by simp))
        clear hPL2 ht9 H2
        go_wp2_with fail
        refine Calls.mono H3.out ?_
        rintro e w10 ⟨rfl, ht10⟩
        have HF2 := toHid (HF.out.trans ht10 (by simp))
        clear ht10 H3
        go_wp2
        go_ret
        exact ⟨rfl, HF2.out⟩
       ·have h40' : ¬ (40 : Int) ≤ k := by omega
        have HA := toHid (hA.still ((Touch.refl [] wr).alloc (.cells o.cells.toArray 41)))
        have HB := toHid (Held.new hA o.cells 41)
        have hNB := HB.out.blk
        unfold OpT.cells at *
        obtain ⟨q4, hq4, hkq⟩ := kind4 o.k
        obtain rfl | rfl | rfl | rfl : q4 = 0 ∨ q4 = 1 ∨ q4 = 2 ∨ q4 = 3 := by omega
        ·have hk4 : (IntKind.u64.wrap o.k).tmod 4 = 0 := hkq
         clear hkq hq4 h40
         have H1 := toHid (HA.out.sep.t.update 0 o HOK.out)
         rw [hxT] at H1
         clear hA hcells HI ok htz
         go_wp2_with fail
         refine Calls.mono H1.out ?_
         rintro e w2 ⟨rfl, x1, st⟩
         obtain ⟨q1, hA1⟩ := HA.out.upd0 o.kb o.vb o.fl st
         have hB1 := HB.out.upd st
         have hx1 : x1.t = T := st.t.trans hxT
         have H2 := toHid (hA1.sep.t.deleteV 0 o HOK.out)
         rw [hx1] at H2
         have d3 := hB1.blk.cell (i := 3) rfl
         have HA1 := toHid hA1
         have HB1 := toHid hB1
         clear hA1 hB1 st H1 c0 c1 c2 c3 c4 hNB
         go_wp2_with fail
         refine Calls.mono H2.out ?_
         rintro e w3 ⟨rfl, x2, st⟩
         obtain ⟨p2, hp2⟩ := HA1.out.del0 o.vb
         obtain ⟨q2, hA2⟩ := HA1.out.step0 hp2 st
         have hB2 := HB1.out.step st
         have hx2 : x2.t = T := st.t.trans hx1
         have H3 := toHid (hA2.sep.t.get 0 o HOK.out)
         rw [hx2] at H3
         have d2 := hB2.blk.cell (i := 2) rfl
         have HA2 := toHid hA2
         clear hA2 hB2 st H2 d3 hp2
         go_wp2_with fail
         refine Calls.mono H3.out ?_
         rintro e w4 ⟨v, rfl, _, _, x3, st⟩
         obtain ⟨p3, hp3⟩ := HA2.out.get0 o.kb
         obtain ⟨q3, hA3⟩ := HA2.out.step0 hp3 st
         have HN : Hid (∃ x' s' qs y' r' qs', Alike wz w4 x' s' qs y' r' qs' a b ∧ x'.t = T ∧ y'.t = Y) := ⟨_, _, _, _, _, _, hA3, st.t.trans hx2, hyY⟩
         clear hA3 st H3 d2 hp3
         go_wp2
         go_roundw
         case rel => exact ⟨k + 1, by omega, by omega, by go_num, HN⟩
         case measure => simp [intOf]; omega
        ·have hk4 : (IntKind.u64.wrap o.k).tmod 4 = 1 := hkq
         clear hkq hq4 h40
         have HA := toHid (HA.out.still (Touch.refl [] (wr.alloc (.cells #[.int .i64 o.k, .int .i64 o.mp, .slice o.ka o.kl o.kc, .slice o.va o.vl o.vc, .int .u64 o.fl] 41))).drew)
         have HB := toHid (HB.out.still (Touch.refl [] (wr.alloc (.cells #[.int .i64 o.k, .int .i64 o.mp, .slice o.ka o.kl o.kc, .slice o.va o.vl o.vc, .int .u64 o.fl] 41))).drew)
         have H1 := toHid (HA.out.sep.t.update 1 o HOK.out)
         have H2 : Hid (∀ w2 x1, PUSt (wr.alloc (.cells #[.int .i64 o.k, .int .i64 o.mp, .slice o.ka o.kl o.kc, .slice o.va o.vl o.vc, .int .u64 o.fl] 41)).drew w2 x x1 s (updP x 1 o.kb o.vb o.fl).2.1 (updRs s.rs o.vb (updP x 1 o.kb o.vb o.fl)) → Calls Tryz.prog 24 #[.pointer (some ⟨y.t, 0, none⟩), .int .i64 0, .slice o.ka o.kl o.kc, .slice o.va o.vl o.vc, .int .u64 o.fl] w2 (PUpdPost w2 y r o.vb (updP y 0 o.kb o.vb o.fl))) := fun w2 x1 st => (HA.out.overU st).update 0 o HOK.out
         have hE := HA.out.updEq o.kb o.vb o.fl
         unfold PUpdPost at H1 H2
         rw [hE] at H1
         rw [hxT] at H1
         rw [hyY] at H2
         have HSS : Hid (∀ S w', Touch S (wr.alloc (.cells #[.int .i64 o.k, .int .i64 o.mp, .slice o.ka o.kl o.kc, .slice o.va o.vl o.vc, .int .u64 o.fl] 41)).drew w' → wr.heap.size ∉ S → w'.cell? ⟨wr.heap.size, 2, none⟩ = some (.slice o.ka o.kl o.kc) ∧ w'.cell? ⟨wr.heap.size, 3, none⟩ = some (.slice o.va o.vl o.vc) ∧ w'.cell? ⟨wr.heap.size, 4, none⟩ = some (.int .u64 o.fl)) := fun S w' ht hn => by
          have h9 := ht.blk HB.out.blk hn
          exact ⟨h9.cell rfl, h9.cell rfl, h9.cell rfl⟩
         have HN1 : Hid (wr.heap.size ∉ x.blocks ++ s.blocks) := HB.out.out
         have HN2 : Hid (wr.heap.size ∉ (x.blocks ++ s.blocks) ++ (y.blocks ++ r.blocks)) := fun hx => by
          rcases List.mem_append.1 hx with hx | hx
          ·exact HB.out.out hx
          ·exact HB.out.out' hx
         clear hA hcells HI ok htz hE
         generalize hEE : updE r.rs o.vb (updP y 0 o.kb o.vb o.fl) = E at *
         clear hEE
         go_wp2_with fail
         refine wp_region_held_drew (S := fun w' => w'.cell? ⟨wr.heap.size, 2, none⟩ = some (.slice o.ka o.kl o.kc) ∧ w'.cell? ⟨wr.heap.size, 3, none⟩ = some (.slice o.va o.vl o.vc) ∧ w'.cell? ⟨wr.heap.size, 4, none⟩ = some (.int .u64 o.fl)) (by kernel_rfl) ?_ (fun hHeld => ?_)
         ·exact HSS.out [] _ (Touch.refl _ _) (by simp)
         refine tk 0 (v := ?_) rfl ?_ ?_
         rotate_left
         ·(intro w hSw; (try dsimp only at hSw); go_simp; try with_reducible rfl)
         simp only [Act.put, AP]
         refine tk 1 (v := ?_) rfl ?_ ?_
         rotate_left
         ·(intro w hSw; (try dsimp only at hSw); go_simp; try with_reducible rfl)
         simp only [Act.put, AP]
         refine tk 2 (v := ?_) rfl ?_ ?_
         rotate_left
         ·(intro w hSw; (try dsimp only at hSw); go_simp; try with_reducible rfl)
         simp only [Act.put, AP]
         refine tk 3 (v := ?_) rfl ?_ ?_
         rotate_left
         ·(intro w hSw; (try dsimp only at hSw); go_simp; try with_reducible rfl)
         simp only [Act.put, AP]
         refine tk 4 (v := ?_) rfl ?_ ?_
         rotate_left
         ·(intro w hSw; (try dsimp only at hSw); go_simp; try with_reducible rfl)
         simp only [Act.put, AP]
         refine tk 5 (v := ?_) rfl ?_ ?_
         rotate_left
         ·(intro w hSw; (try dsimp only at hSw); go_simp; try with_reducible rfl)
         simp only [Act.put, AP]
         refine tk 6 (v := ?_) rfl ?_ ?_
         rotate_left
         ·(intro w hSw; (try dsimp only at hSw); go_simp; try with_reducible rfl)
         simp only [Act.put, AP]
         refine tk 8 (v := ?_) rfl ?_ ?_
         rotate_left
         ·(intro w hSw; (try dsimp only at hSw); go_simp; try with_reducible rfl)
         simp only [Act.put, AP]
         refine tk 9 (v := ?_) rfl ?_ ?_
         rotate_left
         ·(intro w hSw; (try dsimp only at hSw); go_simp; try with_reducible rfl)
         simp only [Act.put, AP]
         refine tk 10 (v := ?_) rfl ?_ ?_
         rotate_left
         ·(intro w hSw; (try dsimp only at hSw); go_simp; try with_reducible rfl)
         simp only [Act.put, AP]
         refine tk 11 (v := ?_) rfl ?_ ?_
         rotate_left
         ·(intro w hSw; (try dsimp only at hSw); go_simp; try with_reducible rfl)
         simp only [Act.put, AP]
         refine tk 12 (v := ?_) rfl ?_ ?_
         rotate_left
         ·(intro w hSw; (try dsimp only at hSw); go_simp; try with_reducible rfl)
         simp only [Act.put, AP]
         refine tk 13 (v := ?_) rfl ?_ ?_
         rotate_left
         ·(intro w hSw; (try dsimp only at hSw); go_simp; try with_reducible rfl)
         simp only [Act.put, AP]
         refine tk 14 (v := ?_) rfl ?_ ?_
         rotate_left
         ·(intro w hSw; (try dsimp only at hSw); go_simp; try with_reducible rfl)
         simp only [Act.put, AP]
         refine wpAnyH_ready (rs := [7]) (by kernel_rfl) (by simp) ?_
         refine AllReadyH.cons rfl (fun K hK => ?_) AllReadyH.nil
         simp only [AP]
         go_simp
         refine Calls.mono H1.out ?_; rintro e w2 ⟨rfl, x1, st⟩; have HS := toHid st; clear st
         go_wp2_with fail
         refine hK.out _ _ ?_ (fun hHeld => ?_)
         ·exact HSS.out _ _ HS.out.touch HN1.out
         clear hK K
         try simp only [Act.put, AP]
         refine wpAnyH_ready (rs := [15]) (by kernel_rfl) (by simp) ?_
         refine AllReadyH.cons rfl (fun K hK => ?_) AllReadyH.nil
         simp only [AP]
         go_simp
         refine Calls.mono (H2.out _ _ HS.out) ?_; rintro e w3 ⟨rfl, y1, st'⟩; have HT3 := toHid st'
         go_wp2_with fail
         refine hK.out _ _ ?_ (fun hHeld => ?_)
         ·exact HSS.out _ _ ((HS.out.touch.mono (S' := (x.blocks ++ s.blocks) ++ (y.blocks ++ r.blocks)) (fun b hb => Or.inl (List.mem_append_left _ hb))).trans HT3.out.touch (fun b hb => Or.inl (List.mem_append_right _ hb))) HN2.out
         clear hK K
         try simp only [Act.put, AP]
         refine wpAnyH_ready (rs := [16]) (by kernel_rfl) (by simp) ?_
         refine AllReadyH.cons rfl (fun K hK => ?_) AllReadyH.nil
         simp only [AP]
         go_simp
         refine hK.out _ _ ?_ (fun hHeld => ?_)
         ·exact hHeld
         clear hK K
         try simp only [Act.put, AP]
         refine wpAnyH_done (by kernel_rfl) ?_ _
         clear hHeld HSS
         obtain ⟨_, qs2, qs2', hA3⟩ := HA.out.upd1 o.kb o.vb o.fl HS.out HT3.out
         have HN : Hid (∃ x' s' qs y' r' qs', Alike wz w3 x' s' qs y' r' qs' a b ∧ x'.t = T ∧ y'.t = Y) := ⟨_, _, _, _, _, _, hA3, HS.out.t.trans hxT, HT3.out.t.trans hyY⟩
         clear hA3 H1 H2 c0 c1 c2 c3 c4 hNB st'
         go_wp2
         go_roundw
         case rel => exact ⟨k + 1, by omega, by omega, by go_num, HN⟩
         case measure => simp [intOf]; omega
        ·have hk4 : (IntKind.u64.wrap o.k).tmod 4 = 2 := hkq
         clear hkq hq4 h40
         have HA := toHid (HA.out.still (Touch.refl [] (wr.alloc (.cells #[.int .i64 o.k, .int .i64 o.mp, .slice o.ka o.kl o.kc, .slice o.va o.vl o.vc, .int .u64 o.fl] 41))).drew)
         have HB := toHid (HB.out.still (Touch.refl [] (wr.alloc (.cells #[.int .i64 o.k, .int .i64 o.mp, .slice o.ka o.kl o.kc, .slice o.va o.vl o.vc, .int .u64 o.fl] 41))).drew)
         have H1 := toHid (HA.out.sep.t.delete 1 o HOK.out)
         have H2 : Hid (∀ w2 x1, PStep (wr.alloc (.cells #[.int .i64 o.k, .int .i64 o.mp, .slice o.ka o.kl o.kc, .slice o.va o.vl o.vc, .int .u64 o.fl] 41)).drew w2 x x1 (delP x 1 o.kb).2 → Calls Tryz.prog 25 #[.pointer (some ⟨y.t, 0, none⟩), .int .i64 0, .slice o.ka o.kl o.kc] w2 (PDelPost w2 y (delP y 0 o.kb))) := fun w2 x1 st => (HA.out.overS st).delete 0 o HOK.out
         obtain ⟨hE, p2, hp1, hp2⟩ := HA.out.del1 o.kb
         have hE : (delP x 1 o.kb).1 = (delP y 0 o.kb).1 := hE
         have HPP := toHid (And.intro hp1 hp2)
         unfold PDelPost at H1 H2
         rw [hE] at H1
         rw [hxT] at H1
         rw [hyY] at H2
         have HSS : Hid (∀ S w', Touch S (wr.alloc (.cells #[.int .i64 o.k, .int .i64 o.mp, .slice o.ka o.kl o.kc, .slice o.va o.vl o.vc, .int .u64 o.fl] 41)).drew w' → wr.heap.size ∉ S → w'.cell? ⟨wr.heap.size, 2, none⟩ = some (.slice o.ka o.kl o.kc) ∧ w'.cell? ⟨wr.heap.size, 3, none⟩ = some (.slice o.va o.vl o.vc) ∧ w'.cell? ⟨wr.heap.size, 4, none⟩ = some (.int .u64 o.fl)) := fun S w' ht hn => by
          have h9 := ht.blk HB.out.blk hn
          exact ⟨h9.cell rfl, h9.cell rfl, h9.cell rfl⟩
         have HN1 : Hid (wr.heap.size ∉ x.blocks ++ s.blocks) := HB.out.out
         have HN2 : Hid (wr.heap.size ∉ (x.blocks ++ s.blocks) ++ (y.blocks ++ r.blocks)) := fun hx => by
          rcases List.mem_append.1 hx with hx | hx
          ·exact HB.out.out hx
          ·exact HB.out.out' hx
         have HN3 : Hid (wr.heap.size ∉ x.blocks) := fun hx => HN1.out (List.mem_append_left _ hx)
         have HN4 : Hid (wr.heap.size ∉ x.blocks ++ y.blocks) := fun hx => by
          rcases List.mem_append.1 hx with hx | hx
          ·exact HN3.out hx
          ·exact HN2.out (List.mem_append_right _ (List.mem_append_left _ hx))
         clear hA hcells HI ok htz hE hp1 hp2
         generalize hEE : (delP y 0 o.kb).1 = E at *
         clear hEE
         go_wp2_with fail
         refine wp_region_held_drew (S := fun w' => w'.cell? ⟨wr.heap.size, 2, none⟩ = some (.slice o.ka o.kl o.kc) ∧ w'.cell? ⟨wr.heap.size, 3, none⟩ = some (.slice o.va o.vl o.vc) ∧ w'.cell? ⟨wr.heap.size, 4, none⟩ = some (.int .u64 o.fl)) (by kernel_rfl) ?_ (fun hHeld => ?_)
         ·exact HSS.out [] _ (Touch.refl _ _) (by simp)
         refine tk 0 (v := ?_) rfl ?_ ?_
         rotate_left
         ·(intro w hSw; (try dsimp only at hSw); go_simp; try with_reducible rfl)
         simp only [Act.put, AP]
         refine tk 1 (v := ?_) rfl ?_ ?_
         rotate_left
         ·(intro w hSw; (try dsimp only at hSw); go_simp; try with_reducible rfl)
         simp only [Act.put, AP]
         refine tk 2 (v := ?_) rfl ?_ ?_
         rotate_left
         ·(intro w hSw; (try dsimp only at hSw); go_simp; try with_reducible rfl)
         simp only [Act.put, AP]
         refine tk 4 (v := ?_) rfl ?_ ?_
         rotate_left
         ·(intro w hSw; (try dsimp only at hSw); go_simp; try with_reducible rfl)
         simp only [Act.put, AP]
         refine tk 5 (v := ?_) rfl ?_ ?_
         rotate_left
         ·(intro w hSw; (try dsimp only at hSw); go_simp; try with_reducible rfl)
         simp only [Act.put, AP]
         refine tk 6 (v := ?_) rfl ?_ ?_
         rotate_left
         ·(intro w hSw; (try dsimp only at hSw); go_simp; try with_reducible rfl)
         simp only [Act.put, AP]
         refine wpAnyH_ready (rs := [3]) (by kernel_rfl) (by simp) ?_
         refine AllReadyH.cons rfl (fun K hK => ?_) AllReadyH.nil
         simp only [AP]
         go_simp
         refine Calls.mono H1.out ?_; rintro e w2 ⟨rfl, x1, st⟩; have HS := toHid st; clear st
         go_wp2_with fail
         refine hK.out _ _ ?_ (fun hHeld => ?_)
         ·exact HSS.out _ _ HS.out.touch HN3.out
         clear hK K
         try simp only [Act.put, AP]
         refine wpAnyH_ready (rs := [7]) (by kernel_rfl) (by simp) ?_
         refine AllReadyH.cons rfl (fun K hK => ?_) AllReadyH.nil
         simp only [AP]
         go_simp
         refine Calls.mono (H2.out _ _ HS.out) ?_; rintro e w3 ⟨rfl, y1, st'⟩; have HT3 := toHid st'
         go_wp2_with fail
         refine hK.out _ _ ?_ (fun hHeld => ?_)
         ·exact HSS.out _ _ ((HS.out.touch.mono (S' := x.blocks ++ y.blocks) (fun b hb => Or.inl (List.mem_append_left _ hb))).trans HT3.out.touch (fun b hb => Or.inl (List.mem_append_right _ hb))) HN4.out
         clear hK K
         try simp only [Act.put, AP]
         refine wpAnyH_ready (rs := [8]) (by kernel_rfl) (by simp) ?_
         refine AllReadyH.cons rfl (fun K hK => ?_) AllReadyH.nil
         simp only [AP]
         go_simp
         refine hK.out _ _ ?_ (fun hHeld => ?_)
         ·exact hHeld
         clear hK K
         try simp only [Act.put, AP]
         refine wpAnyH_done (by kernel_rfl) ?_ _
         clear hHeld HSS
         obtain ⟨qs2, qs2', hA3⟩ := HA.out.step1 HPP.out.1 HPP.out.2 HS.out HT3.out
         have HN : Hid (∃ x' s' qs y' r' qs', Alike wz w3 x' s' qs y' r' qs' a b ∧ x'.t = T ∧ y'.t = Y) := ⟨_, _, _, _, _, _, hA3, HS.out.t.trans hxT, HT3.out.t.trans hyY⟩
         clear hA3 H1 H2 c0 c1 c2 c3 c4 hNB st'
         go_wp2
         go_roundw
         case rel => exact ⟨k + 1, by omega, by omega, by go_num, HN⟩
         case measure => simp [intOf]; omega
        ·have hk4 : (IntKind.u64.wrap o.k).tmod 4 = 3 := hkq
         clear hkq hq4 h40
         have H1 := toHid (HA.out.sep.t.get 1 o HOK.out)
         obtain ⟨hE, hby, hln, p2, hp1, hp2⟩ := HA.out.gets o.kb
         have HPP := toHid (And.intro hp1 (And.intro hp2 (And.intro hby hln)))
         unfold PGetPost at H1
         rw [hE] at H1
         rw [hxT] at H1
         clear hA hcells HI ok htz hE hp1 hp2 hby hln
         go_wp2_with fail
         refine Calls.mono H1.out ?_
         rintro e w2 ⟨v, rfl, hsl, hfr, x1, st⟩
         have H2 := toHid ((HA.out.overS st).get 0 o HOK.out)
         unfold PGetPost at H2
         rw [hyY] at H2
         have d2 := (HB.out.step st).blk.cell (i := 2) rfl
         have HS := toHid st
         have HSL := toHid (And.intro hsl hfr)
         clear st hsl hfr H1 c0 c1 c2 c3 c4 hNB
         go_wp2_with fail
         refine Calls.mono H2.out ?_
         rintro e w3 ⟨v2, rfl, hsl2, _, y1, st'⟩
         obtain ⟨qs2, qs2', hA3⟩ := HA.out.step1 HPP.out.1 HPP.out.2.1 HS.out st'
         have HN : Hid (∃ x' s' qs y' r' qs', Alike wz w3 x' s' qs y' r' qs' a b ∧ x'.t = T ∧ y'.t = Y) := ⟨_, _, _, _, _, _, hA3, HS.out.t.trans hxT, st'.t.trans hyY⟩
         have hsl1 := SliceIs.over HSL.out.1 st'.touch (fun b off l c e hx => by have h8 := HSL.out.2 b off l c e; have := HA.out.sep.u.p.tab.lt b hx; omega)
         obtain ⟨sa1, sl1, sc1, rfl⟩ := SliceIs.form hsl1
         obtain ⟨sa2, sl2, sc2, rfl⟩ := SliceIs.form hsl2
         have hc1 := (SliceIs.keyAt hsl1 HPP.out.2.2.1 HPP.out.2.2.2).conv sc1
         have hc2 := (SliceIs.keyAt hsl2 HPP.out.2.2.1 HPP.out.2.2.2).conv sc2
         generalize strOfNums (getP y r.rs 0 o.kb).1.1 = A at *
         generalize (getP y r.rs 0 o.kb).1.2 = E at *
         clear hA3 st' H2 d2 hsl1 hsl2 HSL HPP
         go_wp2
         go_roundw
         case rel => exact ⟨k + 1, by omega, by omega, by go_num, HN⟩
         case measure => simp [intOf]; omega
      ·obtain ⟨x, s, qs, y, r, qs', hA, hxT, hyY⟩ := HI.out
       obtain rfl : k = m := by omega
       have HA := toHid hA
       obtain ⟨ps, hpl, h1, h2⟩ := HA.out.ends
       rw [hxT] at h1
       rw [hyY] at h2
       unfold PDumpPost at h1 h2
       have HL := toHid (And.intro hpl (And.intro h2 (HSC.out.2.trans HA.out.sep.t.touch (by simp))))
       have H1 := toHid h1
       clear h1 h2 hpl
       clear hA HI
       go_wp2_with fail
       refine Calls.mono H1.out ?_
       rintro e w8 ⟨⟨v, rfl, hPL⟩, ht8⟩
       have H2 := toHid (HL.out.2.1 w8 ht8)
       have HPL := toHid (And.intro hPL ht8)
       clear hPL ht8 H1
       go_wp2_with fail
       refine Calls.mono H2.out ?_
       rintro e w9 ⟨⟨v2, rfl, hPL2⟩, ht9⟩
       have H3 := toHid (rsame_any (HPL.out.1.touch ht9 (by simp)) hPL2 HL.out.1)
       have HF := toHid ((HL.out.2.2.trans HPL.out.2 (by simp)).trans ht9 (by simp))
       clear hPL2 ht9 H2
       go_wp2_with fail
       refine Calls.mono H3.out ?_
       rintro e w10 ⟨rfl, ht10⟩
       have HF2 := toHid (HF.out.trans ht10 (by simp))
       clear ht10 H3
       go_wp2
       go_ret
       exact ⟨rfl, HF2.out⟩
end Go.Proofs.YtmhhahmjkopjhaaGreat
end
