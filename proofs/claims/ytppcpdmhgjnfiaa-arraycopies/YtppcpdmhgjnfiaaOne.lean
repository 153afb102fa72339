/-
  The array and the document's own, side by side; one: a call of both.
-/
import Derived.Test.YtppcpdmhgjnfiaaRNew
namespace Go.Proofs.Ytppcpdmhgjnfiaa
open Go.RowKit

/-- Both indexes lie in the world, in blocks that came behind w0, and hold the same keys. -/
structure Pair (w0 w : World) (X m : Nat) (x : RX) : Prop where
  idx : IdxAt w X m
  ref : RAt w x
  up : RUp x
  kind : x.kind = 0
  size : x.size = 4
  keys : x.slots.map (Option.map KS.bs) = (allKeys m).map some
  apart : X ∉ x.blocks
  own : w0.heap.size ≤ X
  own' : ∀ b ∈ x.blocks, w0.heap.size ≤ b
  touch : Touch [] w0 w
theorem Pair.still {w0 w w' : World} {X m : Nat} {x : RX} (h : Pair w0 w X m x) (ht : Touch [] w w') : Pair w0 w' X m x :=
  ⟨h.idx.touch ht (by simp), h.ref.touch ht (by simp), h.up, h.kind, h.size, h.keys, h.apart, h.own, h.own', h.touch.trans ht (by simp)⟩
theorem Pair.step {w0 w w' : World} {X m : Nat} {x x' : RX} (h : Pair w0 w X m x) (hr : RAt w' x') (ht : Turned x x') (hw : Touch x.top w w') (hc : x'.clock ≤ 1000000000) : Pair w0 w' X m x' where
  idx := h.idx.touch hw (fun hx => h.apart (RX.mem_top hx))
  ref := hr
  up := ⟨by rw [ht.lens, ht.slots]; exact h.up.lens, by rw [ht.slots]; exact h.up.many, by have := ht.clock0; have := h.up.clock0; omega, hc⟩
  kind := by rw [ht.kind]; exact h.kind
  size := by rw [ht.size]; exact h.size
  keys := by rw [ht.slots]; exact h.keys
  apart := by rw [ht.blocks]; exact h.apart
  own := h.own
  own' := by rw [ht.blocks]; exact h.own'
  touch := h.touch.trans hw (fun b hb => Or.inr (h.own' b (RX.mem_top hb)))

theorem le4_num {bs : List Int} (h : ∀ x ∈ bs, 0 ≤ x ∧ x ≤ 255) (h4 : bs.length = 4) : le4 (keyNum bs) = bs := by
  match bs, h4 with
  | [a, b, c, d], _ =>
    have ha := h a (by simp)
    have hb := h b (by simp)
    have hc := h c (by simp)
    have hd := h d (by simp)
    have hn : keyNum [a, b, c, d] = 0 + a * 1 + b * 256 + c * 65536 + d * 16777216 := rfl
    rw [le4_eq, hn]
    show [(0 + a * 1 + b * 256 + c * 65536 + d * 16777216) / 1 % 256, (0 + a * 1 + b * 256 + c * 65536 + d * 16777216) / 256 % 256, (0 + a * 1 + b * 256 + c * 65536 + d * 16777216) / 65536 % 256, (0 + a * 1 + b * 256 + c * 65536 + d * 16777216) / 16777216 % 256] = [a, b, c, d]
    simp only [List.cons.injEq, and_true]
    omega
/-- Which slot a key has. -/
theorem same_all {l : List (Option KS)} {m : Nat} (hl : l.map (Option.map KS.bs) = (allKeys m).map some) (hm : m ≤ 64) {bs : List Int} (h : ∀ x ∈ bs, 0 ≤ x ∧ x ≤ 255) (h4 : bs.length = 4) (hn : 0 ≤ keyNum bs) :
    sameI l bs = if keyNum bs < m then keyNum bs else -1 := by
  have hlen : l.length = m := by have := congrArg List.length hl; simpa [allKeys] using this
  have hget : ∀ j, j < m → (l.getD j none).map KS.bs = some (le4 (j : Int)) := fun j hj => by
    have h1 : (l.map (Option.map KS.bs))[j]? = ((allKeys m).map some)[j]? := by rw [hl]
    rw [List.getElem?_map, List.getElem?_eq_getElem (by omega), allKeys, List.map_map, List.getElem?_map, List.getElem?_range hj] at h1
    rw [List.getD_eq_getElem?_getD, List.getElem?_eq_getElem (by omega)]
    exact Option.some.inj h1
  have hne : ∀ j, j < m → (j : Int) ≠ keyNum bs → (l.getD j none).map KS.bs ≠ some bs := fun j hj hjn e => by
    rw [hget j hj] at e
    injection e with e
    apply hjn
    rw [← e, num_le4 _ (by omega) (by omega)]
  by_cases hk : keyNum bs < m
  · rw [if_pos hk]
    have hq : ((keyNum bs).toNat : Int) = keyNum bs := by omega
    rw [same_some (k := (keyNum bs).toNat) (fun j hj => hne j (by omega) (by omega)) (by omega) (by rw [hget _ (by omega), hq, le4_num h h4])]
    exact hq
  · rw [if_neg hk]
    exact same_none (fun j hj => hne j (by omega) (by omega))
theorem keysOf_all {l : List (Option KS)} {m : Nat} (hl : l.map (Option.map KS.bs) = (allKeys m).map some) : keysOf l = allKeys m := by
  have h1 : keysOf l = (l.map (Option.map KS.bs)).filterMap id := by
    unfold keysOf
    rw [List.filterMap_map]
    rfl
  rw [h1, hl]
  simp [List.filterMap_map]

theorem Pair.find {w0 w : World} {X m : Nat} {x : RX} (h : Pair w0 w X m x) {sa : Option Addr} {sl : Nat} {bs : List Int} (hk : KeyAt w sa sl bs) : findI m bs = (if 0 ≤ rfindI x bs then rfindI x bs else 0, decide (0 ≤ rfindI x bs)) := by
  have hm := h.idx.2.2
  by_cases h4 : bs.length = 4
  · have hr : rfindI x bs = if keyNum bs < m then keyNum bs else -1 := by
      unfold rfindI
      rw [h.size, if_pos (by rw [h4]; rfl), same_all h.keys hm hk.2.1 h4 hk.num4.1]
    rw [hr, show findI m bs = slotI m (keyNum bs) from if_pos h4]
    unfold slotI
    have := hk.num4.1
    by_cases hlt : keyNum bs < m
    · simp [hlt, this]
    · simp [hlt]
  · have hr : rfindI x bs = -1 := by
      unfold rfindI
      rw [h.size, if_neg (by omega)]
    rw [hr, show findI m bs = (0, false) from if_neg h4]
    rfl
theorem Pair.put {w0 w : World} {X m : Nat} {x : RX} (h : Pair w0 w X m x) {sa : Option Addr} {sl : Nat} {bs : List Int} (hk : KeyAt w sa sl bs) (fl : Int) : putI m bs fl = rputI x bs fl := by
  have hm := h.idx.2.2
  by_cases h4 : bs.length = 4
  · unfold putI rputI
    rw [h.size, if_pos h4, if_pos (show ((bs.length : Nat) : Int) = 4 by rw [h4]; rfl), same_all h.keys hm hk.2.1 h4 hk.num4.1]
    have := hk.num4.1
    by_cases hlt : keyNum bs < m
    · have h2 : ¬ keyNum bs < 0 := by omega
      simp [hlt, h2]
    · simp [hlt]
  · rw [show putI m bs fl = (0, 2) from if_neg h4, show rputI x bs fl = (0, 2) from if_neg (by rw [h.size]; omega)]

/-- What 'one' answers. -/
def OnePost (w0 : World) (X m : Nat) (x : RX) (e : Ending) (w' : World) : Prop := e = .returned (.bool true) ∧ ∃ x', Pair w0 w' X m x' ∧ x'.r = x.r ∧ x'.clock ≤ x.clock + 1 ∧ x'.blocks = x.blocks ∧ x'.top = x.top
def opV (o : OpC) : Value := .agg #[.int .i64 o.k, .slice o.sa o.sl o.sc, .int .u64 o.fl]
theorem kind4 (k0 : Int) : ∃ q : Nat, q < 4 ∧ (IntKind.u64.wrap k0).tmod 4 = q := by
  rw [IntKind.wrap_u64, Int.tmod_eq_emod_of_nonneg (by omega)]
  exact ⟨(k0 % 18446744073709551616 % 4).toNat, by omega, by omega⟩

set_option maxHeartbeats 2000000 in
set_option maxRecDepth 100000 in
theorem one_find {w0 w : World} {X m : Nat} {x : RX} (h : Pair w0 w X m x) (hc : x.clock < 1000000000) (o : OpC) (ok : o.Ok w0) (hk : (IntKind.u64.wrap o.k).tmod 4 = 0) :
    Calls Try.prog 9 #[.pointer (some ⟨X, 0, none⟩), .pointer (some ⟨x.r, 0, none⟩), opV o] w (OnePost w0 X m x) := by
  have hta := (Touch.refl [] w).alloc (.cells #[.int .i64 o.k, .slice o.sa o.sl o.sc, .int .u64 o.fl] 35)
  have hP := h.still hta
  have hkey := ok.key.touch hP.touch
  have hcv := hkey.conv o.sc
  have H1 := toHid (find_any hP.idx hkey o.sc)
  have H2 := toHid (rfind_any hP.ref hP.up (by rw [hP.kind]; omega) hkey o.sc)
  rw [hP.find hkey] at H1
  have hB := Blk.newA w #[.int .i64 o.k, .slice o.sa o.sl o.sc, .int .u64 o.fl] _ 35 rfl
  have HP := toHid (And.intro hP (And.intro ok hB))
  have HC := toHid hc
  have HX : Hid (w.heap.size ∉ x.top) := fun hx => by
    have := h.ref.lt _ (RX.mem_top hx)
    omega
  clear h hP hkey ok hta hB hc
  unfold opV
  generalize hA : strOfNums o.bs = A at *
  generalize rfindI x o.bs = rf at *
  have HAA := toHid hA
  clear hA
  by_cases h0 : 0 ≤ rf
  · rw [if_pos h0, decide_eq_true h0] at H1
    go_enter Try.func9, Try.ntmps9
    go_wp2_with fail
    refine Calls.mono H1.out ?_
    rintro e w2 ⟨rfl, rfl⟩
    go_wp2_with fail
    refine Calls.mono H2.out ?_
    rintro e w3 ⟨rfl, x', hr3, ht3, hw3⟩
    have hP3 := HP.out.1.step hr3 ht3 hw3 (by have := ht3.clock1; have := HC.out; omega)
    have hb3 := hw3.blk HP.out.2.2 HX.out
    have d1 := hb3.cell (i := 1) rfl
    have hcv3 := (HP.out.2.1.key.touch hP3.touch).conv o.sc
    rw [HAA.out] at hcv3
    have HF : Hid (∃ x', Pair w0 w3 X m x' ∧ x'.r = x.r ∧ x'.clock ≤ x.clock + 1 ∧ x'.blocks = x.blocks ∧ x'.top = x.top) := ⟨x', hP3, ht3.r, ht3.clock1, ht3.blocks, ht3.top⟩
    clear hP3 hr3 ht3 hw3 hb3 H1 H2 HP hcv
    go_wp2
    go_ret
    exact ⟨rfl, HF.out⟩
  · rw [if_neg h0, decide_eq_false h0] at H1
    have hd : decide (0 ≤ rf) = false := decide_eq_false h0
    go_enter Try.func9, Try.ntmps9
    go_wp2_with fail
    refine Calls.mono H1.out ?_
    rintro e w2 ⟨rfl, rfl⟩
    go_wp2_with fail
    refine Calls.mono H2.out ?_
    rintro e w3 ⟨rfl, x', hr3, ht3, hw3⟩
    have hP3 := HP.out.1.step hr3 ht3 hw3 (by have := ht3.clock1; have := HC.out; omega)
    have hb3 := hw3.blk HP.out.2.2 HX.out
    have d1 := hb3.cell (i := 1) rfl
    have hcv3 := (HP.out.2.1.key.touch hP3.touch).conv o.sc
    rw [HAA.out] at hcv3
    have HF : Hid (∃ x', Pair w0 w3 X m x' ∧ x'.r = x.r ∧ x'.clock ≤ x.clock + 1 ∧ x'.blocks = x.blocks ∧ x'.top = x.top) := ⟨x', hP3, ht3.r, ht3.clock1, ht3.blocks, ht3.top⟩
    clear hP3 hr3 ht3 hw3 hb3 H1 H2 HP hcv
    go_wp2
    go_ret
    exact ⟨rfl, HF.out⟩

set_option maxHeartbeats 2000000 in
set_option maxRecDepth 100000 in
theorem one_put {w0 w : World} {X m : Nat} {x : RX} (h : Pair w0 w X m x) (hc : x.clock < 1000000000) (o : OpC) (ok : o.Ok w0) (hk : (IntKind.u64.wrap o.k).tmod 4 = 1) :
    Calls Try.prog 9 #[.pointer (some ⟨X, 0, none⟩), .pointer (some ⟨x.r, 0, none⟩), opV o] w (OnePost w0 X m x) := by
  have hta := (Touch.refl [] w).alloc (.cells #[.int .i64 o.k, .slice o.sa o.sl o.sc, .int .u64 o.fl] 35)
  have hP := h.still hta
  have hkey := ok.key.touch hP.touch
  have hcv := hkey.conv o.sc
  have H1 := toHid (put_any hP.idx hkey o.sc o.fl ok.f0)
  have H2 := toHid (rput0_any hP.ref hP.up hP.kind hkey o.sc o.fl ok.f0)
  rw [hP.put hkey] at H1
  have hB := Blk.newA w #[.int .i64 o.k, .slice o.sa o.sl o.sc, .int .u64 o.fl] _ 35 rfl
  have HP := toHid (And.intro hP (And.intro ok hB))
  have HC := toHid hc
  have HX : Hid (w.heap.size ∉ x.top) := fun hx => by
    have := h.ref.lt _ (RX.mem_top hx)
    omega
  clear h hP hkey ok hta hB hc
  unfold opV
  generalize hA : strOfNums o.bs = A at *
  generalize rputI x o.bs o.fl = rf at *
  have HAA := toHid hA
  clear hA
  go_enter Try.func9, Try.ntmps9
  go_wp2_with fail
  refine Calls.mono H1.out ?_
  rintro e w2 ⟨rfl, rfl⟩
  go_wp2_with fail
  refine Calls.mono H2.out ?_
  rintro e w3 ⟨rfl, x', hr3, ht3, hw3⟩
  have hP3 := HP.out.1.step hr3 ht3 hw3 (by have := ht3.clock1; have := HC.out; omega)
  have hb3 := hw3.blk HP.out.2.2 HX.out
  have d1 := hb3.cell (i := 1) rfl
  have hcv3 := (HP.out.2.1.key.touch hP3.touch).conv o.sc
  rw [HAA.out] at hcv3
  have HF : Hid (∃ x', Pair w0 w3 X m x' ∧ x'.r = x.r ∧ x'.clock ≤ x.clock + 1 ∧ x'.blocks = x.blocks ∧ x'.top = x.top) := ⟨x', hP3, ht3.r, ht3.clock1, ht3.blocks, ht3.top⟩
  clear hP3 hr3 ht3 hw3 hb3 H1 H2 HP hcv
  go_wp2
  go_ret
  exact ⟨rfl, HF.out⟩

set_option maxHeartbeats 2000000 in
set_option maxRecDepth 100000 in
theorem one_del {w0 w : World} {X m : Nat} {x : RX} (h : Pair w0 w X m x) (o : OpC) (ok : o.Ok w0) (hk : (IntKind.u64.wrap o.k).tmod 4 = 2) :
    Calls Try.prog 9 #[.pointer (some ⟨X, 0, none⟩), .pointer (some ⟨x.r, 0, none⟩), opV o] w (OnePost w0 X m x) := by
  have hta := (Touch.refl [] w).alloc (.cells #[.int .i64 o.k, .slice o.sa o.sl o.sc, .int .u64 o.fl] 35)
  have hP := h.still hta
  have hkey := ok.key.touch hP.touch
  have hcv := hkey.conv o.sc
  have H1 := toHid (del_any (w.alloc (.cells #[.int .i64 o.k, .slice o.sa o.sl o.sc, .int .u64 o.fl] 35)) X o.sa o.sl o.sc)
  have H2 := toHid (rdel0_any hP.ref hP.kind o.sa o.sl o.sc)
  have HP := toHid hP
  clear h hP hkey ok hta
  unfold opV
  generalize strOfNums o.bs = A at *
  go_enter Try.func9, Try.ntmps9
  go_wp2_with fail
  refine Calls.mono H1.out ?_
  rintro e w2 ⟨rfl, rfl⟩
  go_wp2_with fail
  refine Calls.mono H2.out ?_
  rintro e w3 ⟨rfl, rfl⟩
  go_wp2
  go_ret
  exact ⟨rfl, x, HP.out, rfl, by omega, rfl, rfl⟩

set_option maxHeartbeats 2000000 in
set_option maxRecDepth 100000 in
theorem one_keys {w0 w : World} {X m : Nat} {x : RX} (h : Pair w0 w X m x) (o : OpC) (ok : o.Ok w0) (hk : (IntKind.u64.wrap o.k).tmod 4 = 3) :
    Calls Try.prog 9 #[.pointer (some ⟨X, 0, none⟩), .pointer (some ⟨x.r, 0, none⟩), opV o] w (OnePost w0 X m x) := by
  have hta := (Touch.refl [] w).alloc (.cells #[.int .i64 o.k, .slice o.sa o.sl o.sc, .int .u64 o.fl] 35)
  have hP := h.still hta
  have hkey := ok.key.touch hP.touch
  have hcv := hkey.conv o.sc
  have hB := Blk.newA w #[.int .i64 o.k, .slice o.sa o.sl o.sc, .int .u64 o.fl] _ 35 rfl
  have H1 := toHid (keys_any hP.idx)
  have HP := toHid (And.intro hP (And.intro ok hB))
  have hm : (allKeys m).length ≤ 1000 := by have := h.idx.2.2; simp [allKeys]; omega
  clear h hP hkey ok hta hB
  unfold opV
  generalize hA : strOfNums o.bs = A at *
  have HAA := toHid hA
  have HM := toHid hm
  clear hA hm
  go_enter Try.func9, Try.ntmps9
  go_wp2_with fail
  refine Calls.mono H1.out ?_
  rintro e w2 ⟨⟨v, rfl, hK⟩, ht2⟩
  have hP2 := HP.out.1.still ht2
  have H2 := toHid (rkeys_any hP2.ref (by have := hP2.up.many; omega))
  rw [keysOf_all hP2.keys] at H2
  have HK := toHid (And.intro hK (And.intro ht2 hP2))
  clear hK ht2 hP2 H1
  go_wp2_with fail
  refine Calls.mono H2.out ?_
  rintro e w3 ⟨⟨v2, rfl, hK2⟩, ht3⟩
  have H3 := toHid (sameKeys_any (HK.out.1.touch ht3 (by simp)) hK2 HM.out)
  have HT3 := toHid ht3
  clear hK2 ht3 H2
  go_wp2_with fail
  refine Calls.mono H3.out ?_
  rintro e w4 ⟨rfl, ht4⟩
  have hP4 := (HK.out.2.2.still HT3.out).still ht4
  have hb4 := ht4.blk (HT3.out.blk (HK.out.2.1.blk HP.out.2.2 (by simp)) (by simp)) (by simp)
  have d1 := hb4.cell (i := 1) rfl
  have hcv3 := (HP.out.2.1.key.touch hP4.touch).conv o.sc
  rw [HAA.out] at hcv3
  have HF : Hid (Pair w0 w4 X m x) := hP4
  clear hP4 hb4 ht4 H3 HT3 HK HP hcv
  go_wp2
  go_ret
  exact ⟨rfl, x, HF.out, rfl, by omega, rfl, rfl⟩

theorem one_any {w0 w : World} {X m : Nat} {x : RX} (h : Pair w0 w X m x) (hc : x.clock < 1000000000) (o : OpC) (ok : o.Ok w0) :
    Calls Try.prog 9 #[.pointer (some ⟨X, 0, none⟩), .pointer (some ⟨x.r, 0, none⟩), opV o] w (OnePost w0 X m x) := by
  obtain ⟨q, hq, hk⟩ := kind4 o.k
  have : q = 0 ∨ q = 1 ∨ q = 2 ∨ q = 3 := by omega
  rcases this with rfl | rfl | rfl | rfl
  · exact one_find h hc o ok hk
  · exact one_put h hc o ok hk
  · exact one_del h o ok hk
  · exact one_keys h o ok hk
end Go.Proofs.Ytppcpdmhgjnfiaa
