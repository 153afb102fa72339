/-
  The document's own index, in memory: touch, Fits, Same.
-/
import Derived.Test.YtlkbaconlngmjaaBase
import Derived.BigQuiet
namespace Go.Proofs.Ytlkbaconlngmjaa
open Go.RowKit

theorem conv_zero {P : Program} (w : World) (src dst e : TypeId) (hs : P.underlying src = some (.slice e)) (he : P.underlying e = some (.int .u8)) (hd : P.underlying dst = some .string) (p : Option Addr) (c : Nat) :
    (convert src dst (.slice p 0 c)).run P w = .ok (.string ByteArray.empty) w := by
  rw [run_convert_bytes_string w src dst e _ 0 c hs he hd]
  cases p <;> simp [Conv.bytesToString, loadCells]
  all_goals rfl
theorem KeyAt.conv {w : World} {sa : Option Addr} {sl : Nat} {bs : List Int} (h : KeyAt w sa sl bs) (sc : Nat) : (convert 32 9 (.slice sa sl sc)).run Try.prog w = .ok (.string (strOfNums bs)) w := by
  obtain ⟨h1, h2, h3, h4⟩ := h
  subst h1
  by_cases hp : 1 ≤ bs.length
  · obtain ⟨k, off, rfl, hb⟩ := h4 hp
    exact run_convert_bytes_arg w 32 5 Try.underlying32 Try.underlying5 k off bs.length sc bs rfl (fun i hi => hb i hi) 9 Try.underlying9
  · obtain rfl : bs = [] := List.eq_nil_of_length_eq_zero (by omega)
    exact conv_zero w 32 9 5 Try.underlying32 Try.underlying5 Try.underlying9 sa sc
theorem str_inj {a b : List Int} (ha : ∀ x ∈ a, 0 ≤ x ∧ x ≤ 255) (hb : ∀ x ∈ b, 0 ≤ x ∧ x ≤ 255) (h : strOfNums a = strOfNums b) : a = b := by
  have h1 : a.map (fun n => UInt8.ofNat n.toNat) = b.map (fun n => UInt8.ofNat n.toNat) := by rw [← strOfNums_data, ← strOfNums_data, h]
  clear h
  induction a generalizing b with
  | nil => cases b with
    | nil => rfl
    | cons y b => simp at h1
  | cons x a ih =>
    cases b with
    | nil => simp at h1
    | cons y b =>
      simp only [List.map_cons, List.cons.injEq] at h1
      have hx := ha x (by simp)
      have hy := hb y (by simp)
      have h2 : (UInt8.ofNat x.toNat).toNat = (UInt8.ofNat y.toNat).toNat := by rw [h1.1]
      simp only [UInt8.toNat_ofNat'] at h2
      have : x = y := by omega
      rw [this, ih (fun z hz => ha z (by simp [hz])) (fun z hz => hb z (by simp [hz])) h1.2]
theorem str_eq {a b : List Int} (ha : ∀ x ∈ a, 0 ≤ x ∧ x ≤ 255) (hb : ∀ x ∈ b, 0 ≤ x ∧ x ≤ 255) : ((strOfNums a).toList == (strOfNums b).toList) = (a == b) := by
  by_cases h : a = b
  · subst h
    simp
  · have : (strOfNums a).toList ≠ (strOfNums b).toList := fun e => h (str_inj ha hb (by
      rw [ByteArray.toList_eq, ByteArray.toList_eq] at e
      exact ByteArray.ext (Array.toList_inj.1 e)))
    rw [beq_false_of_ne this, beq_false_of_ne h]

/-- The index as numbers, and where its parts lie. -/
structure RX where
  r : Nat
  kind : Int
  size : Int
  max : Int
  clock : Int
  g : Option Nat
  scap : Nat
  h : Option Nat
  wcap : Nat
  slots : List (Option KS)
  whens : List Int
def slotV : Option KS → Value
  | none => .slice none 0 0
  | some k => k.v
def RX.top (x : RX) : List Nat := x.r :: (x.g.toList ++ x.h.toList)
def RX.blocks (x : RX) : List Nat := x.top ++ x.slots.filterMap (Option.map KS.b)
theorem RX.mem_key {x : RX} {k : KS} (h : some k ∈ x.slots) : k.b ∈ x.blocks := List.mem_append_right _ (List.mem_filterMap.2 ⟨_, h, rfl⟩)
theorem RX.mem_top {x : RX} {b : Nat} (h : b ∈ x.top) : b ∈ x.blocks := List.mem_append_left _ h
theorem RX.mem_g {x : RX} {b : Nat} (h : x.g = some b) : b ∈ x.top := by simp [RX.top, h]
theorem RX.mem_h {x : RX} {b : Nat} (h : x.h = some b) : b ∈ x.top := by simp [RX.top, h]
theorem RX.mem_r (x : RX) : x.r ∈ x.top := by simp [RX.top]
structure RAt (w : World) (x : RX) : Prop where
  self : Blk w x.r [.int .i64 x.kind, .int .i64 x.size, .int .i64 x.max, slV x.g x.slots.length x.scap, slV x.h x.whens.length x.wcap, .int .i64 x.clock] 61
  row : RowAt w 32 1 x.g x.slots.length x.scap (x.slots.map slotV)
  wrow : RowAt w 3 1 x.h x.whens.length x.wcap (x.whens.map (Value.int .i64))
  keys : ∀ k, some k ∈ x.slots → k.At w
  apart : x.top.Nodup
  apartK : ∀ k, some k ∈ x.slots → k.b ∉ x.top
theorem RAt.touch {S : List Nat} {w w' : World} {x : RX} (h : RAt w x) (ht : Touch S w w') (hS : ∀ b ∈ x.blocks, b ∉ S) : RAt w' x where
  self := ht.blk h.self (hS _ (RX.mem_top x.mem_r))
  row := h.row.touch ht (fun _b hb => hS _ (RX.mem_top (RX.mem_g hb)))
  wrow := h.wrow.touch ht (fun _b hb => hS _ (RX.mem_top (RX.mem_h hb)))
  keys := fun k hk => (h.keys k hk).touch ht (hS _ (RX.mem_key hk))
  apart := h.apart
  apartK := h.apartK
theorem RAt.lt {w : World} {x : RX} (h : RAt w x) : ∀ b ∈ x.blocks, b < w.heap.size := by
  intro b hb
  rcases List.mem_append.1 hb with hb | hb
  · simp only [RX.top, List.mem_cons, List.mem_append, Option.mem_toList] at hb
    rcases hb with rfl | hb | hb
    · exact h.self.lt
    · have := h.row.2.2.2
      rw [hb] at this
      obtain ⟨_, hB, _⟩ := this
      exact hB.lt
    · have := h.wrow.2.2.2
      rw [hb] at this
      obtain ⟨_, hB, _⟩ := this
      exact hB.lt
  · obtain ⟨a, ha, hb⟩ := List.mem_filterMap.1 hb
    cases a with
    | none => cases hb
    | some k =>
      injection hb with hb
      subst hb
      exact (h.keys k ha).lt
/-- A slot's cell. -/
theorem RAt.slot {w : World} {x : RX} (h : RAt w x) {j : Nat} {s : Option KS} (hj : x.slots[j]? = some s) : ∃ b, x.g = some b ∧ w.cell? ⟨b, j, none⟩ = some (slotV s) := by
  have hlt := (List.getElem?_eq_some_iff.1 hj).1
  have hr := h.row
  cases hg : x.g with
  | none =>
    rw [hg] at hr
    have h1 := hr.2.1
    have h2 : x.scap = 0 := hr.2.2.2
    omega
  | some b =>
    rw [hg] at hr
    obtain ⟨_, _, _, rest, hB, _⟩ := hr
    refine ⟨b, rfl, hB.cell ?_⟩
    rw [List.getElem?_append_left (by simpa using hlt), List.getElem?_map, hj]
    rfl

/-- When a slot was touched: a cell. -/
theorem RAt.when {w : World} {x : RX} (h : RAt w x) {j : Nat} (hlt : j < x.whens.length) : ∃ b rest, x.h = some b ∧ Blk w b (x.whens.map (Value.int .i64) ++ rest) 3 := by
  have hr := h.wrow
  cases hg : x.h with
  | none =>
    rw [hg] at hr
    have h1 := hr.2.1
    have h2 : x.wcap = 0 := hr.2.2.2
    omega
  | some b =>
    rw [hg] at hr
    obtain ⟨_, _, _, rest, hB, _⟩ := hr
    exact ⟨b, rest, rfl, hB⟩

/-- Touched. -/
def RX.touched (x : RX) (at_ : Int) : RX := { x with clock := x.clock + 1, whens := if 0 ≤ at_ then x.whens.set at_.toNat (x.clock + 1) else x.whens }
theorem touched_top (x : RX) (a : Int) : (x.touched a).top = x.top := rfl
theorem touched_blocks (x : RX) (a : Int) : (x.touched a).blocks = x.blocks := rfl
theorem touched_slots (x : RX) (a : Int) : (x.touched a).slots = x.slots := rfl
theorem touched_len (x : RX) (a : Int) : (x.touched a).whens.length = x.whens.length := by
  unfold RX.touched
  dsimp only
  split <;> simp

theorem RAt.ticked {w : World} {x : RX} (h : RAt w x) : RAt (w.setCell ⟨x.r, 5, none⟩ (.int .i64 (x.clock + 1))) (x.touched (-1)) := by
  have ht : Touch [x.r] w (w.setCell ⟨x.r, 5, none⟩ (.int .i64 (x.clock + 1))) := (Touch.refl _ w).setCell _ _ (Or.inl (by simp))
  have hap := h.apart
  simp only [RX.top, List.nodup_cons] at hap
  refine ⟨?_, h.row.touch ht (fun b hb hx => ?_), h.wrow.touch ht (fun b hb hx => ?_), fun k hk => (h.keys k hk).touch ht (fun hx => ?_), h.apart, h.apartK⟩
  · exact h.self.setCell 5 (.int .i64 (x.clock + 1))
  · simp at hx
    subst hx
    exact hap.1 (by simp [hb])
  · simp at hx
    subst hx
    exact hap.1 (by simp [hb])
  · simp at hx
    exact h.apartK k hk (by rw [hx]; exact x.mem_r)
theorem RAt.stamped {w : World} {x : RX} (h : RAt w x) {b j : Nat} (hb : x.h = some b) (hj : j < x.whens.length) (t : Int) : RAt (w.setCell ⟨b, j, none⟩ (.int .i64 t)) { x with whens := x.whens.set j t } := by
  have ht : Touch [b] w (w.setCell ⟨b, j, none⟩ (.int .i64 t)) := (Touch.refl _ w).setCell _ _ (Or.inl (by simp))
  have hap := h.apart
  simp only [RX.top, List.nodup_cons, hb, Option.toList_some, List.nodup_append, List.mem_append, List.mem_singleton] at hap
  refine ⟨?_, h.row.touch ht (fun c hc hx => ?_), ?_, fun k hk => (h.keys k hk).touch ht (fun hx => ?_), h.apart, h.apartK⟩
  · have := ht.blk h.self (by simp; intro e; exact hap.1 (Or.inr e))
    simpa using this
  · simp at hx
    subst hx
    exact hap.2.2.2 c (by simp [hc]) c rfl rfl
  · obtain ⟨b', rest, hb', hB⟩ := h.when hj
    rw [hb] at hb'
    injection hb' with hb'
    subst hb'
    obtain ⟨h1, h2, h3, h4⟩ := h.wrow
    rw [hb] at h4
    obtain ⟨rest', hB', hc⟩ := h4
    have hset := hB'.setCell j (.int .i64 t)
    rw [List.set_append_left _ _ (by simpa using hj), ← List.map_set] at hset
    show RowAt _ 3 1 x.h (x.whens.set j t).length x.wcap ((x.whens.set j t).map (Value.int .i64))
    rw [hb]
    exact ⟨by simp, by simpa using h2, h3, rest', hset, by simpa using hc⟩
  · simp at hx
    exact h.apartK k hk (by rw [hx]; exact RX.mem_h hb)
theorem RAt.c0 {w : World} {x : RX} (h : RAt w x) : w.cell? ⟨x.r, 0, none⟩ = some (.int .i64 x.kind) := h.self.cell rfl
theorem RAt.c1 {w : World} {x : RX} (h : RAt w x) : w.cell? ⟨x.r, 1, none⟩ = some (.int .i64 x.size) := h.self.cell rfl
theorem RAt.c2 {w : World} {x : RX} (h : RAt w x) : w.cell? ⟨x.r, 2, none⟩ = some (.int .i64 x.max) := h.self.cell rfl
theorem RAt.c3 {w : World} {x : RX} (h : RAt w x) : w.cell? ⟨x.r, 3, none⟩ = some (slV x.g x.slots.length x.scap) := h.self.cell rfl
theorem RAt.c4 {w : World} {x : RX} (h : RAt w x) : w.cell? ⟨x.r, 4, none⟩ = some (slV x.h x.whens.length x.wcap) := h.self.cell rfl
theorem RAt.c5 {w : World} {x : RX} (h : RAt w x) : w.cell? ⟨x.r, 5, none⟩ = some (.int .i64 x.clock) := h.self.cell rfl

def TouchPost (w : World) (x : RX) (a : Int) (e : Ending) (w' : World) : Prop := e = .returned (.tuple #[]) ∧ RAt w' (x.touched a) ∧ Touch x.top w w'
set_option maxHeartbeats 1000000 in
set_option maxRecDepth 100000 in
theorem touch_any {w : World} {x : RX} (h : RAt w x) (a : Int) (ha : a < x.whens.length) (hc0 : 0 ≤ x.clock) (hc1 : x.clock ≤ 4611686018427387904) :
    Calls Try.prog 38 #[.pointer (some ⟨x.r, 0, none⟩), .int .i64 a] w (TouchPost w x a) := by
  have c5 := h.c5
  have f5 := h.self.frozen 5
  have h1 := h.ticked
  have t1 : Touch x.top w (w.setCell ⟨x.r, 5, none⟩ (.int .i64 (x.clock + 1))) := (Touch.refl _ w).setCell _ _ (Or.inl x.mem_r)
  by_cases h0 : 0 ≤ a
  · obtain ⟨b, rest, hb, hB⟩ := h1.when (j := a.toNat) (by rw [touched_len]; omega)
    have hb' : x.h = some b := hb
    have d4 := h1.c4
    have d5 := h1.c5
    rw [hb, touched_len, slV_some] at d4
    rw [show (x.touched (-1)).whens = x.whens from rfl] at hB
    have e0 := hB.cell (i := a.toNat) (v := .int .i64 (x.whens.getD a.toNat 0)) (by
      rw [List.getElem?_append_left (by rw [List.length_map]; omega), List.getElem?_map, List.getD_eq_getElem?_getD, List.getElem?_eq_getElem (show a.toNat < x.whens.length by omega)]
      rfl)
    have e1 := hB.frozen a.toNat
    have HF : Hid (RAt ((w.setCell ⟨x.r, 5, none⟩ (.int .i64 (x.clock + 1))).setCell ⟨b, a.toNat, none⟩ (.int .i64 (x.clock + 1))) (x.touched a) ∧ Touch x.top w ((w.setCell ⟨x.r, 5, none⟩ (.int .i64 (x.clock + 1))).setCell ⟨b, a.toNat, none⟩ (.int .i64 (x.clock + 1)))) := by
      refine ⟨?_, t1.setCell _ _ (Or.inl (RX.mem_h hb'))⟩
      have := h1.stamped hb (j := a.toNat) (by rw [touched_len]; omega) (x.clock + 1)
      have he : ({ x.touched (-1) with whens := (x.touched (-1)).whens.set a.toNat (x.clock + 1) } : RX) = x.touched a := by
        unfold RX.touched
        simp only [if_pos h0]
        rfl
      rw [he] at this
      exact this
    have dr : (x.touched (-1)).r = x.r := rfl
    have dc : (x.touched (-1)).clock = x.clock + 1 := rfl
    have dw : (x.touched (-1)).wcap = x.wcap := rfl
    rw [dr, dw] at d4
    rw [dr, dc] at d5
    generalize x.whens.getD a.toNat 0 = z at *
    have han : (a.toNat : Int) = a := by omega
    clear h h1 t1 hB hb hb' dr dc dw
    go_enter Try.func38, Try.ntmps38
    go_wp2
    clear c5 f5
    generalize w.setCell ⟨x.r, 5, none⟩ (.int .i64 (x.clock + 1)) = w1 at *
    go_region
    go_end0
    exact ⟨rfl, HF.out.1.touch ((Touch.refl [] _).drew) (by simp), HF.out.2.drew⟩
  · have HF : Hid (RAt (w.setCell ⟨x.r, 5, none⟩ (.int .i64 (x.clock + 1))) (x.touched a) ∧ Touch x.top w (w.setCell ⟨x.r, 5, none⟩ (.int .i64 (x.clock + 1)))) := by
      refine ⟨?_, t1⟩
      have he : x.touched (-1) = x.touched a := by
        unfold RX.touched
        rw [if_neg h0]
        rfl
      rw [← he]
      exact h1
    clear h h1 t1
    go_enter Try.func38, Try.ntmps38
    go_wp2
    go_end0
    exact ⟨rfl, HF.out⟩

set_option maxHeartbeats 1000000 in
set_option maxRecDepth 100000 in
theorem fits_any {w : World} {x : RX} (h : RAt w x) (hk3 : x.kind ≠ 3) (sa : Option Addr) (sl sc : Nat) (_hsl : sl ≤ 9223372036854775807) :
    Calls Try.prog 34 #[.pointer (some ⟨x.r, 0, none⟩), .slice sa sl sc] w fun e w' => e = .returned (.bool (decide ((sl : Int) = x.size))) ∧ Touch [] w w' := by
  have c0 := h.c0
  have c1 := h.c1
  have hk : (x.kind != 3) = true := by simpa using hk3
  clear h hk3
  generalize x.kind = kd at *
  generalize x.size = sz at *
  generalize x.r = R at *
  by_cases he : (sl : Int) = sz
  · have he1 : ((sl : Int) == sz) = true := by simpa using he
    rw [decide_eq_true he]
    clear he
    go_enter Try.func34, Try.ntmps34
    go_wp2_with fail
    go_quiet (fail)
    go_wp2
    go_ret
    exact ⟨rfl, (Touch.refl [] w).drewN nq⟩
  · have he1 : ((sl : Int) == sz) = false := by simpa using he
    rw [decide_eq_false he]
    clear he
    go_enter Try.func34, Try.ntmps34
    go_wp2_with fail
    go_quiet (fail)
    go_wp2
    go_ret
    exact ⟨rfl, (Touch.refl [] w).drewN nq⟩

/-- The slot of just that key. -/
def sameN (l : List (Option KS)) (bs : List Int) : Option Nat := l.findIdx? fun s => s.map KS.bs == some bs
def sameI (l : List (Option KS)) (bs : List Int) : Int := match sameN l bs with
  | some i => i
  | none => -1
theorem same_some {l : List (Option KS)} {bs : List Int} {k : Nat} (h1 : ∀ j, j < k → (l.getD j none).map KS.bs ≠ some bs) (hk : k < l.length) (h2 : (l.getD k none).map KS.bs = some bs) : sameI l bs = k := by
  have : sameN l bs = some k := by
    unfold sameN
    rw [List.findIdx?_eq_some_iff_getElem]
    refine ⟨hk, ?_, fun j hj => ?_⟩
    · rw [List.getD_eq_getElem?_getD, List.getElem?_eq_getElem hk] at h2
      simpa using h2
    · have := h1 j hj
      rw [List.getD_eq_getElem?_getD, List.getElem?_eq_getElem (by omega)] at this
      simpa using this
  unfold sameI
  rw [this]
theorem same_none {l : List (Option KS)} {bs : List Int} (h1 : ∀ j, j < l.length → (l.getD j none).map KS.bs ≠ some bs) : sameI l bs = -1 := by
  have : sameN l bs = none := by
    unfold sameN
    rw [List.findIdx?_eq_none_iff]
    intro s hs
    obtain ⟨j, hj, rfl⟩ := List.getElem_of_mem hs
    have := h1 j hj
    rw [List.getD_eq_getElem?_getD, List.getElem?_eq_getElem hj] at this
    simpa using this
  unfold sameI
  rw [this]
theorem same_bd (l : List (Option KS)) (bs : List Int) : -1 ≤ sameI l bs ∧ sameI l bs < l.length ∨ sameI l bs = -1 := by
  unfold sameI
  cases h : sameN l bs with
  | none => exact Or.inr rfl
  | some i =>
    unfold sameN at h
    rw [List.findIdx?_eq_some_iff_getElem] at h
    obtain ⟨hi, _⟩ := h
    exact Or.inl ⟨by show -1 ≤ (i : Int); omega, by show (i : Int) < _; omega⟩

set_option maxHeartbeats 1000000 in
set_option maxRecDepth 100000 in
theorem same_any {w : World} {x : RX} (h : RAt w x) (hk3 : x.kind ≠ 3) (hn : x.slots.length ≤ 1000) {sa : Option Addr} {sl : Nat} {bs : List Int} (hk : KeyAt w sa sl bs) (sc : Nat) :
    Calls Try.prog 35 #[.pointer (some ⟨x.r, 0, none⟩), .slice sa sl sc] w fun e w' => e = .returned (.int .i64 (sameI x.slots bs)) ∧ w' = w := by
  have c0 := h.c0
  have c3 := h.c3
  have hkd : (x.kind == 3) = false := by simpa using hk3
  have hcv := hk.conv sc
  have HH := toHid h
  have HK := toHid hk
  unfold slV at c3
  generalize hsg : (x.g.map fun b => (⟨b, 0, none⟩ : Addr)) = sg at *
  generalize hln : x.slots.length = n at *
  have HL := toHid hln
  have HG := toHid hsg
  clear h hk hk3 hsg hln
  go_enter Try.func35, Try.ntmps35
  go_wp2_with fail
  go_loop [19] (fun t => ∃ k : Nat, k ≤ n ∧ t = .int .i64 k ∧ Hid (∀ j, j < k → (x.slots.getD j none).map KS.bs ≠ some bs)) (fun t => n - (intOf t).toNat)
  case atStart => exact ⟨0, by omega, rfl, fun j hj => absurd hj (by omega)⟩
  case round =>
    obtain ⟨k, hk, rfl, HI⟩ := hrel
    by_cases hlt : k < n
    · have hkl : k < x.slots.length := by rw [HL.out]; exact hlt
      have hget : x.slots[k]? = some (x.slots.getD k none) := by rw [List.getD_eq_getElem?_getD, List.getElem?_eq_getElem hkl]; rfl
      obtain ⟨b, hb, hc⟩ := HH.out.slot hget
      have hsg := HG.out
      rw [hb, Option.map_some] at hsg
      subst hsg
      cases hs : x.slots.getD k none with
      | none =>
        rw [hs] at hc
        unfold slotV at hc
        have HN : Hid (∀ j, j < k + 1 → (x.slots.getD j none).map KS.bs ≠ some bs) := fun j hj => by
          by_cases hjk : j < k
          · exact HI.out j hjk
          · obtain rfl : j = k := by omega
            rw [hs]
            simp
        clear hget hs hkl hb
        go_wp2
        exact ⟨⟨k + 1, by omega, by go_num, HN⟩, by simp [intOf]; omega⟩
      | some ks =>
        rw [hs] at hc
        unfold slotV KS.v at hc
        have hkA := HH.out.keys ks (by rw [hs] at hget; exact List.mem_of_getElem? hget)
        have hcv2 := hkA.key.conv ks.cap
        have hse := str_eq hkA.2.1 HK.out.2.1
        by_cases heq : ks.bs = bs
        · rw [beq_iff_eq.2 heq] at hse
          have HR := toHid (same_some HI.out hkl (by rw [hs, ← heq]; rfl))
          generalize strOfNums ks.bs = A at *
          generalize strOfNums bs = B at *
          clear hget hs hkl hb heq hkA
          go_wp2
          go_ret
          exact ⟨by rw [HR.out]; rfl, rfl⟩
        · rw [beq_false_of_ne heq] at hse
          have HN : Hid (∀ j, j < k + 1 → (x.slots.getD j none).map KS.bs ≠ some bs) := fun j hj => by
            by_cases hjk : j < k
            · exact HI.out j hjk
            · obtain rfl : j = k := by omega
              rw [hs]
              simpa using heq
          generalize strOfNums ks.bs = A at *
          generalize strOfNums bs = B at *
          clear hget hs hkl hb heq hkA
          go_wp2
          exact ⟨⟨k + 1, by omega, by go_num, HN⟩, by simp [intOf]; omega⟩
    · obtain rfl : k = n := by omega
      have HR := toHid (same_none (fun j hj => HI.out j (by rw [← HL.out]; exact hj)))
      go_wp2
      go_ret
      exact ⟨by rw [HR.out]; rfl, rfl⟩
end Go.Proofs.Ytlkbaconlngmjaa
