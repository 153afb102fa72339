/-
  Package hash: the keys by their slots.
-/
import Derived.Test.YtlkppkgfnmlblaaMap
import Derived.Deep.WholeRow
namespace Go.Proofs.Ytlkppkgfnmlblaa
open Go.RowKit Go.Maps

/-- A hash, in memory. -/
structure HX where
  X : Nat
  b : Nat
  size : Nat
  l : List (Option (List Int))
structure HAt (w : World) (x : HX) : Prop where
  self : Blk w x.X [.int .i64 (x.size : Int), .int .i64 (x.l.length : Int), .map (some x.b)] 75
  map : HM w x.b x.size x.l
  m1 : 1 ≤ x.l.length
  ne : x.X ≠ x.b
theorem HAt.touch {S : List Nat} {w w' : World} {x : HX} (h : HAt w x) (ht : Touch S w w') (hX : x.X ∉ S) (hb : x.b ∉ S) : HAt w' x := ⟨ht.blk h.self hX, h.map.touch ht hb, h.m1, h.ne⟩
theorem HAt.c0 {w : World} {x : HX} (h : HAt w x) : w.cell? ⟨x.X, 0, none⟩ = some (.int .i64 (x.size : Int)) := h.self.cell rfl
theorem HAt.c1 {w : World} {x : HX} (h : HAt w x) : w.cell? ⟨x.X, 1, none⟩ = some (.int .i64 (x.l.length : Int)) := h.self.cell rfl
theorem HAt.c2 {w : World} {x : HX} (h : HAt w x) : w.cell? ⟨x.X, 2, none⟩ = some (.map (some x.b)) := h.self.cell rfl

/-- The text of a slot whose key is no longer to come. -/
def slotS (left : Lit → Bool) : Option (List Int) → ByteArray
  | some bs => if left (lk bs) then ⟨#[]⟩ else strOfNums bs
  | none => ⟨#[]⟩
def rowS (l : List (Option (List Int))) (left : Lit → Bool) : List Value := (List.range 64).map fun j => .string (slotS left (l.getD j none))
theorem rowS_len (l : List (Option (List Int))) (left : Lit → Bool) : (rowS l left).length = 64 := by simp [rowS]
theorem zero64 : (Try.prog.info? 69).map (fun i => (i.zero, i.size)) = some (some (.agg (Array.replicate 64 (.string ⟨#[]⟩))), 64) := by kernel_rfl

theorem rowS_start {l : List (Option (List Int))} {left : Lit → Bool} (h : ∀ (i : Nat) (bs : List Int), l[i]? = some (some bs) → left (lk bs) = true) : rowS l left = List.replicate 64 (.string ⟨#[]⟩) := by
  apply List.ext_getElem
  · simp [rowS]
  · intro j h1 h2
    simp only [rowS, List.getElem_map, List.getElem_range, List.getElem_replicate]
    congr 1
    cases hj : l.getD j none with
    | none => rfl
    | some bs =>
      have : l[j]? = some (some bs) := by
        rw [List.getD_eq_getElem?_getD] at hj
        cases hq : l[j]? with
        | none => rw [hq] at hj; cases hj
        | some o => rw [hq] at hj; exact congrArg some hj
      show (if left (lk bs) = true then (⟨#[]⟩ : ByteArray) else strOfNums bs) = _
      rw [if_pos (h j bs this)]
theorem rowS_end {l : List (Option (List Int))} {left : Lit → Bool} (h : ∀ kl, left kl = false) : rowS l left = rowS l (fun _ => false) := by
  have : left = fun _ => false := funext h
  rw [this]
theorem rowS_step {D : DataW Unit} {l : List (Option (List Int))} (hS : Says D l) {n : Nat} (hK : KeysOk n l) {left : Lit → Bool} {i : Nat} {bs : List Int} (hi : l[i]? = some (some bs)) :
    rowS l (fun z => left z && !z.sameKey (lk bs)) = (rowS l left).set i (.string (strOfNums bs)) := by
  apply List.ext_getElem
  · simp [rowS]
  · intro j h1 h2
    rw [List.getElem_set]
    simp only [rowS, List.getElem_map, List.getElem_range]
    by_cases e : i = j
    · subst e
      rw [if_pos rfl, List.getD_eq_getElem?_getD, hi]
      simp [slotS, WideAt.sameKey_self (lk_isKey bs)]
    · rw [if_neg e]
      congr 1
      cases hj : l.getD j none with
      | none => rfl
      | some bs' =>
        have hj' : l[j]? = some (some bs') := by
          rw [List.getD_eq_getElem?_getD] at hj
          cases hq : l[j]? with
          | none => rw [hq] at hj; cases hj
          | some o => rw [hq] at hj; exact congrArg some hj
        have hne : lk bs' ≠ lk bs := fun e2 => by
          have := lk_inj (hK bs' (List.mem_of_getElem? hj')).1 (hK bs (List.mem_of_getElem? hi)).1 e2
          subst this
          exact e (hS.once hi hj')
        simp [slotS, sameKey_ne hne]

/-- The step of a range over such a map. -/
theorem wpList_next_hm (w : World) {ops : Array Oper} {rest : List Oper} {o : Oper} {a : Act} {Q : Exit → Act → World → Prop} (hg : o.guard = none) (it : Operand) (hop : o.op = Op.next it false)
    (b r n : Nat) (D : DataW Unit) (left : Lit → Bool) (cnt : Nat) (hit : a.eval it = .pointer (some ⟨r, 0, none⟩)) (h : w.ranges Try.prog 9 (plainElem Try.prog 3) b r n D left cnt)
    {l : List (Option (List Int))} (hS : Says D l) {q : Nat} (hq : q ≤ 16) (hK : KeysOk q l)
    (hDone : (∀ kl, left kl = false) → wpList Try.prog ops Q rest (a.put o.dst (.tuple #[.bool false])) w)
    (hMore : ∀ (i : Nat) (bs : List Int) (w' : World) (cnt' : Nat), l[i]? = some (some bs) → w'.ranges Try.prog 9 (plainElem Try.prog 3) b r n D (fun z => left z && !z.sameKey (lk bs)) cnt' → cnt' < cnt → Touch [r] w w' → w'.heap.size = w.heap.size →
      (∀ zd, D.atKey (lk bs) zd = .lit (.int .i64 i)) → (Instr.entry (.pointer (some ⟨r, 0, none⟩))).run Try.prog w' = .ok (.tuple #[.string (strOfNums bs), .int .i64 i]) w' → wpList Try.prog ops Q rest (a.put o.dst (.tuple #[.bool true, .string (strOfNums bs), .int .i64 i])) w') :
    wpList Try.prog ops Q (o :: rest) a w := by
  refine wpList_next_ranges w hg it hop 9 law9 (plainElem Try.prog 3) Value.string (Value.int .i64) (fun key kl hkey => ?_) (fun v y hv => ?_) b r n D left cnt hit h (fun _ h0 => hDone h0) (fun x c kl y w' cnt' hkey hlk hv hat hrg hlt hgr hsz hen => ?_)
  · cases key <;> simp [keyOf, Try.underlying9, mapKey] at hkey
    exact ⟨_, rfl⟩
  · obtain ⟨c, rfl, _⟩ := plainElem_int_inv Try.underlying3 hv
    exact ⟨c, rfl⟩
  · obtain ⟨i, bs, hi, rfl⟩ := hS.has _ (has_true_of_atKey hat)
    have hx := law9.inj hkey (lk_key (bs := bs) (by have := (hK bs (List.mem_of_getElem? hi)).2; omega))
    injection hx with hx
    subst hx
    obtain ⟨c', ec, rfl, _⟩ := plainElem_int_inv Try.underlying3 hv
    injection ec with _ ec
    subst ec
    have h1 := hat .nil
    rw [hS.at_ i bs hi .nil] at h1
    injection h1 with h1
    injection h1 with _ h1
    subst h1
    exact hMore i bs w' cnt' hi hrg hlt (Touch.of_grown hgr) hsz hat hen

theorem HAt.lt {w : World} {x : HX} (h : HAt w x) : x.X < w.heap.size ∧ x.b < w.heap.size := ⟨h.self.lt, h.map.lt⟩

set_option maxHeartbeats 2000000 in
set_option maxRecDepth 100000 in
theorem bySlot_any {w : World} {x : HX} (h : HAt w x) : Calls Try.prog 36 #[.pointer (some ⟨x.X, 0, none⟩)] w fun e w' => e = .returned (.agg (rowS x.l (fun _ => false)).toArray) ∧ Touch [] w w' := by
  have hz := (zero_of_info (P := Try.prog) zero64).1
  have hsz := (zero_of_info (P := Try.prog) zero64).2
  have ht := ((Touch.refl [] w).alloc (.cells (Array.replicate 64 (.string ⟨#[]⟩)) 69)).alloc (.cells (Array.replicate 64 (.string ⟨#[]⟩)) 69)
  have hA := h.touch ht (by simp) (by simp)
  have c2 := hA.c2
  have hB1 := (Blk.newA w (Array.replicate 64 (.string ⟨#[]⟩)) (List.replicate 64 (.string ⟨#[]⟩)) 69 (by simp)).alloc (.cells (Array.replicate 64 (.string ⟨#[]⟩)) 69)
  have hB2 := Blk.newA (w.alloc (.cells (Array.replicate 64 (.string ⟨#[]⟩)) 69)) (Array.replicate 64 (.string ⟨#[]⟩)) (List.replicate 64 (.string ⟨#[]⟩)) 69 (by simp)
  rw [World.size_alloc] at hB2
  obtain ⟨⟨D, n, ho, hS⟩, hK, hm, hs1, hs16⟩ := hA.map
  have HS := toHid (And.intro hS (And.intro hK (And.intro hm hs16)))
  have HB := toHid (And.intro hB1 (And.intro hB2 (And.intro ht h.lt)))
  have HO := toHid ho
  clear hS hK hm hs1 hs16 hB1 hB2 ht hA ho h
  go_enter Try.func36, Try.ntmps36
  go_wp2_with (first
    | (at_range; refine wpList_range_own _ rfl _ 57 rfl 9 3 law9 Try.underlying57 _ x.b n D rfl HO.out ?_; intro w0 hrg0 hg0 hs0)
    | go_in)
  go_frame
  clear c2 hz
  have HR := toHid (And.intro hrg0 (And.intro hg0 hs0))
  have HI : Hid (∃ left cnt, w0.ranges Try.prog 9 (plainElem Try.prog 3) x.b (w.heap.size + 1 + 1) n D left cnt ∧ Blk w0 (w.heap.size + 1) (rowS x.l left) 69 ∧ Blk w0 w.heap.size (List.replicate 64 (.string ⟨#[]⟩)) 69 ∧ Touch [] w w0) := by
    have hT := Touch.of_grown0 HR.out.2.1
    refine ⟨Maps.has D, Maps.size D, ?_, ?_, hT.blk HB.out.1 (by simp), HB.out.2.2.1.trans hT (by simp)⟩
    · have := HR.out.1
      simp only [World.size_alloc] at this
      exact this
    · rw [rowS_start (fun i bs hi => has_true_of_atKey (HS.out.1.at_ i bs hi))]
      exact hT.blk HB.out.2.1 (by simp)
  clear hrg0 hg0 hs0 HR HO
  simp only [World.size_alloc]
  generalize hN : w.heap.size = N at *
  have HN := toHid hN
  go_loopw [4] (fun _ wr => Hid (∃ left cnt, wr.ranges Try.prog 9 (plainElem Try.prog 3) x.b (N + 1 + 1) n D left cnt ∧ Blk wr (N + 1) (rowS x.l left) 69 ∧ Blk wr N (List.replicate 64 (.string ⟨#[]⟩)) 69 ∧ Touch [] w wr)) (fun _ wr => wr.rangeLeft x.b (N + 1 + 1))
  case atStart => exact HI
  case round =>
    clear HI
    obtain ⟨left, cnt, hrg, hbK, hbR, ht⟩ := hrel.out
    have HX := toHid (And.intro hbK (And.intro hbR ht))
    have HG := toHid hrg
    clear hrel hbK hbR ht hrg
    go_wp2_with (first
      | (at_next; refine wpList_next_hm _ rfl _ rfl x.b (N + 1 + 1) n D left cnt rfl HG.out HS.out.1 HS.out.2.2.2 HS.out.2.1 ?_ ?_)
      | go_in)
    · intro hl0
      have hE := rowS_end (l := x.l) hl0
      have hbK := HX.out.1
      rw [hE] at hbK
      go_wp2_with (first
        | (refine wpList_load_row rfl 69 _ rfl (N + 1) rfl 69 _ (0, 0) _ hbK Try.underlying69 rfl (by rw [hsz]; simp [rowS_len]) ?_)
        | (refine wpList_store_row rfl 69 _ _ rfl N _ rfl rfl 69 _ HX.out.2.1 (by rw [hsz]; simp [rowS_len]) (by simp [rowS_len]) (by simp [rowS, Value.oneCell']) ?_)
        | go_in)
      refine bodyPost_ret (v := .agg (rowS x.l fun _ => false).toArray) (results_cell_row (fn := Try.f36) Try.results36 _ _ N 69 _ (0, 0) _ (by rfl) (HX.out.2.1.setRow _) Try.underlying69 rfl (by rw [hsz]; simp [rowS_len])) rfl ⟨rfl, ?_⟩
      exact HX.out.2.2.setRow _ _ (Or.inr (by rw [HN.out]; omega))
    · intro i bs w1 cnt1 hi hrg1 hlt ht1 hs1 hat hen
      have hi64 : i < 64 := by have := (List.getElem?_eq_some_iff.1 hi).1; have := HS.out.2.2.1; omega
      have hbK := ht1.blk HX.out.1 (by simp)
      have hbR := ht1.blk HX.out.2.1 (by simp; omega)
      have hlN := HB.out.2.2.2.2
      have hcc := hbK.cellN (i := i) (by rw [rowS_len]; exact hi64)
      have hfz := hbK.frozen i
      generalize hcv : (rowS x.l left)[i]'(by rw [rowS_len]; exact hi64) = cv at hcc
      have HN2 : Hid (∃ left' cnt', (w1.setCell ⟨N + 1, i, none⟩ (.string (strOfNums bs))).ranges Try.prog 9 (plainElem Try.prog 3) x.b (N + 1 + 1) n D left' cnt' ∧ Blk (w1.setCell ⟨N + 1, i, none⟩ (.string (strOfNums bs))) (N + 1) (rowS x.l left') 69 ∧ Blk (w1.setCell ⟨N + 1, i, none⟩ (.string (strOfNums bs))) N (List.replicate 64 (.string ⟨#[]⟩)) 69 ∧ Touch [] w (w1.setCell ⟨N + 1, i, none⟩ (.string (strOfNums bs))) ∧ cnt' < cnt) := by
        have hgs : w1.grownBy (w1.setCell ⟨N + 1, i, none⟩ (.string (strOfNums bs))) (some (N + 1)) := by
          have := (Touch.refl [N + 1] w1).setCell ⟨N + 1, i, none⟩ (.string (strOfNums bs)) (Or.inl (by simp))
          exact ⟨this.os, this.tape, this.output, this.size, fun k hk hn => this.block k hk (fun hx => hn (by simp at hx; rw [hx]))⟩
        refine ⟨_, cnt1, hrg1.kept hgs (fun e => by injection e with e; omega) (fun e => by injection e with e; omega), ?_, hbR.setCell_other _ _ (by show N ≠ N + 1; omega), ?_, hlt⟩
        · rw [rowS_step HS.out.1 HS.out.2.1 hi]
          exact hbK.setCell i _
        · exact (HX.out.2.2.trans ht1 (fun y hy => Or.inr (by simp at hy; rw [HN.out]; omega))).setCell _ _ (Or.inr (by show w.heap.size ≤ N + 1; rw [HN.out]; omega))
      generalize strOfNums bs = A at *
      clear hrg1 ht1 hs1 hat hbK hbR hcv hi hlN
      go_wp2
      obtain ⟨l', c', a1, a2, a3, a4, a5⟩ := HN2.out
      exact ⟨⟨l', c', a1, a2, a3, a4⟩, by rw [a1.left_eq, HG.out.left_eq]; exact a5⟩
end Go.Proofs.Ytlkppkgfnmlblaa
