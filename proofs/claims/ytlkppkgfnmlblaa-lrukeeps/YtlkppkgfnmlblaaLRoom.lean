/-
  Package lru: bySlot, room.
-/
import Derived.Test.YtlkppkgfnmlblaaLFns
namespace Go.Proofs.Ytlkppkgfnmlblaa
open Go.RowKit Go.Maps

set_option maxHeartbeats 2000000 in
set_option maxRecDepth 100000 in
theorem lbySlot_any {w : World} {x : LX} (h : LAt w x) : Calls Try.prog 29 #[.pointer (some ⟨x.X, 0, none⟩)] w fun e w' => e = .returned (.agg (rowS x.l (fun _ => false)).toArray) ∧ Touch [] w w' := by
  have hz := (zero_of_info (P := Try.prog) zero64).1
  have hsz := (zero_of_info (P := Try.prog) zero64).2
  have ht := ((Touch.refl [] w).alloc (.cells (Array.replicate 64 (.string ⟨#[]⟩)) 69)).alloc (.cells (Array.replicate 64 (.string ⟨#[]⟩)) 69)
  have hA := h.still ht
  have c2 := hA.c2
  have hB1 := (Blk.newA w (Array.replicate 64 (.string ⟨#[]⟩)) (List.replicate 64 (.string ⟨#[]⟩)) 69 (by simp)).alloc (.cells (Array.replicate 64 (.string ⟨#[]⟩)) 69)
  have hB2 := Blk.newA (w.alloc (.cells (Array.replicate 64 (.string ⟨#[]⟩)) 69)) (Array.replicate 64 (.string ⟨#[]⟩)) (List.replicate 64 (.string ⟨#[]⟩)) 69 (by simp)
  rw [World.size_alloc] at hB2
  obtain ⟨⟨D, n, ho, hS⟩, hK, hm, hs1, hs16⟩ := hA.map
  have HS := toHid (And.intro hS (And.intro hK (And.intro hm hs16)))
  have HB := toHid (And.intro hB1 (And.intro hB2 (And.intro ht (And.intro (h.lt _ x.mem_X) (h.lt _ x.mem_b)))))
  have HO := toHid ho
  clear hS hK hm hs1 hs16 hB1 hB2 ht hA ho h
  go_enter Try.func29, Try.ntmps29
  go_wp2_with (first
    | (at_range; refine wpList_range_own _ rfl _ 57 rfl 9 3 law9 Try.underlying57 _ x.b n D rfl HO.out ?_; intro w0 hrg0 hg0 hs0)
    | go_in)
  go_frame
  clear c2 hz
  have HR := toHid (And.intro hrg0 (And.intro hg0 hs0))
  have HI : Hid (∃ left cnt, w0.ranges Try.prog 9 (plainElem Try.prog 3) x.b (w.heap.size + 1 + 1) n D left cnt ∧ Blk w0 (w.heap.size + 1) (rowS x.l left) 69 ∧ Blk w0 w.heap.size (List.replicate 64 (.string ⟨#[]⟩)) 69 ∧ Touch [] w w0) := by
    have hT := Touch.of_grown0 HR.out.2.1
    refine ⟨Maps.has D, Maps.size D, ?_, ?_, hT.blk HB.out.1 (by simp), HB.out.2.2.1.trans hT (by simp)⟩
    · have := HR.out.1
      simp only [World.size_alloc] at this
      exact this
    · rw [rowS_start (fun i bs hi => has_true_of_atKey (HS.out.1.at_ i bs hi))]
      exact hT.blk HB.out.2.1 (by simp)
  clear hrg0 hg0 hs0 HR HO
  simp only [World.size_alloc]
  generalize hN : w.heap.size = N at *
  have HN := toHid hN
  go_loopw [4] (fun _ wr => Hid (∃ left cnt, wr.ranges Try.prog 9 (plainElem Try.prog 3) x.b (N + 1 + 1) n D left cnt ∧ Blk wr (N + 1) (rowS x.l left) 69 ∧ Blk wr N (List.replicate 64 (.string ⟨#[]⟩)) 69 ∧ Touch [] w wr)) (fun _ wr => wr.rangeLeft x.b (N + 1 + 1))
  case atStart => exact HI
  case round =>
    clear HI
    obtain ⟨left, cnt, hrg, hbK, hbR, ht⟩ := hrel.out
    have HX := toHid (And.intro hbK (And.intro hbR ht))
    have HG := toHid hrg
    clear hrel hbK hbR ht hrg
    go_wp2_with (first
      | (at_next; refine wpList_next_hm _ rfl _ rfl x.b (N + 1 + 1) n D left cnt rfl HG.out HS.out.1 HS.out.2.2.2 HS.out.2.1 ?_ ?_)
      | go_in)
    · intro hl0
      have hE := rowS_end (l := x.l) hl0
      have hbK := HX.out.1
      rw [hE] at hbK
      go_wp2_with (first
        | (refine wpList_load_row rfl 69 _ rfl (N + 1) rfl 69 _ (0, 0) _ hbK Try.underlying69 rfl (by rw [hsz]; simp [rowS_len]) ?_)
        | (refine wpList_store_row rfl 69 _ _ rfl N _ rfl rfl 69 _ HX.out.2.1 (by rw [hsz]; simp [rowS_len]) (by simp [rowS_len]) (by simp [rowS, Value.oneCell']) ?_)
        | go_in)
      refine bodyPost_ret (v := .agg (rowS x.l fun _ => false).toArray) (results_cell_row (fn := Try.f29) Try.results29 _ _ N 69 _ (0, 0) _ (by rfl) (HX.out.2.1.setRow _) Try.underlying69 rfl (by rw [hsz]; simp [rowS_len])) rfl ⟨rfl, ?_⟩
      exact HX.out.2.2.setRow _ _ (Or.inr (by rw [HN.out]; omega))
    · intro i bs w1 cnt1 hi hrg1 hlt ht1 hs1 hat hen
      have hi64 : i < 64 := by have := (List.getElem?_eq_some_iff.1 hi).1; have := HS.out.2.2.1; omega
      have hbK := ht1.blk HX.out.1 (by simp)
      have hbR := ht1.blk HX.out.2.1 (by simp; omega)
      have hlN := HB.out.2.2.2.2
      have hcc := hbK.cellN (i := i) (by rw [rowS_len]; exact hi64)
      have hfz := hbK.frozen i
      generalize hcv : (rowS x.l left)[i]'(by rw [rowS_len]; exact hi64) = cv at hcc
      have HN2 : Hid (∃ left' cnt', (w1.setCell ⟨N + 1, i, none⟩ (.string (strOfNums bs))).ranges Try.prog 9 (plainElem Try.prog 3) x.b (N + 1 + 1) n D left' cnt' ∧ Blk (w1.setCell ⟨N + 1, i, none⟩ (.string (strOfNums bs))) (N + 1) (rowS x.l left') 69 ∧ Blk (w1.setCell ⟨N + 1, i, none⟩ (.string (strOfNums bs))) N (List.replicate 64 (.string ⟨#[]⟩)) 69 ∧ Touch [] w (w1.setCell ⟨N + 1, i, none⟩ (.string (strOfNums bs))) ∧ cnt' < cnt) := by
        have hgs : w1.grownBy (w1.setCell ⟨N + 1, i, none⟩ (.string (strOfNums bs))) (some (N + 1)) := by
          have := (Touch.refl [N + 1] w1).setCell ⟨N + 1, i, none⟩ (.string (strOfNums bs)) (Or.inl (by simp))
          exact ⟨this.os, this.tape, this.output, this.size, fun k hk hn => this.block k hk (fun hx => hn (by simp at hx; rw [hx]))⟩
        refine ⟨_, cnt1, hrg1.kept hgs (fun e => by injection e with e; omega) (fun e => by injection e with e; omega), ?_, hbR.setCell_other _ _ (by show N ≠ N + 1; omega), ?_, hlt⟩
        · rw [rowS_step HS.out.1 HS.out.2.1 hi]
          exact hbK.setCell i _
        · exact (HX.out.2.2.trans ht1 (fun y hy => Or.inr (by simp at hy; rw [HN.out]; omega))).setCell _ _ (Or.inr (by show w.heap.size ≤ N + 1; rw [HN.out]; omega))
      generalize strOfNums bs = A at *
      clear hrg1 ht1 hs1 hat hbK hbR hcv hi hlN
      go_wp2
      obtain ⟨l', c', a1, a2, a3, a4, a5⟩ := HN2.out
      exact ⟨⟨l', c', a1, a2, a3, a4⟩, by rw [a1.left_eq, HG.out.left_eq]; exact a5⟩

/-- The slot of a new key; what is held then. -/
def roomN (l : List (Option (List Int))) (ord : List Nat) : Nat := match freeP l with
  | some f => f
  | none => ord.headD 0
def roomL (l : List (Option (List Int))) (ord : List Nat) : List (Option (List Int)) := match freeP l with
  | some _ => l
  | none => l.set (ord.headD 0) none
/-- A world in which the map is turned. -/
theorem LAt.mapped {w w' : World} {x : LX} (h : LAt w x) (l : List (Option (List Int))) (hl : l.length = x.l.length) (hm : HM w' x.b x.size l) (ht : Touch [x.b] w w') : LAt w' { x with l := l } :=
  ⟨by show Blk w' x.X [.int .i64 (x.size : Int), .int .i64 (l.length : Int), .map (some x.b), slV x.g x.ord.length x.cap] 60; rw [hl]; exact ht.blk h.self (by simpa using h.Xb), hm, h.row.touch ht (fun c hc hx => by simp at hx; exact (h.Xg hc).2 hx.symm), by show 1 ≤ l.length; rw [hl]; exact h.m1, h.few, h.apart⟩
def RoomPost (w : World) (x : LX) (e : Ending) (w' : World) : Prop := e = .returned (.int .i64 (roomN x.l x.ord : Int)) ∧ LAt w' { x with l := roomL x.l x.ord } ∧ Touch x.own w w'
set_option maxHeartbeats 2000000 in
set_option maxRecDepth 100000 in
theorem room_any {w : World} {x : LX} (h : LAt w x) (hok : freeP x.l = none → ∃ o bs, x.ord.head? = some o ∧ x.l[o]? = some (some bs)) : Calls Try.prog 31 #[.pointer (some ⟨x.X, 0, none⟩)] w (RoomPost w x) := by
  have hz := (zero_of_info (P := Try.prog) zero64).1
  have hsz := (zero_of_info (P := Try.prog) zero64).2
  have H1 := toHid (lbySlot_any h)
  have HH := toHid h
  have hm1 := h.map.many
  generalize hM : x.l.length = m at *
  have HM := toHid hM
  have HOK := toHid hok
  clear h hM hok
  go_enter Try.func31, Try.ntmps31
  go_wp2_with fail
  refine Calls.mono H1.out ?_
  rintro e w2 ⟨rfl, ht2⟩
  have hB := Blk.newA w2 (Array.replicate 64 (.string ⟨#[]⟩)) (List.replicate 64 (.string ⟨#[]⟩)) 69 (by simp)
  have hT := (ht2.alloc (.cells (Array.replicate 64 (.string ⟨#[]⟩)) 69)).setRow w2.heap.size (rowS x.l fun _ => false).toArray (Or.inr ht2.size)
  have hR := hB.setRow (rowS x.l fun _ => false)
  have c1 := (HH.out.still hT).c1
  rw [HM.out] at c1
  have HB := toHid hB
  have HT := toHid hT
  have HR := toHid hR
  clear hB hT hR H1 ht2
  go_wp2_with (first
    | (refine wpList_store_row rfl 69 _ _ rfl w2.heap.size _ rfl rfl 69 _ HB.out (by rw [hsz]; simp [rowS_len]) (by simp [rowS_len]) (by simp [rowS, Value.oneCell']) ?_)
    | go_in)
  generalize (w2.alloc (Obj.cells (Array.replicate 64 (Value.string { data := #[] })) 69)).setRow w2.heap.size (rowS x.l fun _ => false).toArray = w3 at *
  generalize w2.heap.size = N at *
  clear c1 HB hz hsz
  generalize hRS : (rowS x.l fun _ => false).toArray = rs at *
  clear hRS
  go_loop [12] (fun t => ∃ k : Nat, k ≤ m ∧ t = .int .i64 k ∧ Hid (∀ j, j < k → (x.l.getD j none).isSome = true)) (fun t => m - (intOf t).toNat)
  case atStart => exact ⟨0, by omega, rfl, fun j hj => absurd hj (by omega)⟩
  case round =>
    obtain ⟨k, hk, rfl, HI⟩ := hrel
    by_cases hlt : k < m
    · have hcell := HR.out.cell (row_cell (l := x.l) (k := k) (by omega))
      have hkl : k < x.l.length := by rw [HM.out]; exact hlt
      have hk64 : k < 64 := by omega
      have hkm : (k : Int) < m := by omega
      cases hs : x.l.getD k none with
      | none =>
        rw [hs] at hcell
        unfold slotS at hcell
        have HF := toHid (free_some HI.out hkl hs)
        clear hs hkl HI
        go_wp2
        go_ret
        refine ⟨?_, ?_, HT.out.nil⟩
        · unfold roomN
          rw [HF.out]
          rfl
        · unfold roomL
          rw [HF.out]
          exact HH.out.still HT.out
      | some bs =>
        rw [hs] at hcell
        have hmem : some bs ∈ x.l := by
          rw [List.getD_eq_getElem?_getD, List.getElem?_eq_getElem hkl] at hs
          simp only [Option.getD_some] at hs
          rw [← hs]
          exact List.getElem_mem hkl
        have hfull := str_full (bs := bs) (by rw [(HH.out.map.keys bs hmem).2]; exact HH.out.map.s1)
        have hcell' : w3.cell? ⟨N, k, none⟩ = some (.string (strOfNums bs)) := hcell
        have HN : Hid (∀ j, j < k + 1 → (x.l.getD j none).isSome = true) := fun j hj => by
          by_cases hjk : j < k
          · exact HI.out j hjk
          · obtain rfl : j = k := by omega
            rw [hs]
            rfl
        generalize strOfNums bs = A at *
        clear hs hkl HI hcell hmem
        go_wp2
        exact ⟨⟨k + 1, by omega, by go_num, HN⟩, by simp [intOf]; omega⟩
    · obtain rfl : k = m := by omega
      have hfr := free_none (l := x.l) (fun j hj => HI.out j (by rw [← HM.out]; exact hj))
      obtain ⟨o, bs, hhd, hg⟩ := HOK.out hfr
      have hA3 := HH.out.still HT.out
      have hol : o < x.l.length := (List.getElem?_eq_some_iff.1 hg).1
      have hlen : 0 < x.ord.length := by
        cases ho : x.ord with
        | nil => rw [ho] at hhd; cases hhd
        | cons a r => simp
      have hod : x.ord.getD 0 0 = o := by
        cases ho : x.ord with
        | nil => rw [ho] at hhd; cases hhd
        | cons a r => rw [ho] at hhd; simpa using hhd
      have hoh : x.ord.headD 0 = o := by
        cases ho : x.ord with
        | nil => rw [ho] at hhd; cases hhd
        | cons a r => rw [ho] at hhd; simpa using hhd
      obtain ⟨cb, rest, hgc, hB, _⟩ := hA3.row.at_ hlen
      have hrow := hA3.row
      rw [hgc] at hrow
      have hcell := hrow.cell hlen
      rw [hod] at hcell
      have c3 := hA3.c3
      have hkey := HR.out.cell (row_cell (l := x.l) (k := o) (by have := HM.out; omega))
      rw [List.getD_eq_getElem?_getD, hg] at hkey
      have hkey' : w3.cell? ⟨N, o, none⟩ = some (.string (strOfNums bs)) := hkey
      have hd := (Touch.refl [] w3).drew
      have d2 := (hA3.still hd).c2
      obtain ⟨w4, hdr, hM4, ht4⟩ := (hA3.still hd).map.drop hg 0
      have HF : Hid (RoomPost w x (.returned (.int .i64 (o : Int))) w4) := by
        have hrn : roomN x.l x.ord = o := by unfold roomN; rw [hfr]; exact hoh
        have hrl : roomL x.l x.ord = x.l.set o none := by unfold roomL; rw [hfr, ← hoh]
        refine ⟨by rw [hrn], ?_, (HT.out.trans hd (by simp)).nil.trans (ht4.mono (S' := x.own) (fun y hy => Or.inl (by simp at hy; rw [hy]; exact x.mem_b))) (fun y hy => Or.inl hy)⟩
        rw [hrl]
        exact (hA3.still hd).mapped _ (by simp) hM4 ht4
      have hoi : (o : Int) < 64 := by have := HM.out; omega
      have hli : (0 : Int) < x.ord.length := by omega
      rw [hgc] at c3
      unfold slV at c3
      simp only [Option.map_some] at c3
      generalize strOfNums bs = A at *
      generalize x.ord.length = ol at *
      clear hfr hhd hg hA3 hol hod hoh hB hrow hgc hM4 ht4 hkey HI HR hd
      go_wp2_with fail
      go_region
      go_wp2
      go_ret
      exact HF.out
end Go.Proofs.Ytlkppkgfnmlblaa
