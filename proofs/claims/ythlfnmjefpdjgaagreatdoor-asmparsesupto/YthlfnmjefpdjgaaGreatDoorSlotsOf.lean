/-
  What slotsOf answers: a line's slots.
-/
import Derived.Test.YthlfnmjefpdjgaaGreatDoorStep
import Derived.Test.YthlfnmjefpdjgaaGreatDoorRow5
namespace Go.Proofs.YthlfnmjefpdjgaaGreatDoor
open Go.RowKit

theorem sizFrom_bd (e : Bs) : ∀ (l : List Bs) (j r : Nat), sizFrom e j l = some r → r < j + l.length
  | [], j, r, h => by simp [sizFrom] at h
  | s :: l, j, r, h => by
    unfold sizFrom at h
    split at h
    · cases h; simp
    · have := sizFrom_bd e l (j + 1) r h
      simp only [List.length_cons]; omega
theorem accFrom_bd (name : Bs) : ∀ (l : List Bs) (i : Nat) (op : Int), accFrom name i l = some op → 97 ≤ op ∧ op ≤ 121 + i + l.length
  | [], i, op, h => by simp [accFrom] at h
  | a :: l, i, op, h => by
    have ih := accFrom_bd name l (i + 1) op
    unfold accFrom at h
    simp only [List.length_cons]
    split at h
    · split at h
      · rename_i j hj
        cases h
        have := sizFrom_bd _ sizN 0 j hj
        simp [sizN] at this
        omega
      · have := ih h
        omega
    · have := ih h
      omega
theorem aluFrom_bd (e : Bs) : ∀ (l : List Bs) (j r : Nat), aluFrom e j l = some r → r < j + l.length
  | [], j, r, h => by simp [aluFrom] at h
  | s :: l, j, r, h => by
    unfold aluFrom at h
    split at h
    · cases h; simp
    · have := aluFrom_bd e l (j + 1) r h
      simp only [List.length_cons]; omega
theorem jmpFrom_bd (e : Bs) (c : Int) : ∀ (l : List Bs) (j r : Nat), jmpFrom e c j l = some r → r < j + l.length
  | [], j, r, h => by simp [jmpFrom] at h
  | s :: l, j, r, h => by
    unfold jmpFrom at h
    split at h
    · cases h; simp
    · have := jmpFrom_bd e c l (j + 1) r h
      simp only [List.length_cons]; omega
theorem kindE_bd (a j : Int) (e : Bs) (op : Int) (ha : 0 ≤ a ∧ a ≤ 7) (hj : 0 ≤ j ∧ j ≤ 7) (h : kindE a j e = some op) : 0 ≤ op ∧ op ≤ 255 := by
  unfold kindE at h
  split at h
  · rename_i k hk
    cases h
    have := aluFrom_bd e aluN 0 k hk
    simp [aluN] at this
    omega
  · split at h
    · rename_i k hk
      cases h
      have := jmpFrom_bd e j jmpN 0 k hk
      simp [jmpN] at this
      omega
    · cases h
theorem nameP_op {name : Bs} {i : In} (h : nameP name = some i) : 0 ≤ i.op ∧ i.op ≤ 255 := by
  unfold nameP at h
  split at h
  · cases h; simp
  split at h
  · cases h; simp
  split at h
  · cases h; simp
  split at h
  · rename_i op hop
    cases h
    have := accFrom_bd name accN 0 op hop
    simp [accN] at this
    simp only
    omega
  · split at h
    · rename_i op hop
      cases h
      unfold kindP at hop
      split at hop
      · exact kindE_bd _ _ _ _ (by omega) (by omega) hop
      · exact kindE_bd _ _ _ _ (by omega) (by omega) hop
    · cases h

/-- The slots, the words left, and whether a word was bad. -/
structure St where
  L : List In
  ws : List Bs
  bad : Bool
def stepL (s : St) (f : Nat) : St := ⟨if f = 5 then splitOf (s.L.headD In.zero).dst (s.L.headD In.zero).src ((natP (hd s.ws)).getD 0 : Nat) else [stepI f (hd s.ws) (s.L.headD In.zero)], tl s.ws, s.bad || stepB f (hd s.ws)⟩
def runL (fs : List Nat) (s : St) : St := fs.foldl stepL s
/-- A line's slots, by its words. -/
def slotsW : List Bs → Option (List In)
  | [] => some []
  | name :: rest => if name.head? = some 35 then some [] else match nameP name with
    | none => none
    | some i => if (runL (fieldsP i.op) ⟨[i], rest, false⟩).bad = true ∨ (runL (fieldsP i.op) ⟨[i], rest, false⟩).ws ≠ [] then none else some (runL (fieldsP i.op) ⟨[i], rest, false⟩).L
theorem slotsW_name (name : Bs) (rest : List Bs) (h : name.head? ≠ some 35) : slotsW (name :: rest) = match nameP name with
    | none => none
    | some i => if (runL (fieldsP i.op) ⟨[i], rest, false⟩).bad = true ∨ (runL (fieldsP i.op) ⟨[i], rest, false⟩).ws ≠ [] then none else some (runL (fieldsP i.op) ⟨[i], rest, false⟩).L := by
  rw [slotsW, if_neg h]
theorem runL_take (fs : List Nat) (s : St) (k f : Nat) (h : fs[k]? = some f) : runL (fs.take (k + 1)) s = stepL (runL (fs.take k) s) f := by
  unfold runL
  rw [List.take_add_one, h]
  simp [List.foldl_append]
theorem orR_bd (op : Int) (h0 : 0 ≤ op) (h1 : op ≤ 255) : 0 ≤ orR op ∧ orR op ≤ 255 := by
  unfold orR
  split <;> omega
theorem stepI_op (f : Nat) (x : Bs) (i : In) (h0 : 0 ≤ i.op) (h1 : i.op ≤ 255) : 0 ≤ (stepI f x i).op ∧ (stepI f x i).op ≤ 255 := by
  unfold stepI
  split
  · exact ⟨h0, h1⟩
  split
  · exact ⟨h0, h1⟩
  split
  · split
    · exact orR_bd _ h0 h1
    · exact ⟨h0, h1⟩
  split
  · exact ⟨h0, h1⟩
  · exact ⟨h0, h1⟩
/-- As long as no number of 64 bits has come, there is one slot. -/
theorem runL_one : ∀ (fs : List Nat) (i : In) (ws : List Bs) (bad : Bool), 5 ∉ fs → 0 ≤ i.op → i.op ≤ 255 → ∃ i', (runL fs ⟨[i], ws, bad⟩).L = [i'] ∧ 0 ≤ i'.op ∧ i'.op ≤ 255
  | [], i, ws, bad, _, h0, h1 => ⟨i, rfl, h0, h1⟩
  | f :: fs, i, ws, bad, h5, h0, h1 => by
    have hf : ¬ f = 5 := fun e => h5 (by simp [e])
    have hs := stepI_op f (hd ws) i h0 h1
    have := runL_one fs (stepI f (hd ws) i) (tl ws) (bad || stepB f (hd ws)) (fun m => h5 (by simp [m])) hs.1 hs.2
    simpa [runL, stepL, hf] using this
theorem fields_bd (op : Int) : ∀ f ∈ fieldsP op, f ≤ 5 := by
  unfold fieldsP jumpF
  intro f hf
  repeat' split at hf
  all_goals (simp at hf; try omega)
theorem fields_last (op : Int) (k : Nat) (h : k < (fieldsP op).length) : 5 ∉ (fieldsP op).take k := by
  revert h
  unfold fieldsP jumpF
  repeat' split
  all_goals
    intro h
    simp only [List.length_cons, List.length_nil] at h
    first
      | omega
      | (rcases (by omega : k = 0 ∨ k = 1 ∨ k = 2) with rfl | rfl | rfl <;> first | omega | simp)

/-- Slots in memory. -/
def InsAt (w : World) (a : Option Addr) (L : List In) : Prop := L = [] ∧ a = none ∨ ∃ b, a = some ⟨b, 0, none⟩ ∧ w.heap.size > b ∧ Blk w b (L.flatMap In.cells) 41
def SlotPost (w : World) (r : Option (List In)) (e : Ending) (w' : World) : Prop := Touch [] w w' ∧ ((r = none ∧ e = .returned (.tuple #[.slice none 0 0, .bool false])) ∨
  ∃ L a, r = some L ∧ e = .returned (.tuple #[.slice a L.length L.length, .bool true]) ∧ InsAt w' a L)

theorem parse_step (f : Nat) (hf : f ≤ 5) (sb wb : Nat) (i : In) (ws : List Bs) (bad : Bool) (w : World) (hE : Env w) (hi : Blk w sb ([i].flatMap In.cells) 41) (hW : WS w wb ws bad) (hne : sb ≠ wb) (h12 : 12 ≤ sb) (q0 : 0 ≤ i.op) (q1 : i.op ≤ 255) :
    Calls Tryz.prog 42 #[.int .i64 (f : Int), .slice (some ⟨sb, 0, none⟩) 1 1, .pointer (some ⟨wb, 0, none⟩)] w fun e w' => ∃ sb', e = .returned (.slice (some ⟨sb', 0, none⟩) (stepL ⟨[i], ws, bad⟩ f).L.length (stepL ⟨[i], ws, bad⟩ f).L.length) ∧
      Blk w' sb' ((stepL ⟨[i], ws, bad⟩ f).L.flatMap In.cells) 41 ∧ WS w' wb (stepL ⟨[i], ws, bad⟩ f).ws (stepL ⟨[i], ws, bad⟩ f).bad ∧ Touch [sb, wb] w w' ∧ (sb' = sb ∨ w.heap.size ≤ sb') := by
  have hi' : Blk w sb i.cells 41 := by simpa using hi
  rcases (by omega : f = 0 ∨ f = 1 ∨ f = 2 ∨ f = 3 ∨ f = 4 ∨ f = 5) with rfl | rfl | rfl | rfl | rfl | rfl
  · refine (parse_dst sb wb i ws bad w hE hi' hW hne).mono ?_
    rintro e w1 ⟨rfl, h2, h3, h4⟩
    exact ⟨sb, rfl, by simpa [stepL] using h2, h3, h4, Or.inl rfl⟩
  · refine (parse_src sb wb i ws bad w hE hi' hW hne).mono ?_
    rintro e w1 ⟨rfl, h2, h3, h4⟩
    exact ⟨sb, rfl, by simpa [stepL] using h2, h3, h4, Or.inl rfl⟩
  · refine (parse_operand sb wb i ws bad w hE hi' hW hne h12 q0 q1).mono ?_
    rintro e w1 ⟨rfl, h2, h3, h4⟩
    exact ⟨sb, rfl, by simpa [stepL] using h2, h3, h4, Or.inl rfl⟩
  · refine (parse_off sb wb i ws bad w hE hi' hW hne).mono ?_
    rintro e w1 ⟨rfl, h2, h3, h4⟩
    exact ⟨sb, rfl, by simpa [stepL] using h2, h3, h4, Or.inl rfl⟩
  · refine (parse_imm sb wb i ws bad w hE hi' hW hne).mono ?_
    rintro e w1 ⟨rfl, h2, h3, h4⟩
    exact ⟨sb, rfl, by simpa [stepL] using h2, h3, h4, Or.inl rfl⟩
  · refine (parse_long sb wb i ws bad w hE hi' hW hne).mono ?_
    rintro e w1 ⟨⟨N, rfl, hN, hB⟩, h3, h4⟩
    exact ⟨N, rfl, by simpa [stepL] using hB, h3, h4.mono (by simp), Or.inr hN⟩

theorem slots_begin (l : Bs) (w : World) (hE : Env w) (hl : l.length ≤ 1073741824) (ws : List Bs) (hws : words l = ws) :
    Calls Tryz.prog 40 #[.pointer (some ⟨w.heap.size, 0, none⟩)] (w.alloc (.cells #[.string ⟨l.toArray⟩, .bool false] 81)) fun e w' => e = .returned (.string ⟨(hd ws).toArray⟩) ∧ WS w' w.heap.size (tl ws) false ∧ Touch [] w w' ∧ Env w' ∧ (hd ws).length ≤ 1073741824 := by
  have hB0 := Blk.newA w #[.string ⟨l.toArray⟩, .bool false] [str l, .bool false] 81 rfl
  have ht0 := (Touch.refl [] w).alloc (.cells #[.string ⟨l.toArray⟩, .bool false] 81)
  refine (next_any w.heap.size ws false _ (hE.touch0 ht0) ⟨hE.size, l, hB0, hws, hl⟩).mono ?_
  rintro e w1 ⟨rfl, hW1, ht1, hlen⟩
  exact ⟨rfl, hW1, ht0.trans ht1 (by simp), (hE.touch0 ht0).touch ht1 (by simpa using hE.size), hlen⟩

set_option maxRecDepth 100000 in
set_option maxHeartbeats 8000000 in
theorem slotsOf_nil (l : Bs) (w : World) (hE : Env w) (hl : l.length ≤ 1073741824) (hws : words l = []) :
    Calls Tryz.prog 21 #[.string ⟨l.toArray⟩] w (SlotPost w (some [])) := by
  have HN := toHid (slots_begin l w hE hl [] hws)
  clear hws
  go_enter Tryz.func21, Tryz.ntmps21
  go_wp2_with fail
  refine Calls.mono HN ?_
  rintro e w1 ⟨rfl, hW1, ht1, hE1, hlen⟩
  simp only [hd, List.headD_nil]
  go_wp2
  exact bodyPost_ret (v := .tuple #[.slice none 0 0, .bool true]) (by simp [results, Tryz.results21, go_sem]) rfl ⟨ht1, Or.inr ⟨[], none, rfl, rfl, Or.inl ⟨rfl, rfl⟩⟩⟩

set_option maxRecDepth 100000 in
set_option maxHeartbeats 8000000 in
theorem slotsOf_hash (l : Bs) (w : World) (hE : Env w) (hl : l.length ≤ 1073741824) (r : Bs) (rest : List Bs) (hws : words l = (35 :: r) :: rest) :
    Calls Tryz.prog 21 #[.string ⟨l.toArray⟩] w (SlotPost w (some [])) := by
  have HN := toHid (slots_begin l w hE hl _ hws)
  clear hws
  go_enter Tryz.func21, Tryz.ntmps21
  go_wp2_with fail
  refine Calls.mono HN ?_
  rintro e w1 ⟨rfl, hW1, ht1, hE1, hlen⟩
  simp only [hd, List.headD_cons]
  go_wp2
  exact bodyPost_ret (v := .tuple #[.slice none 0 0, .bool true]) (by simp [results, Tryz.results21, go_sem]) rfl ⟨ht1, Or.inr ⟨[], none, rfl, rfl, Or.inl ⟨rfl, rfl⟩⟩⟩

set_option maxRecDepth 100000 in
set_option maxHeartbeats 8000000 in
theorem slotsOf_name (l : Bs) (w : World) (hE : Env w) (hl : l.length ≤ 1073741824) (c : UInt8) (r : Bs) (rest : List Bs) (hws : words l = (c :: r) :: rest) (hc : c ≠ 35) :
    Calls Tryz.prog 21 #[.string ⟨l.toArray⟩] w (SlotPost w (slotsW ((c :: r) :: rest))) := by
  have HN := toHid (slots_begin l w hE hl _ hws)
  have hc2 : ((c.toNat : Int) == 35) = false := by
    have : ¬ (c.toNat = 35) := fun e => hc (by rw [← UInt8.toNat_inj]; exact e)
    simp only [beq_eq_false_iff_ne, ne_eq]
    omega
  have hc3 : ∀ h, ((((⟨(c :: r).toArray⟩ : ByteArray)[0]'h).toNat : Int) == 35) = false := fun _ => hc2
  have HS : Hid (slotsW ((c :: r) :: rest) = _) := toHid (slotsW_name (c :: r) rest (by simpa using hc))
  clear hws hc2
  go_enter Tryz.func21, Tryz.ntmps21
  go_wp2_with fail
  refine Calls.mono HN ?_
  rintro e w1 ⟨rfl, hW1, ht1, hE1, hlen⟩
  simp only [hd, tl, List.headD_cons, List.tail_cons] at hlen hW1 ⊢
  go_wp2_with fail
  clear hc3 hc
  refine (named_any (c :: r) w1 hE1 hlen).mono ?_
  rintro e w2 ⟨rfl, ht2⟩
  have hW2 := hW1.touch ht2 (by simp)
  have hE2 := hE1.touch0 ht2
  have HT2 := toHid (ht1.trans ht2 (by simp))
  clear ht2 ht1 hE1 hW1
  cases hnp : nameP (c :: r) with
  | none =>
    have HSN := toHid ((show slotsW ((c :: r) :: rest) = _ from HS).trans (by rw [hnp]))
    clear hnp HS
    simp only [Option.getD_none, Option.isSome_none, In.v, In.zero]
    go_wp2
    exact bodyPost_ret (v := .tuple #[.slice none 0 0, .bool false]) (by simp [results, Tryz.results21, go_sem]) rfl ⟨(show Touch [] w w2 from HT2).alloc _, Or.inl ⟨HSN, rfl⟩⟩
  | some i =>
    have hop := nameP_op hnp
    have HSN := toHid ((show slotsW ((c :: r) :: rest) = _ from HS).trans (by rw [hnp]))
    clear hnp HS
    simp only [Option.getD_some, Option.isSome_some, In.v]
    go_wp2_with fail
    have hwb : w.heap.size < w2.heap.size := by obtain ⟨_, _, hb, _⟩ := hW2; exact hb.lt
    have hB3 := Blk.newA (w2.alloc (.cells #[.int .u8 i.op, .int .u8 i.dst, .int .u8 i.src, .int .i16 i.off, .int .i32 i.imm] 41)) #[.int .u8 i.op, .int .u8 i.dst, .int .u8 i.src, .int .i16 i.off, .int .i32 i.imm] i.cells 41 rfl
    have ht3 := ((Touch.refl [] w2).alloc (.cells #[.int .u8 i.op, .int .u8 i.dst, .int .u8 i.src, .int .i16 i.off, .int .i32 i.imm] 41)).alloc (.cells #[.int .u8 i.op, .int .u8 i.dst, .int .u8 i.src, .int .i16 i.off, .int .i32 i.imm] 41)
    have hsz : (w2.alloc (.cells #[.int .u8 i.op, .int .u8 i.dst, .int .u8 i.src, .int .i16 i.off, .int .i32 i.imm] 41)).heap.size = w2.heap.size + 1 := Array.size_push ..
    rw [hsz] at hB3
    refine (fieldsOf_any i.op _ hop.1 hop.2).mono ?_
    rintro e w4 ⟨a, rfl, hF, ht4, hNa⟩
    have hlt3 := hB3.lt
    have HB4 := toHid (ht4.blk hB3 (by simp))
    have HW4 := toHid ((hW2.touch ht3 (by simp)).touch ht4 (by simp))
    have HE4 := toHid ((hE2.touch0 ht3).touch0 ht4)
    have HT4 := toHid (((show Touch [] w w2 from HT2).trans ht3 (by simp)).trans ht4 (by simp))
    have HNE : Hid (∀ N, a = some ⟨N, 0, none⟩ → N ≠ w2.heap.size + 1 ∧ N ≠ w.heap.size) := toHid (fun N h => by have := hNa N h; omega)
    have hsb : 12 ≤ w2.heap.size + 1 := by have := hE.size; omega
    clear hB3 ht3 hsz ht4 hW2 hE2 HT2 hlt3 hNa
    have HF := toHid hF
    clear hF
    go_wp2_with fail
    have HFS : Hid (∀ f ∈ fieldsP i.op, f ≤ 5) := toHid (fields_bd i.op)
    have HFL : Hid (∀ k, k < (fieldsP i.op).length → 5 ∉ (fieldsP i.op).take k) := toHid (fields_last i.op)
    have hfl : (fieldsP i.op).length ≤ 3 := by unfold fieldsP jumpF; repeat' split
                                               all_goals simp
    generalize fieldsP i.op = fs at *
    go_loopw [8, 34] (fun t k' w' => ∃ (k : Nat) (s : St) (sb : Nat), k ≤ fs.length ∧ k' = .int .i64 k ∧ t = .slice (some ⟨sb, 0, none⟩) s.L.length s.L.length ∧ Hid (s = runL (fs.take k) ⟨[i], rest, false⟩) ∧ Hid (Blk w' sb (s.L.flatMap In.cells) 41) ∧ Hid (WS w' w.heap.size s.ws s.bad) ∧ Hid (FldAt w' a fs) ∧
        Hid (Touch [] w w') ∧ Hid (Env w') ∧ 12 ≤ sb ∧ w.heap.size ≤ sb ∧ sb ≠ w.heap.size ∧ Hid (∀ N, a = some ⟨N, 0, none⟩ → N ≠ sb ∧ N ≠ w.heap.size)) (fun _ t _ => fs.length - (intOf t).toNat)
    case atStart => exact ⟨0, ⟨[i], rest, false⟩, w2.heap.size + 1, by omega, rfl, rfl, rfl, by simpa using HB4, HW4, HF, HT4, HE4, by omega, by omega, by omega, HNE⟩
    case round =>
      obtain ⟨k, s, sb, hk, rfl, rfl, HR, HB, HW, HF, HT, HE, h12, hsb1, hsb2, HNE⟩ := hrel
      obtain ⟨L, ws, bad⟩ := s
      by_cases hlt : k < fs.length
      · obtain ⟨f, hf⟩ : ∃ f, fs[k]? = some f := ⟨_, List.getElem?_eq_getElem hlt⟩
        have hf5 := (show ∀ f ∈ fs, f ≤ 5 from HFS) f (List.mem_of_getElem? hf)
        obtain ⟨i', hL, q0, q1⟩ := runL_one (fs.take k) i rest false ((show ∀ k, k < fs.length → 5 ∉ fs.take k from HFL) k hlt) hop.1 hop.2
        have hs : (⟨L, ws, bad⟩ : St) = runL (fs.take k) ⟨[i], rest, false⟩ := HR
        obtain rfl : L = [i'] := by rw [← hs] at hL; exact hL
        obtain ⟨N, rfl, hBN⟩ : ∃ N, a = some ⟨N, 0, none⟩ ∧ Blk wr N (fs.map fun f : Nat => .int .i64 (f : Int)) 70 := by
          rcases (show FldAt wr a fs from HF) with ⟨h, _⟩ | h
          · rw [h] at hlt; simp at hlt
          · exact h
        have cN := hBN.cell (i := k) (v := .int .i64 (f : Int)) (by simp [hf])
        have HP := toHid (parse_step f hf5 sb w.heap.size i' ws bad wr HE HB HW hsb2 h12 q0 q1)
        have HR2 := toHid ((runL_take fs ⟨[i], rest, false⟩ k f hf).trans (by rw [← hs]))
        clear HR hs hL hBN hf
        simp only [List.length_cons, List.length_nil, Nat.zero_add]
        go_wp2_with fail
        refine Calls.mono HP ?_
        rintro e w5 ⟨sb', rfl, hB5, hW5, ht5, hsb'⟩
        have hne := (show ∀ N', _ → _ from HNE) N rfl
        have HT5 := toHid ((show Touch [] w wr from HT).trans ht5 (by simp; omega))
        have HE5 := toHid ((show Env wr from HE).touch ht5 (by simp; exact ⟨h12, hE.size⟩))
        have HF5 := toHid ((show FldAt wr _ fs from HF).touch ht5 (by
          intro x hx
          refine Or.inr (fun N' h => ?_)
          cases h
          simp only [List.mem_cons, List.not_mem_nil, or_false] at hx
          rcases hx with rfl | rfl
          · exact hne.1
          · exact hne.2))
        have hNlt : N < wr.heap.size := by
          rcases (show FldAt wr _ fs from HF) with ⟨_, h⟩ | ⟨N', h, hb⟩
          · cases h
          · cases h; exact hb.lt
        have hwsz := (show Touch [] w wr from HT).size
        have h12' : 12 ≤ sb' := by have := hE.size; rcases hsb' with rfl | h <;> omega
        have h1' : w.heap.size ≤ sb' := by rcases hsb' with rfl | h <;> omega
        have h2' : sb' ≠ w.heap.size := by
          have := (show WS wr w.heap.size ws bad from HW)
          obtain ⟨_, _, hb, _⟩ := this
          have := hb.lt
          rcases hsb' with rfl | h <;> omega
        have HNE5 : Hid (∀ N', (some (⟨N, 0, none⟩ : Addr)) = some ⟨N', 0, none⟩ → N' ≠ sb' ∧ N' ≠ w.heap.size) := toHid (by
          intro N' h
          cases h
          refine ⟨?_, hne.2⟩
          rcases hsb' with rfl | h
          · exact hne.1
          · omega)
        have HB5 := toHid hB5
        have HW5 := toHid hW5
        clear ht5 hsb' hne hB5 hW5 hNlt hwsz cN HP HB HW HF HT HE HNE
        generalize stepL ⟨[i'], ws, bad⟩ f = s' at *
        go_wp2
        go_roundw
        case rel => exact ⟨k + 1, s', sb', by omega, by go_num, rfl, (show runL _ _ = _ from HR2).symm, HB5, HW5, HF5, HT5, HE5, h12', h1', h2', HNE5⟩
        case measure => simp [intOf]; omega
      · obtain rfl : k = fs.length := by omega
        have hs : (⟨L, ws, bad⟩ : St) = runL fs ⟨[i], rest, false⟩ := by
          have h : (⟨L, ws, bad⟩ : St) = runL (fs.take fs.length) ⟨[i], rest, false⟩ := HR
          rwa [List.take_length] at h
        have HSN2 := toHid (show slotsW ((c :: r) :: rest) = if bad = true ∨ ws ≠ [] then none else some L by
          have h : slotsW ((c :: r) :: rest) = _ := HSN
          rw [← hs] at h
          exact h)
        have cb := (show WS wr w.heap.size ws bad from HW).cell1
        clear HR hs HSN
        cases bad with
        | true =>
          go_wp2
          have h : slotsW ((c :: r) :: rest) = none := (show slotsW ((c :: r) :: rest) = _ from HSN2).trans (by simp)
          exact bodyPost_ret (v := .tuple #[.slice none 0 0, .bool false]) (by simp [results, Tryz.results21, go_sem]) rfl ⟨HT, Or.inl ⟨h, rfl⟩⟩
        | false =>
          go_wp2_with fail
          refine (next_any w.heap.size ws false wr HE HW).mono ?_
          rintro e w5 ⟨rfl, hW5, ht5, hlen5⟩
          have HT5 := toHid ((show Touch [] w wr from HT).trans ht5 (by simp))
          have HB5 := toHid (ht5.blk HB (by simpa using hsb2))
          have hwn : hd ws = [] ↔ ws = [] := by
            obtain ⟨_, rst, _, hr, _⟩ := (show WS wr w.heap.size ws false from HW)
            rw [← hr]
            exact head_nil rst
          by_cases hw0 : ws = []
          · have hbe : (hd ws == ([] : Bs)) = true := by simpa using hwn.2 hw0
            clear hwn
            go_wp2
            have h : slotsW ((c :: r) :: rest) = some L := (show slotsW ((c :: r) :: rest) = _ from HSN2).trans (by simp [hw0])
            exact bodyPost_ret (v := .tuple #[.slice (some ⟨sb, 0, none⟩) L.length L.length, .bool true]) (by simp [results, Tryz.results21, go_sem]) rfl ⟨HT5, Or.inr ⟨L, _, h, rfl, Or.inr ⟨sb, rfl, (show Blk w5 sb _ _ from HB5).lt, HB5⟩⟩⟩
          · have hbe : (hd ws == ([] : Bs)) = false := by
              have : ¬ hd ws = [] := fun h => hw0 (hwn.1 h)
              simpa using this
            clear hwn
            go_wp2
            have h : slotsW ((c :: r) :: rest) = none := (show slotsW ((c :: r) :: rest) = _ from HSN2).trans (by simp [hw0])
            exact bodyPost_ret (v := .tuple #[.slice none 0 0, .bool false]) (by simp [results, Tryz.results21, go_sem]) rfl ⟨HT5, Or.inl ⟨h, rfl⟩⟩
theorem slotsOf_any (l : Bs) (w : World) (hE : Env w) (hl : l.length ≤ 1073741824) :
    Calls Tryz.prog 21 #[.string ⟨l.toArray⟩] w (SlotPost w (slotsW (words l))) := by
  cases hws : words l with
  | nil => exact slotsOf_nil l w hE hl hws
  | cons name rest =>
    have hne : name ≠ [] := words_ne (l := l) (by rw [hws]; simp)
    cases name with
    | nil => exact absurd rfl hne
    | cons c r =>
      by_cases hc : c = 35
      · subst hc
        exact slotsOf_hash l w hE hl r rest hws
      · exact slotsOf_name l w hE hl c r rest hws hc
end Go.Proofs.YthlfnmjefpdjgaaGreatDoor
