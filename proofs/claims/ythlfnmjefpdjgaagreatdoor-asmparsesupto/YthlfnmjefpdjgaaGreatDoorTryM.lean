/-
  What the reference's try answers, case M.
-/
import Derived.Test.YthlfnmjefpdjgaaGreatDoorTryQ
namespace Go.Proofs.YthlfnmjefpdjgaaGreatDoor
open Go.RowKit

set_option maxRecDepth 100000 in
set_option maxHeartbeats 4000000 in
theorem try_M (op src : Nat) (name : Bs) (fs : List Bs) (b cap : Nat) (rest : List Value) (w : World) (hop : op ≤ 255) (hk : knownB op = true) (hsrc : src ≤ 1) (hcap : fs.length + 1 ≤ cap) (hfl : fs.length ≤ 1073741824) (hwl : ∀ x ∈ fs, x.length ≤ 1073741824) (hwb : Blk w b (((name :: fs).map str) ++ rest) 9) (hc : (op : Int) % 8 = 2 ∨ (op : Int) % 8 = 3) :
    Calls Tryz.prog 24 #[.int .i64 (op : Int), .int .u8 (src : Int), .slice (some ⟨b, 0, none⟩) (fs.length + 1) cap] w (TryPost w (tryP op src name fs)) := by
  have HU := toHid (fun w => ruses_any op w (by omega) (by omega))
  have hw8 : IntKind.u8.wrap (op : Int) = (op : Int) := by rw [IntKind.wrap_u8]; omega
  generalize hus : usesOf op = us0 at HU
  go_enter Tryz.func24, Tryz.ntmps24
  go_upto_region 8 with (first | (go_at_call 33; refine (HU.out _).mono ?_; rintro e w2 ⟨rfl, ht2⟩; simp only [Us.v]) | fail)
  -- BODY
  have hI := Blk.newA w #[.int .u8 (op : Int), .int .u8 0, .int .u8 0, .int .i16 0, .int .i32 0] (⟨op, 0, 0, 0, 0⟩ : In).cells 41 rfl
  have hI := hI.alloc (.cells #[.int .u8 0, .int .u8 0, .int .u8 0, .int .i16 0, .int .i32 0] 41)
  have hX := Blk.newA (w.alloc (.cells #[.int .u8 (op : Int), .int .u8 0, .int .u8 0, .int .i16 0, .int .i32 0] 41)) #[.int .u8 0, .int .u8 0, .int .u8 0, .int .i16 0, .int .i32 0] In.zero.cells 41 rfl
  have hsz1 : (w.alloc (.cells #[.int .u8 (op : Int), .int .u8 0, .int .u8 0, .int .i16 0, .int .i32 0] 41)).heap.size = w.heap.size + 1 := by simp
  rw [hsz1] at hX
  have ht1 := ((Touch.refl [] w).alloc (.cells #[.int .u8 (op : Int), .int .u8 0, .int .u8 0, .int .i16 0, .int .i32 0] 41)).alloc (.cells #[.int .u8 0, .int .u8 0, .int .u8 0, .int .i16 0, .int .i32 0] 41)
  have hI2 := (ht2.blk hI (by simp)).alloc (.cells #[.bool us0.d, .bool us0.s, .bool us0.o, .bool us0.i] 73)
  have hX2 := (ht2.blk hX (by simp)).alloc (.cells #[.bool us0.d, .bool us0.s, .bool us0.o, .bool us0.i] 73)
  have hU2 := Blk.newA w2 #[.bool us0.d, .bool us0.s, .bool us0.o, .bool us0.i] [.bool us0.d, .bool us0.s, .bool us0.o, .bool us0.i] 73 rfl
  have hsz2 : (w2.alloc (.cells #[.bool us0.d, .bool us0.s, .bool us0.o, .bool us0.i] 73)).heap.size = w2.heap.size + 1 := by simp
  have hO2 := Blk.newA (w2.alloc (.cells #[.bool us0.d, .bool us0.s, .bool us0.o, .bool us0.i] 73)) #[.int .i64 0, .int .i64 1, .int .i64 3, .int .i64 2] [.int .i64 0, .int .i64 1, .int .i64 3, .int .i64 2] 3 rfl
  rw [hsz2] at hO2
  have hI3 := hI2.alloc (.cells #[.int .i64 0, .int .i64 1, .int .i64 3, .int .i64 2] 3)
  have hX3 := hX2.alloc (.cells #[.int .i64 0, .int .i64 1, .int .i64 3, .int .i64 2] 3)
  have hU3 := hU2.alloc (.cells #[.int .i64 0, .int .i64 1, .int .i64 3, .int .i64 2] 3)
  have ht3 := ((ht1.trans ht2 (by simp)).alloc (.cells #[.bool us0.d, .bool us0.s, .bool us0.o, .bool us0.i] 73)).alloc (.cells #[.int .i64 0, .int .i64 1, .int .i64 3, .int .i64 2] 3)
  have hb := hwb.lt
  have hs2 : w.heap.size + 2 ≤ w2.heap.size := by have := ht2.size; simpa using this
  have hszW : ((w2.alloc (.cells #[.bool us0.d, .bool us0.s, .bool us0.o, .bool us0.i] 73)).alloc (.cells #[.int .i64 0, .int .i64 1, .int .i64 3, .int .i64 2] 3)).heap.size = w2.heap.size + 2 := by simp
  clear hI hX hI2 hX2 hU2 hsz1 hsz2 ht1 ht2
  obtain ⟨fa, hfa⟩ : ∃ fa, fa = (if cap = 1 then some (⟨b, 0, none⟩ : Addr) else some ⟨b, 1, none⟩) := ⟨_, rfl⟩
  rw [← hfa]
  have HFA : Hid (fs.length ≠ 0 → fa = some ⟨b, 1, none⟩) := toHid (fun h => by rw [hfa, if_neg (by omega)])
  clear hfa
  generalize ((w2.alloc (.cells #[.bool us0.d, .bool us0.s, .bool us0.o, .bool us0.i] 73)).alloc (.cells #[.int .i64 0, .int .i64 1, .int .i64 3, .int .i64 2] 3)) = W at *
  generalize hB10 : w2.heap.size = B10 at *
  clear HU w2 hB10
  obtain ⟨os, hos⟩ : ∃ os, os = ordOf op := ⟨_, rfl⟩
  obtain ⟨u, hu⟩ : ∃ u, u = usOf op := ⟨_, rfl⟩
  obtain ⟨i0, hi0⟩ : ∃ i0, i0 = inOf op src := ⟨_, rfl⟩
  have hol : os.length = 4 := by rw [hos]; unfold ordOf; split <;> rfl
  have HP : Hid (tryP op src name fs = match tryF op u os fs i0 In.zero with
    | some (i, nx, []) => if (words (lineP i nx)).length = fs.length + 1 ∧ (words (lineP i nx)).head? = some name then some (if (op : Int) = 24 then [i, nx] else [i]) else none
    | _ => none) := toHid (by rw [hos, hu, hi0]; rfl)
  have HI0 : Hid (i0.Ok ∧ i0.op = op ∧ ((op : Int) = 133 ∨ (op : Int) = 24 → i0.src ≤ 1) ∧ i0.dst ≤ 10 ∧ i0.src ≤ 10) := toHid (by
    rw [hi0]
    unfold inOf
    have hs0 : (0 : Int) ≤ (if (op : Int) = 133 ∨ (op : Int) = 24 then (src : Int) else 0) := by split <;> omega
    have hs1 : (if (op : Int) = 133 ∨ (op : Int) = 24 then (src : Int) else 0) ≤ 1 := by split <;> omega
    have z0 : (0 : Int) ≤ 0 := Int.le_refl 0
    exact ⟨⟨(by omega : (0 : Int) ≤ (op : Int)), (by omega : (op : Int) ≤ 255), z0, (by omega : (0 : Int) ≤ 255), hs0, Int.le_trans hs1 (by omega), (by omega : (-32768 : Int) ≤ 0), (by omega : (0 : Int) ≤ 32767), (by omega : (-2147483648 : Int) ≤ 0), (by omega : (0 : Int) ≤ 2147483647)⟩, rfl, fun _ => hs1, (by omega : (0 : Int) ≤ 10), Int.le_trans hs1 (by omega)⟩)
  have HOS : Hid (∀ p f, os[p]? = some f → f < 4) := toHid (by rw [hos]; exact ord_lt op)
  have hXn := hX3
  have c3 : ¬ (op : Int) = 133 := by omega
  have c4 : ¬ (op : Int) = 24 := by omega
  have hIb : Blk W w.heap.size i0.cells 41 := by rw [hi0]; unfold inOf; rw [if_neg (by omega)]; exact hI3
  have hUb : Blk W B10 [.bool u.d, .bool u.s, .bool u.o, .bool u.i] 73 := by rw [hu]; unfold usOf; rw [if_neg (by omega), hus]; exact hU3
  have hOb := Blk.newA W #[.int .i64 0, .int .i64 2, .int .i64 1, .int .i64 3] (os.map fun k : Nat => .int .i64 (k : Int)) 3 (by rw [hos]; unfold ordOf; rw [if_pos hc]; rfl)
  rw [hszW] at hOb
  have hIb := hIb.alloc (.cells #[.int .i64 0, .int .i64 2, .int .i64 1, .int .i64 3] 3)
  have hUb := hUb.alloc (.cells #[.int .i64 0, .int .i64 2, .int .i64 1, .int .i64 3] 3)
  have hXb := hX3.alloc (.cells #[.int .i64 0, .int .i64 2, .int .i64 1, .int .i64 3] 3)
  have hWb := (ht3.blk hwb (by simp)).alloc (.cells #[.int .i64 0, .int .i64 2, .int .i64 1, .int .i64 3] 3)
  have HT := toHid (ht3.alloc (.cells #[.int .i64 0, .int .i64 2, .int .i64 1, .int .i64 3] 3))
  have b1 : ((op : Int) == 133) = false := beq_eq_false_iff_ne.2 c3
  have b2 : ((op : Int) == 24) = false := beq_eq_false_iff_ne.2 c4
  clear hI3 hU3 hO2 hu hi0 hX3 hXn ht3 hos
  have hc' : (((op : Int) % 8 == 2) = true) ∨ (((op : Int) % 8 == 2) = false ∧ ((op : Int) % 8 == 3) = true) := by
    by_cases h2 : (op : Int) % 8 = 2
    · exact Or.inl (by simpa using h2)
    · exact Or.inr ⟨beq_eq_false_iff_ne.2 h2, by simpa using hc.resolve_left h2⟩
  clear hc
  rcases hc' with b3 | ⟨b3, b4⟩
  all_goals
    go_upto_region 13 with fail
    generalize W.alloc (.cells #[.int .i64 0, .int .i64 2, .int .i64 1, .int .i64 3] 3) = V at *
    generalize hB8 : w.heap.size = B8 at *
    have hOB : B10 < B10 + 2 := by omega
    generalize B10 + 2 = OB at *
    have hb8 : w.heap.size ≤ B8 := Nat.le_of_eq hB8
    go_wp2_with fail
    go_loopw [57, 12] (fun pv av w' => ∃ (p a : Nat) (i nx : In), pv = .int .i64 (p : Int) ∧ av = .int .i64 (a : Int) ∧ p ≤ 4 ∧ a ≤ fs.length ∧ Hid (tryF op u os fs i0 In.zero = tryF op u (os.drop p) (fs.drop a) i nx) ∧ Hid (Blk w' B8 i.cells 41 ∧ Blk w' (B8 + 1) nx.cells 41) ∧ Hid (Blk w' B10 [.bool u.d, .bool u.s, .bool u.o, .bool u.i] 73 ∧ Blk w' OB (os.map fun k : Nat => .int .i64 (k : Int)) 3 ∧ Blk w' b (((name :: fs).map str) ++ rest) 9) ∧ Hid (Touch [] w w') ∧ Hid (i.Ok ∧ i.op = op ∧ ((op : Int) = 133 ∨ (op : Int) = 24 → i.src ≤ 1) ∧ i.dst ≤ 10 ∧ i.src ≤ 10)) (fun pv _ _ => 4 - (intOf pv).toNat)
    case atStart => exact ⟨0, 0, i0, In.zero, rfl, rfl, by omega, by omega, rfl, toHid ⟨hIb, hXb⟩, toHid ⟨hUb, hOb, hWb⟩, HT, HI0⟩
    case round =>
      obtain ⟨p, a, i, nx, rfl, rfl, hp, ha, HF, HBI, HBO, HTr, HOK⟩ := hrel
      by_cases hp4 : p < 4
      · obtain ⟨f, hf⟩ : ∃ f, os[p]? = some f := ⟨_, List.getElem?_eq_getElem (by omega)⟩
        have hf4 : f < 4 := (show ∀ p f, os[p]? = some f → f < 4 from HOS) p f hf
        have co : wr.cell? ⟨OB, p, none⟩ = some (.int .i64 (f : Int)) := HBO.out.2.1.cell (by rw [List.getElem?_map, hf]; rfl)
        have HS := toHid ((show tryF op u os fs i0 In.zero = _ from HF).trans (tryF_step op u os p f hf (fs.drop a) i nx))
        clear HF hf
        by_cases hub : useB u f = true
        · have cu : wr.cell? ⟨B10, f, none⟩ = some (.bool true) := HBO.out.1.cell (by
            rw [← hub]
            rcases (by omega : f = 0 ∨ f = 1 ∨ f = 2 ∨ f = 3) with rfl | rfl | rfl | rfl <;> rfl)
          by_cases hal : a < fs.length
          · obtain ⟨x, hx⟩ : ∃ x, fs[a]? = some x := ⟨_, List.getElem?_eq_getElem hal⟩
            have hxl : x.length ≤ 1073741824 := hwl x (List.mem_of_getElem? hx)
            have hdr : fs.drop a = x :: fs.drop (a + 1) := by
              obtain ⟨h1, h2⟩ := List.getElem?_eq_some_iff.1 hx
              rw [List.drop_eq_getElem_cons h1, h2]
            obtain rfl : fa = some ⟨b, 1, none⟩ := (show fs.length ≠ 0 → _ from HFA) (by omega)
            have cx : wr.cell? ⟨b, 1 + a, none⟩ = some (str x) := HBO.out.2.2.cell (by
              rw [List.getElem?_append_left (by simp; omega), List.getElem?_map, Nat.add_comm, List.getElem?_cons_succ, hx]; rfl)
            unfold str at cx
            have HS2 := toHid (show tryF op u os fs i0 In.zero = match fldV op f x i nx with
                | none => none
                | some q => tryF op u (os.drop (p + 1)) (fs.drop (a + 1)) q.1 q.2 from (show tryF op u os fs i0 In.zero = _ from HS).trans (by rw [if_pos hub, hdr]; rfl))
            have k1 : (a : Int) < (fs.length : Int) := by omega
            have k2 : ¬ (fs.length : Int) ≤ (a : Int) := by omega
            obtain ⟨hBi, hBx⟩ := HBI.out
            have z0 := hBi.frozen
            have z1 := hBx.frozen
            have y0 := hBi.cell (i := 0) (v := .int .u8 i.op) rfl
            have y1 := hBi.cell (i := 1) (v := .int .u8 i.dst) rfl
            have y2 := hBi.cell (i := 2) (v := .int .u8 i.src) rfl
            have y3 := hBi.cell (i := 3) (v := .int .i16 i.off) rfl
            have y4 := hBi.cell (i := 4) (v := .int .i32 i.imm) rfl
            have y5 := hBx.cell (i := 4) (v := .int .i32 nx.imm) rfl
            clear HS hdr hx hub
            rcases (by omega : f = 0 ∨ f = 1 ∨ f = 2 ∨ f = 3) with rfl | rfl | rfl | rfl
            · go_wp2_with fail
              refine (rreg_any x wr hxl).mono ?_
              rintro e w1 ⟨rfl, rfl⟩
              cases hv : regP x with
              | none =>
                have HN := toHid (show tryF op u os fs i0 In.zero = none from (show tryF op u os fs i0 In.zero = _ from HS2).trans (by simp [fldV, hv]))
                have HT1 := toHid ((show Touch [] w w1 from HTr).setCell ⟨B8, 1, none⟩ (.int .u8 0) (Or.inr hb8))
                simp only [Option.getD_none, Option.isSome_none]
                clear HS2 hv
                go_wp2
                exact bodyPost_ret (v := .tuple #[.slice none 0 0, .bool false]) (by simp [results, Tryz.results24, go_sem]) rfl ⟨HT1, by rw [show tryP op src name fs = none from (show tryP op src name fs = _ from HP).trans (by rw [show tryF op u os fs i0 In.zero = _ from HN])]⟩
              | some v =>
                have hv10 := reg_val hv
                have HN := toHid ((show tryF op u os fs i0 In.zero = _ from HS2).trans (by simp only [fldV, hv]; rfl))
                have HT1 := toHid ((show Touch [] w w1 from HTr).setCell ⟨B8, 1, none⟩ (.int .u8 (v : Int)) (Or.inr hb8))
                simp only [Option.getD_some, Option.isSome_some]
                clear HS2 hv
                go_wp2
                go_roundw
                case rel => exact ⟨p + 1, a + 1, ⟨i.op, (v : Int), i.src, i.off, i.imm⟩, nx, by go_num, by go_num, by omega, by omega, HN, toHid ⟨hBi.setCell 1 _, hBx.setCell_other _ _ (by simp)⟩, toHid ⟨HBO.out.1.setCell_other _ _ (by simp; omega), HBO.out.2.1.setCell_other _ _ (by simp; omega), HBO.out.2.2.setCell_other _ _ (by simp; omega)⟩, HT1, toHid ⟨⟨HOK.out.1.op0, HOK.out.1.op1, (by omega : (0 : Int) ≤ (v : Int)), (by omega : (v : Int) ≤ 255), HOK.out.1.src0, HOK.out.1.src1, HOK.out.1.off0, HOK.out.1.off1, HOK.out.1.imm0, HOK.out.1.imm1⟩, HOK.out.2.1, HOK.out.2.2.1, (by omega : (v : Int) ≤ 10), HOK.out.2.2.2.2⟩⟩
                case measure => simp [intOf]; omega
            · go_wp2_with fail
              refine (rreg_any x wr hxl).mono ?_
              rintro e w1 ⟨rfl, rfl⟩
              cases hv : regP x with
              | none =>
                have HN := toHid (show tryF op u os fs i0 In.zero = none from (show tryF op u os fs i0 In.zero = _ from HS2).trans (by simp [fldV, hv]))
                have HT1 := toHid ((show Touch [] w w1 from HTr).setCell ⟨B8, 2, none⟩ (.int .u8 0) (Or.inr hb8))
                simp only [Option.getD_none, Option.isSome_none]
                clear HS2 hv
                go_wp2
                exact bodyPost_ret (v := .tuple #[.slice none 0 0, .bool false]) (by simp [results, Tryz.results24, go_sem]) rfl ⟨HT1, by rw [show tryP op src name fs = none from (show tryP op src name fs = _ from HP).trans (by rw [show tryF op u os fs i0 In.zero = _ from HN])]⟩
              | some v =>
                have hv10 := reg_val hv
                have HN := toHid ((show tryF op u os fs i0 In.zero = _ from HS2).trans (by simp only [fldV, hv]; rfl))
                have HT1 := toHid ((show Touch [] w w1 from HTr).setCell ⟨B8, 2, none⟩ (.int .u8 (v : Int)) (Or.inr hb8))
                simp only [Option.getD_some, Option.isSome_some]
                clear HS2 hv
                go_wp2
                go_roundw
                case rel => exact ⟨p + 1, a + 1, ⟨i.op, i.dst, (v : Int), i.off, i.imm⟩, nx, by go_num, by go_num, by omega, by omega, HN, toHid ⟨hBi.setCell 2 _, hBx.setCell_other _ _ (by simp)⟩, toHid ⟨HBO.out.1.setCell_other _ _ (by simp; omega), HBO.out.2.1.setCell_other _ _ (by simp; omega), HBO.out.2.2.setCell_other _ _ (by simp; omega)⟩, HT1, toHid ⟨⟨HOK.out.1.op0, HOK.out.1.op1, HOK.out.1.dst0, HOK.out.1.dst1, (by omega : (0 : Int) ≤ (v : Int)), (by omega : (v : Int) ≤ 255), HOK.out.1.off0, HOK.out.1.off1, HOK.out.1.imm0, HOK.out.1.imm1⟩, HOK.out.2.1, fun hh => absurd hh (by omega), HOK.out.2.2.2.1, (by omega : (v : Int) ≤ 10)⟩⟩
                case measure => simp [intOf]; omega
            · go_wp2_with fail
              refine (rvalue_s x 32767 wr hxl (by omega) (by omega)).mono ?_
              rintro e w1 ⟨rfl, hcase⟩
              have hsv := sgnP_val 16 32767 (by omega) (by omega) (by decide) x
              cases hv : valS 32767 x with
              | none =>
                rw [hv] at hcase hsv
                simp only at hcase
                subst hcase
                have HN := toHid (show tryF op u os fs i0 In.zero = none from (show tryF op u os fs i0 In.zero = _ from HS2).trans (by simp [fldV, hsv, ]))
                have HT1 := toHid ((show Touch [] w w1 from HTr).setCell ⟨B8, 3, none⟩ (.int .i16 0) (Or.inr hb8))
                clear HS2 hv hsv
                go_wp2
                exact bodyPost_ret (v := .tuple #[.slice none 0 0, .bool false]) (by simp [results, Tryz.results24, go_sem]) rfl ⟨HT1, by rw [show tryP op src name fs = none from (show tryP op src name fs = _ from HP).trans (by rw [show tryF op u os fs i0 In.zero = _ from HN])]⟩
              | some v =>
                rw [hv] at hcase hsv
                obtain ⟨u9, rfl⟩ := hcase
                have hvr := sgn16_val hsv
                have hwv : IntKind.i16.wrap v = v := by simp [IntKind.wrap, IntKind.signed, IntKind.bits]; omega
                have HN := toHid ((show tryF op u os fs i0 In.zero = _ from HS2).trans (by simp only [fldV, hsv]; rfl))
                have HT1 := toHid ((show Touch [] w w1 from HTr).setCell ⟨B8, 3, none⟩ (.int .i16 v) (Or.inr hb8))
                clear HS2 hv hsv
                go_wp2
                go_roundw
                case rel => exact ⟨p + 1, a + 1, ⟨i.op, i.dst, i.src, v, i.imm⟩, nx, by go_num, by go_num, by omega, by omega, HN, toHid ⟨hBi.setCell 3 _, hBx.setCell_other _ _ (by simp)⟩, toHid ⟨HBO.out.1.setCell_other _ _ (by simp; omega), HBO.out.2.1.setCell_other _ _ (by simp; omega), HBO.out.2.2.setCell_other _ _ (by simp; omega)⟩, HT1, toHid ⟨⟨HOK.out.1.op0, HOK.out.1.op1, HOK.out.1.dst0, HOK.out.1.dst1, HOK.out.1.src0, HOK.out.1.src1, hvr.1, hvr.2, HOK.out.1.imm0, HOK.out.1.imm1⟩, HOK.out.2.1, HOK.out.2.2⟩⟩
                case measure => simp [intOf]; omega
            · go_wp2_with fail
              refine (rvalue_s x 2147483647 wr hxl (by omega) (by omega)).mono ?_
              rintro e w1 ⟨rfl, hcase⟩
              have hsv := sgnP_val 32 2147483647 (by omega) (by omega) (by decide) x
              cases hv : valS 2147483647 x with
              | none =>
                rw [hv] at hcase hsv
                simp only at hcase
                subst hcase
                have HN := toHid (show tryF op u os fs i0 In.zero = none from (show tryF op u os fs i0 In.zero = _ from HS2).trans (by simp [fldV, hsv, c4, ]))
                have HT1 := toHid ((show Touch [] w w1 from HTr).setCell ⟨B8, 4, none⟩ (.int .i32 0) (Or.inr hb8))
                clear HS2 hv hsv
                go_wp2
                exact bodyPost_ret (v := .tuple #[.slice none 0 0, .bool false]) (by simp [results, Tryz.results24, go_sem]) rfl ⟨HT1, by rw [show tryP op src name fs = none from (show tryP op src name fs = _ from HP).trans (by rw [show tryF op u os fs i0 In.zero = _ from HN])]⟩
              | some v =>
                rw [hv] at hcase hsv
                obtain ⟨u9, rfl⟩ := hcase
                have hvr := sgn32_val hsv
                have hwv2 : wrap32 v = v := by unfold wrap32; omega
                have HN := toHid ((show tryF op u os fs i0 In.zero = _ from HS2).trans (by simp only [fldV, hsv, c4, if_false]; rfl))
                have HT1 := toHid ((show Touch [] w w1 from HTr).setCell ⟨B8, 4, none⟩ (.int .i32 v) (Or.inr hb8))
                clear HS2 hv hsv
                go_wp2
                go_roundw
                case rel => exact ⟨p + 1, a + 1, ⟨i.op, i.dst, i.src, i.off, v⟩, nx, by go_num, by go_num, by omega, by omega, HN, toHid ⟨hBi.setCell 4 _, hBx.setCell_other _ _ (by simp)⟩, toHid ⟨HBO.out.1.setCell_other _ _ (by simp; omega), HBO.out.2.1.setCell_other _ _ (by simp; omega), HBO.out.2.2.setCell_other _ _ (by simp; omega)⟩, HT1, toHid ⟨⟨HOK.out.1.op0, HOK.out.1.op1, HOK.out.1.dst0, HOK.out.1.dst1, HOK.out.1.src0, HOK.out.1.src1, HOK.out.1.off0, HOK.out.1.off1, hvr.1, hvr.2⟩, HOK.out.2.1, HOK.out.2.2⟩⟩
                case measure => simp [intOf]; omega
          · obtain rfl : a = fs.length := by omega
            have HN := toHid (show tryF op u os fs i0 In.zero = none from (show tryF op u os fs i0 In.zero = _ from HS).trans (by rw [if_pos hub, List.drop_length]))
            clear HS hub
            go_wp2
            exact bodyPost_ret (v := .tuple #[.slice none 0 0, .bool false]) (by simp [results, Tryz.results24, go_sem]) rfl ⟨HTr, by rw [show tryP op src name fs = none from (show tryP op src name fs = _ from HP).trans (by rw [show tryF op u os fs i0 In.zero = _ from HN])]⟩
        · have hubf : useB u f = false := by simpa using hub
          have cu : wr.cell? ⟨B10, f, none⟩ = some (.bool false) := HBO.out.1.cell (by
            rw [← hubf]
            rcases (by omega : f = 0 ∨ f = 1 ∨ f = 2 ∨ f = 3) with rfl | rfl | rfl | rfl <;> rfl)
          have HS2 := toHid ((show tryF op u os fs i0 In.zero = _ from HS).trans (if_neg hub))
          clear HS hub hubf
          go_wp2
          go_roundw
          case rel => exact ⟨p + 1, a, i, nx, by go_num, rfl, by omega, ha, HS2, HBI, HBO, HTr, HOK⟩
          case measure => simp [intOf]; omega
      · obtain rfl : p = 4 := by omega
        have HS := toHid (show tryF op u os fs i0 In.zero = some (i, nx, fs.drop a) from (show tryF op u os fs i0 In.zero = _ from HF).trans (by rw [List.drop_eq_nil_of_le (by omega)]; rfl))
        clear HF
        by_cases hal : a = fs.length
        · subst hal
          obtain ⟨hiok, hiop, his1, hid, his⟩ := HOK.out
          have hpl : i.Pl := ⟨hiok, by rw [hiop]; exact hk, hid, his⟩
          obtain ⟨ln, hln⟩ : ∃ ln, ln = lineP i nx := ⟨_, rfl⟩
          have hlnl : ln.length ≤ 100 := by rw [hln]; exact lineP_len i nx hpl
          obtain ⟨lw, hlw⟩ : ∃ lw, lw = words ln := ⟨_, rfl⟩
          have HPP := toHid (show tryP op src name fs = if lw.length = fs.length + 1 ∧ lw.head? = some name then some (if (op : Int) = 24 then [i, nx] else [i]) else none from (show tryP op src name fs = _ from HP).trans (by
            rw [show tryF op u os fs i0 In.zero = _ from HS, List.drop_length, hlw, hln]))
          have HLI := toHid (fun w => rline_any i nx hiok hpl.known (fun h => his1 (by rw [hiop] at h; exact h.symm)) w ln hln)
          obtain ⟨hBi, hBx⟩ := HBI.out
          have y0 := hBi.cell (i := 0) (v := .int .u8 i.op) rfl
          have y1 := hBi.cell (i := 1) (v := .int .u8 i.dst) rfl
          have y2 := hBi.cell (i := 2) (v := .int .u8 i.src) rfl
          have y3 := hBi.cell (i := 3) (v := .int .i16 i.off) rfl
          have y4 := hBi.cell (i := 4) (v := .int .i32 i.imm) rfl
          have x0 := hBx.cell (i := 0) (v := .int .u8 nx.op) rfl
          have x1 := hBx.cell (i := 1) (v := .int .u8 nx.dst) rfl
          have x2 := hBx.cell (i := 2) (v := .int .u8 nx.src) rfl
          have x3 := hBx.cell (i := 3) (v := .int .i16 nx.off) rfl
          have x4 := hBx.cell (i := 4) (v := .int .i32 nx.imm) rfl
          clear HS hln hiop his1 hid his hpl HI0
          go_wp2_with fail
          refine (HLI.out wr).mono ?_
          rintro e w3 ⟨rfl, ht3⟩
          go_wp2_with fail
          refine (rwords_any ln w3 (by omega)).mono ?_
          rintro e w4 ⟨vw, rfl, ⟨g4, cap4, rfl, hR4, _⟩, ht4⟩
          rw [← hlw] at hR4 ⊢
          have ht34 := ht3.trans ht4 (by simp)
          have HT4 := toHid ((show Touch [] w wr from HTr).trans ht34 (by simp))
          have hBi4 := ht34.blk hBi (by simp)
          have hBx4 := ht34.blk hBx (by simp)
          have hwb4 := ht34.blk HBO.out.2.2 (by simp)
          clear hlw y0 y1 y2 y3 y4 x0 x1 x2 x3 x4 ht3 ht4 ht34 hBi hBx HBI HBO
          have y0 := hBi4.cell (i := 0) (v := .int .u8 i.op) rfl
          have y1 := hBi4.cell (i := 1) (v := .int .u8 i.dst) rfl
          have y2 := hBi4.cell (i := 2) (v := .int .u8 i.src) rfl
          have y3 := hBi4.cell (i := 3) (v := .int .i16 i.off) rfl
          have y4 := hBi4.cell (i := 4) (v := .int .i32 i.imm) rfl
          have x0 := hBx4.cell (i := 0) (v := .int .u8 nx.op) rfl
          have x1 := hBx4.cell (i := 1) (v := .int .u8 nx.dst) rfl
          have x2 := hBx4.cell (i := 2) (v := .int .u8 nx.src) rfl
          have x3 := hBx4.cell (i := 3) (v := .int .i16 nx.off) rfl
          have x4 := hBx4.cell (i := 4) (v := .int .i32 nx.imm) rfl
          have cw := hwb4.cell (i := 0) (v := str name) (by simp)
          simp only [slV, str] at cw ⊢
          by_cases hle : lw.length = fs.length + 1
          · obtain ⟨y, r, rfl⟩ : ∃ y r, lw = y :: r := by
              cases lw with
              | nil => simp at hle
              | cons y r => exact ⟨y, r, rfl⟩
            obtain ⟨b4, rfl⟩ : ∃ b4, g4 = some b4 := by
              cases g4 with
              | none =>
                have h4 : cap4 = 0 := hR4.2.2.2
                have := hR4.2.1
                simp only [List.length_cons] at this
                omega
              | some b4 => exact ⟨b4, rfl⟩
            obtain ⟨_, _, _, rs4, hB4, _⟩ := hR4
            have cy := hB4.cell (i := 0) (v := str y) (by simp)
            simp only [str] at cy
            have q1 : (((y :: r).length : Nat) : Int) = ((fs.length + 1 : Nat) : Int) := by omega
            have q2 : r.length = fs.length := by simpa using hle
            by_cases hyn : y = name
            · have HR := toHid (show tryP op src name fs = some [i] from (show tryP op src name fs = _ from HPP).trans (by
                rw [if_pos ⟨hle, by rw [hyn]; rfl⟩]
                rw [if_neg c4]))
              have by1 : (y == name) = true := by simpa using hyn
              subst hyn
              clear HPP hB4 hle q1
              simp only [List.length_cons, q2, Option.map_some]
              go_wp2_with fail
              go_quiet (fail)
              go_wp2
              refine bodyPost_ret (v := .tuple #[.slice (some ⟨w4.heap.size, 0, none⟩) 1 1, .bool true]) (by simp [results, Tryz.results24, go_sem]) rfl ⟨(HT4.out.drewN _).alloc _, ?_⟩
              rw [show tryP op src y fs = _ from HR]
              exact ⟨w4.heap.size, rfl, HT4.out.size, Blk.newA (w4.drewN _) _ _ 41 rfl⟩
            · have HR := toHid (show tryP op src name fs = none from (show tryP op src name fs = _ from HPP).trans (if_neg (fun h => hyn (by simpa using h.2))))
              have by1 : (y == name) = false := by simpa using hyn
              clear HPP hB4 hle q1
              simp only [List.length_cons, q2, Option.map_some]
              go_wp2_with fail
              go_quiet (fail)
              go_wp2
              exact bodyPost_ret (v := .tuple #[.slice none 0 0, .bool false]) (by simp [results, Tryz.results24, go_sem]) rfl ⟨HT4.out.drewN _, by rw [show tryP op src name fs = _ from HR]⟩
          · have HR := toHid (show tryP op src name fs = none from (show tryP op src name fs = _ from HPP).trans (if_neg (fun h => hle h.1)))
            have q1 : ((lw.length : Int) == (fs.length : Int) + 1) = false := beq_eq_false_iff_ne.2 (by omega)
            have q2 : ((lw.length : Int) != (fs.length : Int) + 1) = true := by rw [bne, q1]; rfl
            clear HPP
            go_wp2_with fail
            go_quiet (fail)
            go_wp2
            exact bodyPost_ret (v := .tuple #[.slice none 0 0, .bool false]) (by simp [results, Tryz.results24, go_sem]) rfl ⟨HT4.out.drewN _, by rw [show tryP op src name fs = _ from HR]⟩
        · have HN := toHid (show tryP op src name fs = none from (show tryP op src name fs = _ from HP).trans (by
            rw [show tryF op u os fs i0 In.zero = _ from HS]
            cases hd : fs.drop a with
            | nil => have := congrArg List.length hd; simp at this; omega
            | cons y r => rfl))
          have k1 : ((a : Int) == (fs.length : Int)) = false := beq_eq_false_iff_ne.2 (by omega)
          have k2 : ((a : Int) != (fs.length : Int)) = true := by rw [bne, k1]; rfl
          clear HS
          go_wp2
          exact bodyPost_ret (v := .tuple #[.slice none 0 0, .bool false]) (by simp [results, Tryz.results24, go_sem]) rfl ⟨HTr, by rw [show tryP op src name fs = _ from HN]⟩
end Go.Proofs.YthlfnmjefpdjgaaGreatDoor
