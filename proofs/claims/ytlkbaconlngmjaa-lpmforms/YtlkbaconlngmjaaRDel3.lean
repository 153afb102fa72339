/-
  The document's own Del and New, of prefixes.
-/
import Derived.Test.YtlkbaconlngmjaaRPut3
namespace Go.Proofs.Ytlkbaconlngmjaa
open Go.RowKit
attribute [local go_sem ↓] Go.wp_at_zero Go.wp_at_succ

/-- Del, of prefixes. -/
def PX.del3 (x : PX) (bs : List Int) : (Int × Int) × PX :=
  if x.fits3 bs = true then match sameP x.slots (cutP bs) with
    | some i => (((i : Int), 0), { x with slots := x.slots.set i none })
    | none => ((0, 14), x)
  else ((0, 2), x)
set_option maxHeartbeats 2000000 in
set_option maxRecDepth 100000 in
theorem rdel3_any {w : World} {x : RX} (h : RAt w x) (u : RUp x) (hk3 : x.kind = 3) (hs1 : 5 ≤ x.size) (hs2 : x.size ≤ 16) {sa : Option Addr} {sl : Nat} {bs : List Int} (hk : KeyAt w sa sl bs) (sc : Nat) (hsc : sl ≤ sc) :
    Calls Try.prog 23 #[.pointer (some ⟨x.r, 0, none⟩), .slice sa sl sc] w (DelPost w x (x.p.del3 bs)) := by
  have c0 := h.c0
  have HV : Hid (x.p.del3 bs = (if x.p.fits3 bs = true then match sameP x.p.slots (cutP bs) with
      | some i => (((i : Int), 0), { x.p with slots := x.p.slots.set i none })
      | none => ((0, 14), x.p)
    else ((0, 2), x.p) : (Int × Int) × PX)) := rfl
  have H1 := toHid (fits3_any h hk3 hs1 hs2 hk sc hsc)
  have hl := hk.1
  generalize x.p.del3 bs = pr at *
  have hfe : x.p.fits3 bs = fits3 x bs := rfl
  by_cases he : fits3 x bs = true
  · rw [he] at H1
    have HV2 := toHid (HV.out.trans (if_pos (by rw [hfe]; exact he)))
    clear HV
    have hsz : (bs.length : Int) = x.size := by
      unfold fits3 at he
      simp at he
      exact he.1
    have HSZ := toHid (And.intro (show 4 ≤ bs.length by omega) (show bs.length ≤ 16 by omega))
    have HH := toHid (And.intro h (And.intro u (And.intro hk3 hk)))
    rw [hk3] at c0
    clear h u hk he hl hk3 hfe hs1 hs2
    go_enter Try.func23, Try.ntmps23
    go_wp2_with fail
    refine Calls.mono H1.out ?_
    rintro e w2 ⟨rfl, ht2⟩
    have h2 := HH.out.1.touch ht2 (by simp)
    have H2 := toHid (same3_any h2 HH.out.2.2.1 (by have := HH.out.2.1.many; omega) (HH.out.2.2.2.touch ht2) HSZ.out.1 HSZ.out.2 sc hsc)
    rw [sameI_eq] at H2
    have HT := toHid ht2
    have HR2 := toHid h2
    have c3 := h2.c3
    clear ht2 h2 H1 c0
    cases hsm : sameP x.p.slots (cutP bs) with
    | none =>
      have hsm' : sameP (x.slots.map (Option.map KS.bs)) (cutP bs) = none := hsm
      rw [hsm'] at H2
      obtain rfl : pr = ((0, 14), x.p) := by rw [HV2.out, hsm]
      unfold idxI at H2
      simp only at H2
      clear hsm hsm'
      go_wp2_with fail
      refine Calls.mono H2.out ?_
      rintro e w3 ⟨rfl, ht3⟩
      have HF : Hid (∃ x', Step w w3 x x' x.p) := ⟨x, Step.refl HH.out.1 (HT.out.trans ht3 (by simp))⟩
      clear ht3 H2
      go_wp2
      go_ret2
      exact ⟨rfl, HF.out⟩
    | some i =>
      have hsm' : sameP (x.slots.map (Option.map KS.bs)) (cutP bs) = some i := hsm
      rw [hsm'] at H2
      obtain rfl : pr = (((i : Int), 0), { x.p with slots := x.p.slots.set i none }) := by rw [HV2.out, hsm]
      have hil : i < x.slots.length := by have := sameP_lt hsm'; simpa using this
      have hget : x.slots[i]? = some (x.slots.getD i none) := by
        rw [List.getD_eq_getElem?_getD, List.getElem?_eq_getElem hil]
        rfl
      unfold idxI at H2
      simp only at H2
      have HGT := toHid (And.intro hil hget)
      clear hsm hsm' hget c3
      go_wp2_with fail
      refine Calls.mono H2.out ?_
      rintro e w3 ⟨rfl, ht3⟩
      have HT3 := toHid (HT.out.trans ht3 (by simp))
      have hR3 := HR2.out.touch ht3 (by simp)
      have hget := HGT.out.2
      obtain ⟨gb, hgb, hc⟩ := hR3.slot hget
      have hfz : w3.frozen? ⟨gb, i, none⟩ = false := by
        have hq := hR3.row.2.2.2
        rw [hgb] at hq
        obtain ⟨_, hB, _⟩ := hq
        exact hB.frozen _
      have hpl := hR3.placed hgb hil none (fun k hk => by cases hk)
      have HF : Hid (∃ x', Step w (w3.setCell ⟨gb, i, none⟩ (.slice none 0 0)) x x' { x.p with slots := x.p.slots.set i none }) := by
        refine ⟨_, ⟨hpl, ?_, rfl, (Touch.nil HT3.out).setCell _ _ (Or.inl (RX.mem_g hgb)), fun b hb => Or.inl ?_, rfl, by simp⟩⟩
        · unfold RX.p
          rw [List.map_set]
          rfl
        · rcases List.mem_append.1 hb with hb | hb
          · exact List.mem_append_left _ hb
          · obtain ⟨a, ha, hab⟩ := List.mem_filterMap.1 hb
            rcases List.mem_or_eq_of_mem_set ha with ha | ha
            · exact List.mem_append_right _ (List.mem_filterMap.2 ⟨a, ha, hab⟩)
            · subst ha
              cases hab
      have c3 := hR3.c3
      rw [hgb, slV_some] at c3
      have hil' : (i : Int) < x.slots.length := by omega
      have hnn := HH.out.2.1.many
      generalize slotV (x.slots.getD i none) = oldv at hc
      clear hget hpl hgb ht3 hR3 H2
      go_wp2
      go_ret2
      exact ⟨rfl, HF.out⟩
  · have he2 : fits3 x bs = false := by simpa using he
    rw [he2] at H1
    obtain rfl : pr = ((0, 2), x.p) := by rw [HV.out, if_neg (by rw [hfe, he2]; simp)]
    have HH := toHid h
    rw [hk3] at c0
    clear h u hk he hl hk3 hfe hs1 hs2
    go_enter Try.func23, Try.ntmps23
    go_wp2_with fail
    refine Calls.mono H1.out ?_
    rintro e w2 ⟨rfl, ht2⟩
    have HF : Hid (∃ x', Step w w2 x x' x.p) := ⟨x, Step.refl HH.out ht2⟩
    clear ht2 H1
    go_wp2
    go_ret2
    exact ⟨rfl, HF.out⟩

set_option maxHeartbeats 4000000 in
set_option maxRecDepth 100000 in
theorem rnew3_any (w : World) (size : Int) (m : Nat) (s1 : 5 ≤ size) (s2 : size ≤ 16) (h1 : 1 ≤ m) (h2 : m ≤ 64) : Calls Try.prog 9 #[.int .i64 3, .int .i64 size, .int .i64 (m : Int)] w (FreshPost w 3 size m) := by
  have hmk := run_make_blk (P := Try.prog) Try.underlying38 info32 rfl m (by omega) (by omega) .i64
  have hmk2 := run_make_blk (P := Try.prog) Try.underlying59 info3 rfl m (by omega) (by omega) .i64
  go_enter Try.func9, Try.ntmps9
  go_upto_region 8 with fail
  go_cut [10] from 10 to 40 (fun p wx => ∃ R sb wb, p = .pointer (some ⟨R, 0, none⟩) ∧ Hid (FreshAt w wx R sb wb 3 size m))
  case first =>
    go_region
    · go_wp2
      go_meet
      have b1 := Blk.newA w (Array.replicate m (Value.slice none 0 0)) (List.replicate m (.slice none 0 0)) 32 (by simp)
      have b2 := Blk.newA (w.alloc (Obj.cells (Array.replicate m (Value.slice none 0 0)) 32)) (Array.replicate m (Value.int .i64 0)) (List.replicate m (.int .i64 0)) 3 (by simp)
      have b3 := Blk.newA ((w.alloc (Obj.cells (Array.replicate m (Value.slice none 0 0)) 32)).alloc (Obj.cells (Array.replicate m (Value.int .i64 0)) 3)) #[.int .i64 3, .int .i64 size, .int .i64 (m : Int), .slice (some ⟨w.heap.size, 0, none⟩) m m, .slice (some ⟨w.heap.size + 1, 0, none⟩) m m, .int .i64 0] _ 61 rfl
      simp only [World.size_alloc] at b2 b3
      exact ⟨w.heap.size + 1 + 1, w.heap.size, w.heap.size + 1, rfl, fresh_zero b3.drew ((b1.alloc _).alloc _).drew (b2.alloc _).drew (by omega) (by omega) (by omega) (by omega) (by omega) (by omega) h2 ((((Touch.refl [] w).alloc _).alloc _).alloc _).drew⟩
    · go_wp2
      go_meet
      have b1 := Blk.newA w (Array.replicate m (Value.int .i64 0)) (List.replicate m (.int .i64 0)) 3 (by simp)
      have b2 := Blk.newA (w.alloc (Obj.cells (Array.replicate m (Value.int .i64 0)) 3)) (Array.replicate m (Value.slice none 0 0)) (List.replicate m (.slice none 0 0)) 32 (by simp)
      have b3 := Blk.newA ((w.alloc (Obj.cells (Array.replicate m (Value.int .i64 0)) 3)).alloc (Obj.cells (Array.replicate m (Value.slice none 0 0)) 32)) #[.int .i64 3, .int .i64 size, .int .i64 (m : Int), .slice (some ⟨w.heap.size + 1, 0, none⟩) m m, .slice (some ⟨w.heap.size, 0, none⟩) m m, .int .i64 0] _ 61 rfl
      simp only [World.size_alloc] at b2 b3
      exact ⟨w.heap.size + 1 + 1, w.heap.size + 1, w.heap.size, rfl, fresh_zero b3.drew (b2.alloc _).drew ((b1.alloc _).alloc _).drew (by omega) (by omega) (by omega) (by omega) (by omega) (by omega) h2 ((((Touch.refl [] w).alloc _).alloc _).alloc _).drew⟩
  case rest =>
    obtain ⟨R, sb, wb, rfl, HZ⟩ := hcut
    clear hmk hmk2
    go_wp2_with fail
    go_loopw [11] (fun t w' => t = .int .i64 0 ∧ Hid (FreshAt w w' R sb wb 3 size m)) (fun _ _ => 0)
    case atStart => exact ⟨rfl, HZ.out⟩
    case round =>
      clear HZ
      obtain ⟨rfl, HI⟩ := hrel
      go_wp2
      go_ret2
      exact ⟨R, sb, wb, rfl, HI.out⟩
theorem rnew3_bad (w : World) (size m : Int) (h1 : ¬ (1 ≤ m ∧ m ≤ 64 ∧ 5 ≤ size ∧ size ≤ 16)) : Calls Try.prog 9 #[.int .i64 3, .int .i64 size, .int .i64 m] w fun e w' => e = .returned (.tuple #[.pointer none, .bool false]) ∧ w' = w := by
  by_cases a1 : m < 1
  · go_enter Try.func9, Try.ntmps9
    go_wp2
    go_ret2
    exact ⟨rfl, rfl⟩
  · by_cases a2 : 64 < m
    · go_enter Try.func9, Try.ntmps9
      go_wp2
      go_ret2
      exact ⟨rfl, rfl⟩
    · by_cases a3 : size < 5
      · clear h1
        go_enter Try.func9, Try.ntmps9
        go_wp2
        go_ret2
        exact ⟨rfl, rfl⟩
      · have a4 : 16 < size := by omega
        clear h1
        go_enter Try.func9, Try.ntmps9
        go_wp2
        go_ret2
        exact ⟨rfl, rfl⟩
end Go.Proofs.Ytlkbaconlngmjaa
