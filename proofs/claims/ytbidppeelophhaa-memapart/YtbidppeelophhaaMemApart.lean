/-
  For every input MemApart returns true, and each argument reads afterwards as it read before. No conditions. (The walk.)
-/
import Derived.Test.YtbidppeelophhaaApart
namespace Go.Proofs.Ytbidppeelophhaa
open Go.RowKit

theorem args12 (w : World) : ArgAt (w.alloc (.cells #[.int .u8 1, .int .u8 2] 5)) (.slice (some ⟨w.heap.size, 0, none⟩) 2 2) [1, 2] := by
  have hN := Blk.newA w #[.int .u8 1, .int .u8 2] _ 5 rfl
  refine ⟨_, 2, rfl, by decide, by decide, fun _ => ⟨w.heap.size, 0, rfl, fun j v hj => ?_⟩⟩
  rw [Nat.zero_add]
  exact hN.cell hj
theorem arg7 (w : World) : ArgAt (w.alloc (.cells #[.int .u8 7] 5)) (.slice (some ⟨w.heap.size, 0, none⟩) 1 1) [7] := by
  have hN := Blk.newA w #[.int .u8 7] _ 5 rfl
  refine ⟨_, 1, rfl, by decide, by decide, fun _ => ⟨w.heap.size, 0, rfl, fun j v hj => ?_⟩⟩
  rw [Nat.zero_add]
  exact hN.cell hj

set_option maxHeartbeats 4000000 in
set_option maxRecDepth 100000 in
theorem memApart_walk (b s0 s1 p0 p1 : Int) (w : World) (hb0 : 0 ≤ b) (hb1 : b ≤ 18446744073709551615) :
    Calls Try.prog 6 #[.int .u64 b, .agg #[.int .i64 s0, .int .i64 s1], .agg #[.int .i64 p0, .int .i64 p1]] w fun e w' => e = .returned (.bool true) ∧ Touch [] w w' := by
  have hA := (Blk.newA w #[.int .i64 s0, .int .i64 s1] _ 55 rfl).alloc (.cells #[.int .i64 p0, .int .i64 p1] 55)
  have hB := Blk.newA (w.alloc (.cells #[.int .i64 s0, .int .i64 s1] 55)) #[.int .i64 p0, .int .i64 p1] _ 55 rfl
  have ht0 : Touch [] w ((w.alloc (.cells #[.int .i64 s0, .int .i64 s1] 55)).alloc (.cells #[.int .i64 p0, .int .i64 p1] 55)) := ((Touch.refl _ w).alloc _).alloc _
  rw [show (w.alloc (.cells #[.int .i64 s0, .int .i64 s1] 55)).heap.size = w.heap.size + 1 by simp] at hB
  have HF := toHid (first_any ((w.alloc (.cells #[.int .i64 s0, .int .i64 s1] 55)).alloc (.cells #[.int .i64 p0, .int .i64 p1] 55)))
  have HI := toHid (And.intro hA (And.intro hB ht0))
  have HBB := toHid (And.intro hb0 hb1)
  clear hA hB ht0 hb0 hb1
  go_enter Try.func6, Try.ntmps6
  go_wp2_with fail
  refine HF.out.mono ?_
  rintro e w2 ⟨rfl, ht2⟩
  have hA := ht2.blk HI.out.1 (by simp)
  have hB := ht2.blk HI.out.2.1 (by simp)
  have HT := toHid (HI.out.2.2.trans ht2 (by simp))
  have c0 : w2.cell? ⟨w.heap.size, 0, none⟩ = some (.int .i64 s0) := hA.cell rfl
  have c1 : w2.cell? ⟨w.heap.size, 1, none⟩ = some (.int .i64 s1) := hA.cell rfl
  have d0 : w2.cell? ⟨w.heap.size + 1, 0, none⟩ = some (.int .i64 p0) := hB.cell rfl
  have d1 : w2.cell? ⟨w.heap.size + 1, 1, none⟩ = some (.int .i64 p1) := hB.cell rfl
  clear ht2 hA hB HI HF
  go_wp2_with fail
  go_quiet (fail)
  go_wp2_with fail
  go_quiet (fail)
  go_wp2_with fail
  have hX := mod_some s0
  have hY := mod_some s1
  have hP := mod_perm p0
  have hQ := mod_perm p1
  have hBB := and_base b HBB.out.1 HBB.out.2
  generalize wrap64 (1 + wrap64 ((IntKind.u64.wrap s0).tmod 16)) = X at *
  generalize wrap64 (1 + wrap64 ((IntKind.u64.wrap s1).tmod 16)) = Y at *
  generalize wrap64 ((IntKind.u64.wrap p0).tmod 8) = P at *
  generalize wrap64 ((IntKind.u64.wrap p1).tmod 8) = Q at *
  generalize bits BinOp.and IntKind.u64 b 281474976710655 = B at *
  refine (newM_any _).mono ?_
  rintro e w4 ⟨rfl, hM4, ht4⟩
  have ht4 := (HT.out.drewN _).trans ht4 (by simp)
  have HSZ := toHid HT.out.size
  clear c0 c1 d0 d1 HT HBB
  simp only [World.heap_drewN] at hM4 ⊢
  generalize w2.heap.size = m at *
  have H5 := toHid (addNew_any hM4 B X P hBB.1 (by omega) (by unfold mayBeB; exact decide_eq_true ⟨by omega, by omega, by omega, by omega, by omega⟩))
  have HT4 := toHid ht4
  clear hM4 ht4
  go_wp2_with fail
  refine H5.out.mono ?_
  rintro e w5 ⟨rfl, ht5, s5, hM5, hm5, hn5, hbl5, r1, hrs5, hr1⟩
  have hok1 := hM5.ok r1 (by rw [hrs5]; simp)
  have hl1 : (r1.bytes.length : Int) = X := by rw [hr1.hbytes]; simp; omega
  have he6 : addE s5.rs (B + X) Y Q = 0 := by
    unfold addE
    rw [if_neg, if_neg, if_neg]
    · rw [hrs5]; simp
    · rw [hrs5]
      unfold busyB
      simp [hr1.hbase, hl1]
    · unfold mayBeB
      simp
      omega
  have H6 := toHid (add_any hM5 (B + X) Y Q (by omega) (by omega) (by rw [hn5]; omega))
  rw [hm5] at H6
  have HS5 := toHid (And.intro hM5 (And.intro hm5 (And.intro hn5 (And.intro hbl5 (And.intro hrs5 (And.intro hr1 (And.intro hl1 (And.intro he6 ht5))))))))
  clear hM5 hm5 hn5 hbl5 hrs5 hr1 hl1 he6 ht5 hok1 H5
  go_wp2_with fail
  refine H6.out.mono ?_
  rintro e w6 ⟨rfl, ht6, s6, hM6, hown6, _, h6⟩
  obtain ⟨hM5, hm5, hn5, hbl5, hrs5, hr1, hl1, he6, ht5⟩ := HS5.out
  obtain ⟨hn6, i6, r2, hi6, hrs6, hr2⟩ := h6 he6
  have hm6 : s6.m = m := hown6.1.trans hm5
  have hl2 : (r2.bytes.length : Int) = Y := by rw [hr2.hbytes]; simp; omega
  have hrs : s6.rs = [r1, r2] := by
    rw [hrs6, hrs5]
    rw [hrs5] at hi6
    have : i6 = 0 ∨ i6 = 1 := by simp at hi6; omega
    rcases this with rfl | rfl
    · have := hM6.sorted
      rw [hrs6, hrs5] at this
      simp at this
      rw [hr2.hbase, hr1.hbase, hl2] at this
      omega
    · rfl
  have hTwo : Two s6.rs B X Y P Q r1 r2 := ⟨hrs, hr1.hbase, hl1, hr1.hperm, hr1.hid, hr2.hbase, hl2, hr2.hperm, by rw [hr2.hid, hn5]; rfl⟩
  have htt6 : Touch [] w w6 := (HT4.out.trans ht5 (fun x hx => Or.inr (by simp at hx; rw [hx]; exact HSZ.out))).trans ht6 (fun x hx => Or.inr (by
    rcases hbl5 x hx with rfl | hx
    · exact HSZ.out
    · have := HT4.out.size; omega))
  have hbl6 : ∀ x ∈ s6.blocks, w.heap.size ≤ x := fun x hx => by
    rcases hown6.2 x hx with hx | hx
    · rcases hbl5 x hx with rfl | hx
      · exact HSZ.out
      · have := HT4.out.size; omega
    · have := HT4.out.size; have := ht5.size; omega
  rw [he6, hn5]
  have HNX : Hid (s6.next = 2) := by show s6.next = 2; rw [hn6, hn5]
  have H7 := toHid (count_any hM6)
  rw [hm6, hrs] at H7
  have HK6 := toHid (And.intro hM6 (And.intro hm6 (And.intro hTwo (And.intro htt6 hbl6))))
  clear hM5 hm5 hn5 hbl5 hrs5 hr1 hl1 he6 ht5 H6 HS5 HT4 ht6 hM6 hown6 h6 hn6 hi6 hrs6 hr2 hl2 hrs hTwo htt6 hbl6 hm6
  go_wp2_with (go_at_call 12; refine H7.out.mono ?_; rintro e w6 ⟨rfl, rfl⟩)
  have H8 := toHid (read_any HK6.out.1 (B + X - 1) 2 (by omega) (by omega) (by decide))
  rw [HK6.out.2.1] at H8
  refine H8.out.mono ?_
  rintro e w7 ⟨v7, rfl, _, ht7⟩
  rw [HK6.out.2.2.1.readEdge hX.1 hY.1]
  have HM7 := toHid (HK6.out.1.touch ht7 (by simp))
  have HT7 := toHid (HK6.out.2.2.2.1.trans ht7 (by simp))
  have HTWO := toHid HK6.out.2.2.1
  have HSM := toHid HK6.out.2.1
  have HBL := toHid HK6.out.2.2.2.2
  have H9 := toHid (read_any HM7.out B 1 (by omega) (by omega) (by decide))
  rw [HSM.out] at H9
  clear H8 H7 ht7 HK6
  go_wp2_with fail
  refine H9.out.mono ?_
  rintro e w8 ⟨v8, rfl, _, ht8⟩
  have HR0 := toHid (HTWO.out.read0 hX.1 hY.1)
  generalize readE s6.rs B 1 = E0 at *
  have HM8 := toHid (HM7.out.touch ht8 (by simp))
  have HT8 := toHid (HT7.out.trans ht8 (by simp))
  have H10 := toHid (read_any HM8.out (B + X) 1 (by omega) (by omega) (by decide))
  rw [HSM.out] at H10
  clear H9 ht8 HM7 HT7
  go_wp2_with fail
  refine H10.out.mono ?_
  rintro e w9 ⟨v9, rfl, _, ht9⟩
  have HR1 := toHid (HTWO.out.read1 hX.1 hY.1)
  generalize readE s6.rs (B + X) 1 = E1 at *
  have HM9 := toHid (HM8.out.touch ht9 (by simp))
  have HT9 := toHid (HT8.out.trans ht9 (by simp))
  clear H10 ht9 HM8 HT8
  have hq0 : (E0 == 10) = (bits .and .i64 P 1 == 0) := by
    have := HR0.out
    by_cases h : bits .and .i64 P 1 = 0
    · simp [h, this.2 h]
    · have h2 : ¬ E0 = 10 := fun e => h (this.1 e)
      rw [beq_eq_false_iff_ne.2 h, beq_eq_false_iff_ne.2 h2]
  have hq1 : (E1 == 10) = (bits .and .i64 Q 1 == 0) := by
    have := HR1.out
    by_cases h : bits .and .i64 Q 1 = 0
    · simp [h, this.2 h]
    · have h2 : ¬ E1 = 10 := fun e => h (this.1 e)
      rw [beq_eq_false_iff_ne.2 h, beq_eq_false_iff_ne.2 h2]
  go_wp2_with fail
  have H11 := toHid (write_any (HM9.out.touch ((Touch.refl [] w9).alloc (.cells #[.int .u8 1, .int .u8 2] 5)) (by simp)) (B + X - 1) _ [1, 2] (by omega) (by omega) (args12 w9))
  rw [HSM.out] at H11
  clear hq0 hq1
  refine H11.out.mono ?_
  rintro e w10 ⟨rfl, ht10, hM10, hbl10⟩
  have hwe := HTWO.out.writeEdge hX.1 hY.1
  rw [hwe.1]
  rw [hwe.2] at hM10 hbl10
  have HM10 : Hid (MemAt w10 s6) := hM10
  have HT10 : Hid (Touch [] w w10) := (HT9.out.alloc _).trans ht10 (fun x hx => Or.inr (HBL.out x hx))
  clear H11 ht10 hM10 hbl10 hwe HM9 HT9
  go_wp2_with fail
  have H12 := toHid (write_any (HM10.out.touch ((Touch.refl [] w10).alloc (.cells #[.int .u8 7] 5)) (by simp)) B _ [7] (by omega) (by omega) (arg7 w10))
  rw [HSM.out] at H12
  refine H12.out.mono ?_
  rintro e w11 ⟨rfl, ht11, hM11, hbl11⟩
  have hwe := HTWO.out.write0 hX.1 hY.1
  obtain ⟨r1', hT11⟩ := hwe.2
  have hq2 : (writeE s6.rs B [7] == 0) = !(bits .and .i64 P 2 == 0) := by
    by_cases h : bits .and .i64 P 2 = 0
    · have h2 : ¬ writeE s6.rs B [7] = 0 := fun e => (hwe.1.1 e) h
      rw [beq_eq_false_iff_ne.2 h2, h]
      rfl
    · rw [hwe.1.2 h, beq_eq_false_iff_ne.2 h]
      rfl
  have hq3 : (bits .and .i64 P 2 != 0) = !(bits .and .i64 P 2 == 0) := rfl
  have HTWO2 := toHid hT11
  have HM11 := toHid hM11
  have HT11 : Hid (Touch [] w w11) := (HT10.out.alloc _).trans ht11 (fun x hx => Or.inr (HBL.out x hx))
  have HBL11 : Hid (∀ x ∈ ({ s6 with rs := writeRs s6.rs B [7] } : MS).blocks, w.heap.size ≤ x) := by rw [hbl11]; exact HBL.out
  have HSM11 : Hid (({ s6 with rs := writeRs s6.rs B [7] } : MS).m = m) := HSM.out
  have HRS11 : Hid (({ s6 with rs := writeRs s6.rs B [7] } : MS).rs = writeRs s6.rs B [7]) := rfl
  have HNX11 : Hid (({ s6 with rs := writeRs s6.rs B [7] } : MS).next = 2) := HNX.out
  generalize ({ s6 with rs := writeRs s6.rs B [7] } : MS) = s11 at *
  rw [← HRS11.out] at HTWO2
  generalize writeE s6.rs B [7] = E2 at *
  clear H12 ht11 hM11 hbl11 hwe hT11 HM10 HT10 HTWO HBL HSM HRS11
  have HQ := toHid hq2
  go_wp2_with fail
  have H13 := toHid (add_any HM11.out (B + X - 1) 1 1 (by omega) (by omega) (by rw [HNX11.out]; omega))
  rw [HSM11.out] at H13
  refine H13.out.mono ?_
  rintro e w12 ⟨rfl, ht12, s12, hM12, hown12, hs12, _⟩
  have hbusy := HTWO2.out.addBusy hX.1 hY.1 (by omega) (by omega)
  rw [hbusy]
  obtain rfl := hs12 (by rw [hbusy]; decide)
  have HM12 := toHid hM12
  have HT12 : Hid (Touch [] w w12) := HT11.out.trans ht12 (fun x hx => Or.inr (HBL11.out x hx))
  have H14 := toHid (kill_any HM12.out 0)
  rw [HSM11.out] at H14
  clear H13 ht12 hM12 hown12 hs12 hbusy HM11 HT11 hq2 hq3 HQ
  go_wp2_with fail
  refine H14.out.mono ?_
  rintro e w13 ⟨rfl, ht13, s13, hM13, hown13, hn13, hrs13⟩
  have hk := HTWO2.out.kill0 hX.1 hY.1
  rw [hk.1]
  rw [hk.2] at hrs13
  have hsm13 : s13.m = m := hown13.1.trans HSM11.out
  have HT13 : Hid (Touch [] w w13) := HT12.out.trans ht13 (fun x hx => Or.inr (HBL11.out x hx))
  have HBL13 : Hid (∀ x ∈ s13.blocks, w.heap.size ≤ x) := fun x hx => by
    rcases hown13.2 x hx with h | h
    · exact HBL11.out x h
    · have := HT12.out.size; omega
  have H15 := toHid (kill_any hM13 0)
  rw [hsm13] at H15
  have HS13 := toHid (And.intro hrs13 hsm13)
  have HC := toHid HTWO2.out.cid
  clear H14 ht13 hM13 hown13 hn13 hrs13 hk hsm13 HM12 HT12
  go_wp2_with fail
  refine H15.out.mono ?_
  rintro e w14 ⟨rfl, ht14, s14, hM14, hown14, hn14, hrs14⟩
  have hk1 : killE s13.rs 0 = 14 := by
    unfold killE regOf
    rw [HS13.out.1]
    simp [HC.out]
  have hk2 : s14.rs = [r2] := by
    rw [hrs14]
    unfold killRs
    rw [HS13.out.1]
    simp [HC.out]
  rw [hk1]
  have hsm14 : s14.m = m := hown14.1.trans HS13.out.2
  have HT14 : Hid (Touch [] w w14) := HT13.out.trans ht14 (fun x hx => Or.inr (HBL13.out x hx))
  have H16 := toHid (live_any hM14 1)
  rw [hsm14, hk2, show regOf [r2] 1 = some r2 by unfold regOf; simp [HC.out]] at H16
  clear H15 ht14 hM14 hown14 hn14 hrs14 hk1 hk2 hsm14
  go_wp2_with (go_at_call 24; refine H16.out.mono ?_; rintro e w15 ⟨rfl, ht15⟩; have HT15 := toHid (HT14.out.trans ht15 (by simp)); clear ht15)
  go_ret
  exact ⟨rfl, HT15.out⟩
end Go.Proofs.Ytbidppeelophhaa
