/-
  RingEnds.
-/
import Derived.Test.YtkfmhabplcikiaaGRoom
namespace Go.Proofs.Ytkfmhabplcikiaa.Ring
open Go.RowKit
attribute [local go_sem ↓] Go.wp_at_zero Go.wp_at_succ

theorem layR_get {r : Mem.Reg} {a : Nat} {v : Int} (h : a < r.bytes.length) : (Mem.layR r a [v]).bytes.length = r.bytes.length ∧ (Mem.layR r a [v]).bytes.getD a 0 = v := by
  refine ⟨Mem.layR_len (by simp; omega), ?_⟩
  unfold Mem.layR
  rw [List.getD_eq_getElem?_getD, List.append_assoc, List.getElem?_append_right (by simp; omega)]
  simp
  rw [show a - min a r.bytes.length = 0 by omega]
  rfl
theorem byte_small {v : Int} (h0 : 0 ≤ v) (h1 : v ≤ 255) : Mem.byteOf v 0 = v := by
  unfold Mem.byteOf
  simp
  omega
theorem GSolo.putLast {w0 w : World} {x : RG} {s : Mem.MS} (h : GSolo w0 w x s) {r : Mem.Reg} (hrs : s.rs = [r]) {id z : Int} (hr : Mem.NewReg r id 68719476736 z 3) (z1 : 1 ≤ z) (z2 : z ≤ 64) {M : Nat} (hM : s.m = M) {A v : Int} (hA : A = 68719476736 + z - 1) (v0 : 0 ≤ v) (v1 : v ≤ 255) :
    Calls Try.prog 18 #[.pointer (some ⟨M, 0, none⟩), .int .u64 A, .int .i64 1, .int .u64 v] w fun e w' => e = .returned (.int .i64 0) ∧ ∃ (s2 : Mem.MS) (r2 : Mem.Reg), s2.rs = [r2] ∧ s2.m = M ∧ s2.next = s.next ∧ r2.id = r.id ∧ r2.base = 68719476736 ∧ (r2.bytes.length : Int) = z ∧ r2.bytes.getD (z - 1).toNat 0 = v ∧ GSolo w0 w' x s2 := by
  subst hM
  have hl : (r.bytes.length : Int) = z := by rw [hr.hbytes]; simp; omega
  have hA' : A = r.base + ((z - 1).toNat : Nat) := by rw [hr.hbase]; omega
  subst hA'
  obtain ⟨e1, e2⟩ := store_one (r := r) (off := (z - 1).toNat) hr.hperm (by omega) v
  refine (Mem.store_any h.b.mem _ 1 v (by rw [hr.hbase]; omega) (by rw [hr.hbase]; omega) v0).mono ?_
  intro e w' hp
  have hs := h.store hp
  have hv := hp.1
  rw [hrs, e1] at hv
  have h2 := layR_get (r := r) (a := (z - 1).toNat) (v := Mem.byteOf v 0) (by omega)
  refine ⟨hv, { s with rs := Mem.storeRs s.rs (r.base + ((z - 1).toNat : Nat)) 1 v }, Mem.layR r (z - 1).toNat [Mem.byteOf v 0], ?_, rfl, rfl, rfl, hr.hbase, ?_, ?_, hs⟩
  · show Mem.storeRs s.rs _ 1 v = _
    rw [hrs, e2]
  · rw [h2.1, hl]
  · rw [h2.2, byte_small v0 v1]
theorem GSolo.putOver {w0 w : World} {x : RG} {s : Mem.MS} (h : GSolo w0 w x s) {r : Mem.Reg} (hrs : s.rs = [r]) (hb : r.base = 68719476736) {z : Int} (hl : (r.bytes.length : Int) = z) (z2 : z ≤ 64) {M : Nat} (hM : s.m = M) {A : Int} (hA : A = 68719476736 + z) :
    Calls Try.prog 18 #[.pointer (some ⟨M, 0, none⟩), .int .u64 A, .int .i64 1, .int .u64 1] w fun e w' => e = .returned (.int .i64 10) ∧ ∃ s2 : Mem.MS, s2.rs = [r] ∧ s2.m = M ∧ s2.next = s.next ∧ GSolo w0 w' x s2 := by
  subst hM
  have hA' : A = r.base + r.bytes.length := by rw [hb]; omega
  subst hA'
  obtain ⟨e1, e2⟩ := store_out (r := r) 1
  refine (Mem.store_any h.b.mem _ 1 1 (by rw [hb]; omega) (by rw [hb]; omega) (by omega)).mono ?_
  intro e w' hp
  have hs := h.store hp
  have hv := hp.1
  rw [hrs, e1] at hv
  refine ⟨hv, { s with rs := Mem.storeRs s.rs (r.base + (r.bytes.length : Nat)) 1 1 }, ?_, rfl, rfl, hs⟩
  show Mem.storeRs s.rs _ 1 1 = _
  rw [hrs, e2]
theorem Rows.beside {w w' : World} {g : Option Nat} {cap : Nat} {l : List KR} (h : Rows w g cap l) {x : RG} {s : Mem.MS} (st : GStep w w' x x s s) (hb : ∀ b ∈ rowsBl g l, b ∉ x.blocks ∧ b ∉ s.blocks) : Rows w' g cap l :=
  h.touch st.touch (fun b hbb hx => by
    rcases List.mem_append.1 hx with hx | hx
    · exact (hb b hbb).1 hx
    · exact (hb b hbb).2 hx)
set_option maxHeartbeats 4000000 in
set_option maxRecDepth 100000 in
theorem ends_law {w : World} {sa : Option Addr} {n sc : Nat} {f : Nat → Int} (hn : NumsT w sa n f) (send : Int) (_o0 : 0 ≤ send) (_o1 : send ≤ 18446744073709551615) :
    Calls Try.prog 4 #[.slice sa n sc, .int .u64 send] w fun e w' => e = .returned (.bool true) ∧ Touch [] w w' := by
  have HN := toHid hn
  have hn1 := hn.small
  clear hn
  go_enter Try.func4, Try.ntmps4
  go_wp2_with fail
  refine (first_any _).mono ?_
  rintro e w0 ⟨rfl, ht0⟩
  have HT0 := toHid ht0
  clear ht0
  go_wp2_with fail
  refine (greserve_nil _ _).mono ?_
  rintro e w1 ⟨rfl, rfl⟩
  go_wp2_with fail
  refine (gnew_nil _).mono ?_
  rintro e w2 ⟨rfl, ht2⟩
  have HT2 := toHid (HT0.out.trans ht2 (by simp))
  clear ht2 HT0
  go_wp2_with fail
  refine (gsubmit_nil _ _).mono ?_
  rintro e w3 ⟨rfl, rfl⟩
  go_wp2_with fail
  refine (gdiscard_nil _ _).mono ?_
  rintro e w3 ⟨rfl, rfl⟩
  go_wp2_with fail
  refine (gopen_nil _).mono ?_
  rintro e w3 ⟨rfl, rfl⟩
  go_wp2_with fail
  refine (gout_nil _).mono ?_
  rintro e w3 ⟨rfl, rfl⟩
  go_wp2_with fail
  refine (Mem.newM_any _).mono ?_
  rintro e w4 ⟨rfl, hM, ht4⟩
  have H1 := toHid (gnew_any hM)
  have HM := toHid (And.intro hM ht4)
  clear hM ht4
  go_wp2_with fail
  refine Calls.mono H1.out ?_
  rintro e w5 ⟨rfl, hB, ht5⟩
  have hS : GSolo w3 w5 (RG.new w4.heap.size w3.heap.size) (Mem.MS.new w3.heap.size) := GSolo.new hB rfl HM.out.2 ht5 (fun b hb => by
    have : b = w3.heap.size := by simpa [Mem.MS.blocks, Mem.MS.new] using hb
    omega)
  generalize hMM : w3.heap.size = M at *
  have HP0 : Hid (∃ x s, GSolo w3 w5 x s ∧ x.r = w4.heap.size ∧ s.m = M ∧ x.recs = closed ∧ x.l.length = 0 ∧ s.rs = [] ∧ s.next = 0) := ⟨_, _, hS, rfl, rfl, rfl, rfl, rfl, rfl⟩
  clear hB ht5 hS H1 HM hMM
  generalize w4.heap.size = R at *
  go_wp2_with fail
  go_loopw [13, 71] (fun o t w' => ∃ k c : Nat, k ≤ n ∧ k ≤ 40 ∧ c ≤ k ∧ o = .int .i64 c ∧ t = .int .i64 k ∧ Hid (∃ x s, GSolo w3 w' x s ∧ x.r = R ∧ s.m = M ∧ x.recs = closed ∧ x.l.length = c ∧ s.rs = [] ∧ s.next = k)) (fun _ t _ => n - (intOf t).toNat)
  case atStart => exact ⟨0, 0, by omega, by omega, by omega, rfl, rfl, HP0⟩
  case round =>
    clear HP0
    obtain ⟨k, c, hk, hk40, hck, rfl, rfl, HI⟩ := hrel
    by_cases hlt : k < n
    · obtain ⟨x, s, hS, hxr, hsm, hxc, hxl, hrs, hnx⟩ := HI.out
      obtain ⟨b, off, hsa, hf0, hf1, hcell⟩ := HN.out.at_ k hlt
      have hcw := (HT2.out.trans hS.touch (by simp)).cell hcell (by simp)
      subst hsa
      generalize f k = fk at *
      have hkn : (k : Int) < n := by omega
      by_cases h40 : k = 40
      · have h40' : (40 : Int) ≤ k := by omega
        have HF := toHid (HT2.out.trans hS.touch (by simp))
        clear hcell hS hxr hsm hxc hxl hrs hnx HI h40
        go_wp2
        go_ret
        exact ⟨rfl, HF.out⟩
      · have h40' : ¬ (40 : Int) ≤ k := by omega
        have H2 : Hid (∀ z : Int, 1 ≤ z → z ≤ 64 → Calls Try.prog 12 #[.pointer (some ⟨R, 0, none⟩), .int .u64 z] wr fun e w' => e = .returned (.tuple #[.int .u64 68719476736, .int .i64 0]) ∧ ∃ (x' : RG) (s' : Mem.MS) (r : Mem.Reg), s'.rs = [r] ∧ s'.next = k + 1 ∧ Mem.NewReg r k 68719476736 z 3 ∧ s'.m = M ∧ x'.r = R ∧ x'.recs = closed.set 0 (some k) ∧ x'.l = x.l ∧ GSolo w3 w' x' s') := fun z z1 z2 => by
          rw [← hxr]
          refine (hS.reserve (n := 0) (by omega) (by rw [hxc]; rfl) (by rw [hxc]; rfl) z1 z2 (by rw [hrs]; simp) (by omega)).mono ?_
          rintro e w' ⟨rfl, s', r, i, hi, hrs', hnx', hnr, hm', _, hS'⟩
          exact ⟨rfl, { x with recs := x.recs.set 0 (some s.next) }, s', r, by rw [hrs', hrs]; simp, by rw [hnx', hnx], by rw [← hnx]; exact hnr, by rw [hm', hsm], rfl, by show x.recs.set 0 _ = _; rw [hxc, hnx], rfl, hS'⟩
        have HXL := toHid hxl
        clear hcell hS hxr hsm hxc hrs hnx HI h40 hxl
        go_wp2_with fail
        have hzz : 1 ≤ fk % 64 + 1 ∧ fk % 64 + 1 ≤ 64 := by omega
        obtain ⟨zN, hzN⟩ : ∃ zN : Nat, fk % 64 + 1 = zN := ⟨(fk % 64 + 1).toNat, by omega⟩
        rw [hzN] at hzz ⊢
        clear hzN
        generalize hzq : (zN : Int) = z at *
        refine Calls.mono (H2.out _ hzz.1 hzz.2) ?_
        rintro e w6 ⟨rfl, x1, s1, r1, hrs1, hnx1, hnr1, hm1, hxr1, hxc1, hxl1, hS1⟩
        have H3 := toHid (gopen_any hS1.b.ring)
        rw [hxr1, hxc1, show openN (closed.set 0 (some k)) = 1 from rfl] at H3
        have HX1 := toHid (And.intro hxr1 (And.intro hxc1 (And.intro hxl1 (And.intro hnx1 hnr1.hid))))
        have H4 : Hid (∀ w7, Touch [] w6 w7 → ∀ A v : Int, A = 68719476736 + z - 1 → 0 ≤ v → v ≤ 255 → Calls Try.prog 18 #[.pointer (some ⟨M, 0, none⟩), .int .u64 A, .int .i64 1, .int .u64 v] w7 fun e w' => e = .returned (.int .i64 0) ∧ ∃ (s2 : Mem.MS) (r2 : Mem.Reg), s2.rs = [r2] ∧ s2.m = M ∧ s2.next = s1.next ∧ r2.id = r1.id ∧ r2.base = 68719476736 ∧ (r2.bytes.length : Int) = z ∧ r2.bytes.getD (z - 1).toNat 0 = v ∧ GSolo w3 w' x1 s2) := fun w7 ht A v hA v0 v1 => (hS1.still ht).putLast hrs1 hnr1 hzz.1 hzz.2 hm1 hA v0 v1
        clear hrs1 hnx1 hnr1 hm1 hxr1 hxc1 hxl1 hS1 H2
        go_wp2_with fail
        refine Calls.mono H3.out ?_
        rintro e w7 ⟨rfl, ht7⟩
        have HT7 := toHid ht7
        clear ht7 H3
        go_wp2_with fail
        refine Calls.mono (H4.out _ HT7.out _ _ (by omega) (by omega) (by omega)) ?_
        rintro e w8 ⟨rfl, s2, r2, hrs2, hm2, hnx2, hid2, hb2, hl2, hlast, hS2⟩
        have H5 : Hid (∀ A : Int, A = 68719476736 + z → Calls Try.prog 18 #[.pointer (some ⟨M, 0, none⟩), .int .u64 A, .int .i64 1, .int .u64 1] w8 fun e w' => e = .returned (.int .i64 10) ∧ ∃ s3 : Mem.MS, s3.rs = [r2] ∧ s3.m = M ∧ s3.next = s2.next ∧ GSolo w3 w' x1 s3) := fun A hA => hS2.putOver hrs2 hb2 hl2 hzz.2 hm2 hA
        have HX2 := toHid (And.intro hnx2 (And.intro hid2 (And.intro hl2 hlast)))
        clear hrs2 hm2 hnx2 hid2 hb2 hl2 hlast hS2 H4 HT7
        go_wp2_with fail
        refine Calls.mono (H5.out _ (by omega)) ?_
        rintro e w9 ⟨rfl, s3, hrs3, hm3, hnx3, hS3⟩
        have HX3 := toHid (And.intro hrs3 (And.intro hm3 (And.intro hnx3 hS3)))
        clear hrs3 hm3 hnx3 hS3 H5
        cases hbit : (bits .and .u64 (send / 2 ^ (k % 64)) 1 == 1) with
        | true =>
          have H6 : Hid (Calls Try.prog 14 #[.pointer (some ⟨R, 0, none⟩), .int .u64 68719476736] w9 fun e w' => e = .returned (.int .i64 0) ∧ ∃ (x6 : RG) (s6 : Mem.MS), GSolo w3 w' x6 s6 ∧ x6.r = R ∧ s6.m = M ∧ x6.recs = closed ∧ x6.l.length = c + 1 ∧ s6.rs = [] ∧ s6.next = k + 1 ∧ ∃ kr, x6.l[c]? = some kr ∧ (kr.bs.length : Int) = z ∧ kr.bs.getD (z - 1).toNat 0 = k) := by
            obtain ⟨hxr1, hxc1, hxl1, hnx1, hid1⟩ := HX1.out
            obtain ⟨hnx2, hid2, hl2, hlast⟩ := HX2.out
            obtain ⟨hrs3, hm3, hnx3, hS3⟩ := HX3.out
            have hc := HXL.out
            rw [← hxr1]
            refine (hS3.submit (n := 0) (i := k) (by rw [hxl1, hc]; omega) (by rw [hxc1]; rfl)).mono ?_
            rintro e w' ⟨he, r5, s5, g5, cap5, k5, hr5, hid5, hk5, hrs5, hnx5, hm5, _, hS5⟩
            rw [hrs3] at hr5 hrs5
            simp only [List.mem_singleton] at hr5
            subst hr5
            refine ⟨he, _, s5, hS5, rfl, by rw [hm5, hm3], by show x1.recs.set 0 none = _; rw [hxc1]; rfl, by show (x1.l ++ [k5]).length = _; rw [List.length_append, hxl1, hc]; rfl, by rw [hrs5, ← hid5, kill_one], by rw [hnx5, hnx3, hnx2, hnx1], k5, ?_, by rw [hk5]; exact hl2, by rw [hk5]; exact hlast⟩
            show (x1.l ++ [k5])[c]? = _
            rw [List.getElem?_append_right (by rw [hxl1, hc]; omega), hxl1, hc]
            simp
          go_wp2_with fail
          refine Calls.mono H6.out ?_
          rintro e w10 ⟨rfl, x6, s6, hX6⟩
          have HX6 := toHid hX6
          clear hX6 H6 HX1 HX2 HX3 HXL
          have H7 := toHid (gout_any HX6.out.1.b.ring (by have := HX6.out.2.2.2.2.1; omega))
          rw [HX6.out.2.1] at H7
          go_wp2_with fail
          refine Calls.mono H7.out ?_
          rintro e w11 ⟨g7, cap7, l7, rfl, hR7, hbs7, ht7, hf7⟩
          have hll : l7.length = c + 1 := by
            have h1 := congrArg List.length hbs7
            simp at h1
            rw [h1]
            exact HX6.out.2.2.2.2.1
          have hfr : ∀ b ∈ rowsBl g7 l7, b ∉ x6.blocks ∧ b ∉ s6.blocks := fun b hb => by
            have h1 := hf7 b hb
            refine ⟨fun hx => ?_, fun hx => ?_⟩
            · have := HX6.out.1.b.ring.lt b hx; omega
            · have := HX6.out.1.b.mem.lt b hx; omega
          have hS11 := HX6.out.1.still ht7
          have H8 := toHid (hS11.submit_no (by have := HX6.out.2.2.2.2.1; omega) HX6.out.2.2.2.1 68719476736)
          rw [HX6.out.2.1] at H8
          have HR7 := toHid (And.intro hR7 (And.intro hbs7 hfr))
          clear hR7 hbs7 ht7 hf7 hfr hS11 H7
          unfold slV
          rw [hll]
          clear hll
          obtain ⟨kr, hk1, hk2, hk3⟩ := HX6.out.2.2.2.2.2.2.2
          have hkq : ∃ kq, l7[c]? = some kq ∧ kq.bs = kr.bs := by
            have h1 := congrArg (fun l => l[c]?) HR7.out.2.1
            simp only [List.getElem?_map, hk1, Option.map_some] at h1
            cases hq : l7[c]? with
            | none => rw [hq] at h1; cases h1
            | some kq => rw [hq] at h1; exact ⟨kq, rfl, by simpa using h1⟩
          obtain ⟨kq, hkq1, hkq2⟩ := hkq
          obtain ⟨bg, hbg, _⟩ := HR7.out.1.cell hkq1
          have HKQ : Hid (l7[c]? = some kq ∧ (kq.bs.length : Int) = z ∧ kq.bs.getD (z - 1).toNat 0 = k) := ⟨hkq1, by rw [hkq2]; exact hk2, by rw [hkq2]; exact hk3⟩
          clear hk1 hk2 hk3 hkq1 hkq2
          subst hbg
          simp only [Option.map_some]
          go_wp2_with fail
          refine Calls.mono H8.out ?_
          rintro e w12 ⟨rfl, st12, hS12⟩
          have H9 := toHid (hS12.discard_no HX6.out.2.2.2.1 68719476736)
          rw [HX6.out.2.1] at H9
          have HR12 := toHid (HR7.out.1.beside st12 HR7.out.2.2)
          clear st12 hS12 H8
          go_wp2_with fail
          refine Calls.mono H9.out ?_
          rintro e w13 ⟨rfl, st13, hS13⟩
          have H10 := toHid (Mem.count_any hS13.b.mem)
          rw [HX6.out.2.2.1, HX6.out.2.2.2.2.2.1] at H10
          have HR13 := toHid (HR12.out.beside st13 HR7.out.2.2)
          have HS13 := toHid hS13
          clear st13 hS13 H9
          go_wp2_with fail
          refine H10.out.mono ?_
          rintro e w14 ⟨rfl, rfl⟩
          have HNX : Hid (∃ x s, GSolo w3 w14 x s ∧ x.r = R ∧ s.m = M ∧ x.recs = closed ∧ x.l.length = c + 1 ∧ s.rs = [] ∧ s.next = k + 1) := ⟨x6, s6, HS13.out, HX6.out.2.1, HX6.out.2.2.1, HX6.out.2.2.2.1, HX6.out.2.2.2.2.1, HX6.out.2.2.2.2.2.1, HX6.out.2.2.2.2.2.2.1⟩
          clear H10
          simp only [List.length_nil]
          obtain ⟨bg2, hbg2, hcell⟩ := HR13.out.cell HKQ.out.1
          obtain rfl : bg2 = bg := by injection hbg2 with hbg2; exact hbg2.symm
          have hA := (HR13.out.keys kq (List.mem_of_getElem? HKQ.out.1)).1
          have hlq : kq.bs.length = zN := by have := HKQ.out.2.1; omega
          have hcc := hA.cell (zN - 1) (by omega)
          have hkk : kq.bs.getD (zN - 1) 0 = k := by
            have := HKQ.out.2.2
            rw [← hzq] at this
            rw [show ((zN : Int) - 1).toNat = zN - 1 by omega] at this
            exact this
          rw [hkk] at hcc
          unfold KR.v at hcell
          rw [hlq] at hcell
          subst hzq
          clear hA hlq hkk hbg2
          clear HR7 HR12 HR13 HS13 HX6
          go_wp2
          go_roundw
          case rel => exact ⟨k + 1, c + 1, by omega, by omega, by omega, by go_num, by go_num, HNX⟩
          case measure => simp [intOf]; omega
        | false =>
          have H6 : Hid (Calls Try.prog 17 #[.pointer (some ⟨R, 0, none⟩), .int .u64 68719476736] w9 fun e w' => e = .returned (.int .i64 0) ∧ ∃ (x6 : RG) (s6 : Mem.MS), GSolo w3 w' x6 s6 ∧ x6.r = R ∧ s6.m = M ∧ x6.recs = closed ∧ x6.l.length = c ∧ s6.rs = [] ∧ s6.next = k + 1 ∧ True) := by
            obtain ⟨hxr1, hxc1, hxl1, hnx1, hid1⟩ := HX1.out
            obtain ⟨hnx2, hid2, hl2, hlast⟩ := HX2.out
            obtain ⟨hrs3, hm3, hnx3, hS3⟩ := HX3.out
            have hc := HXL.out
            rw [← hxr1]
            refine (hS3.discard (n := 0) (i := k) (by rw [hxc1]; rfl)).mono ?_
            rintro e w' ⟨he, s5, hrs5, hnx5, hm5, _, hS5⟩
            rw [hrs3] at hrs5
            refine ⟨he, _, s5, hS5, rfl, by rw [hm5, hm3], by show x1.recs.set 0 none = _; rw [hxc1]; rfl, by show x1.l.length = _; rw [hxl1, hc], by rw [hrs5, ← hid1, ← hid2, kill_one], by rw [hnx5, hnx3, hnx2, hnx1], trivial⟩
          go_wp2_with fail
          refine Calls.mono H6.out ?_
          rintro e w10 ⟨rfl, x6, s6, hX6⟩
          have HX6 := toHid hX6
          clear hX6 H6 HX1 HX2 HX3 HXL
          have H7 := toHid (gout_any HX6.out.1.b.ring (by have := HX6.out.2.2.2.2.1; omega))
          rw [HX6.out.2.1] at H7
          go_wp2_with fail
          refine Calls.mono H7.out ?_
          rintro e w11 ⟨g7, cap7, l7, rfl, hR7, hbs7, ht7, hf7⟩
          have hll : l7.length = c := by
            have h1 := congrArg List.length hbs7
            simp at h1
            rw [h1]
            exact HX6.out.2.2.2.2.1
          have hfr : ∀ b ∈ rowsBl g7 l7, b ∉ x6.blocks ∧ b ∉ s6.blocks := fun b hb => by
            have h1 := hf7 b hb
            refine ⟨fun hx => ?_, fun hx => ?_⟩
            · have := HX6.out.1.b.ring.lt b hx; omega
            · have := HX6.out.1.b.mem.lt b hx; omega
          have hS11 := HX6.out.1.still ht7
          have H8 := toHid (hS11.submit_no (by have := HX6.out.2.2.2.2.1; omega) HX6.out.2.2.2.1 68719476736)
          rw [HX6.out.2.1] at H8
          have HR7 := toHid (And.intro hR7 (And.intro hbs7 hfr))
          clear hR7 hbs7 ht7 hf7 hfr hS11 H7
          unfold slV
          rw [hll]
          clear hll
          generalize (Option.map (fun b => (⟨b, 0, none⟩ : Addr)) g7) = ga7
          go_wp2_with fail
          refine Calls.mono H8.out ?_
          rintro e w12 ⟨rfl, st12, hS12⟩
          have H9 := toHid (hS12.discard_no HX6.out.2.2.2.1 68719476736)
          rw [HX6.out.2.1] at H9
          have HR12 := toHid (HR7.out.1.beside st12 HR7.out.2.2)
          clear st12 hS12 H8
          go_wp2_with fail
          refine Calls.mono H9.out ?_
          rintro e w13 ⟨rfl, st13, hS13⟩
          have H10 := toHid (Mem.count_any hS13.b.mem)
          rw [HX6.out.2.2.1, HX6.out.2.2.2.2.2.1] at H10
          have HR13 := toHid (HR12.out.beside st13 HR7.out.2.2)
          have HS13 := toHid hS13
          clear st13 hS13 H9
          go_wp2_with fail
          refine H10.out.mono ?_
          rintro e w14 ⟨rfl, rfl⟩
          have HNX : Hid (∃ x s, GSolo w3 w14 x s ∧ x.r = R ∧ s.m = M ∧ x.recs = closed ∧ x.l.length = c ∧ s.rs = [] ∧ s.next = k + 1) := ⟨x6, s6, HS13.out, HX6.out.2.1, HX6.out.2.2.1, HX6.out.2.2.2.1, HX6.out.2.2.2.2.1, HX6.out.2.2.2.2.2.1, HX6.out.2.2.2.2.2.2.1⟩
          clear H10
          simp only [List.length_nil]
          clear HR7 HR12 HR13 HS13 HX6
          go_wp2
          go_roundw
          case rel => exact ⟨k + 1, c, by omega, by omega, by omega, rfl, by go_num, HNX⟩
          case measure => simp [intOf]; omega
    · obtain ⟨x, s, hS, _⟩ := HI.out
      have HF := toHid (HT2.out.trans hS.touch (by simp))
      obtain rfl : k = n := by omega
      clear hS HI
      go_wp2
      go_ret
      exact ⟨rfl, HF.out⟩
end Go.Proofs.Ytkfmhabplcikiaa.Ring
