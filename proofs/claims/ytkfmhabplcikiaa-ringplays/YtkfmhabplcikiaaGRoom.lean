/-
  RingRoom.
-/
import Derived.Test.YtkfmhabplcikiaaGFirst
namespace Go.Proofs.Ytkfmhabplcikiaa.Ring
open Go.RowKit
attribute [local go_sem ↓] Go.wp_at_zero Go.wp_at_succ

/-- Numbers handed in. -/
structure NumsT (w : World) (sa : Option Addr) (n : Nat) (f : Nat → Int) : Prop where
  small : n ≤ 9223372036854775807
  at_ : ∀ j, j < n → ∃ b off, sa = some ⟨b, off, none⟩ ∧ 0 ≤ f j ∧ f j ≤ 18446744073709551615 ∧ w.cell? ⟨b, off + j, none⟩ = some (.int .u64 (f j))
theorem NumsT.touch {w w' : World} {sa : Option Addr} {n : Nat} {f : Nat → Int} (h : NumsT w sa n f) (ht : Touch [] w w') : NumsT w' sa n f :=
  ⟨h.small, fun j hj => by
    obtain ⟨b, off, h1, h2, h3, h4⟩ := h.at_ j hj
    exact ⟨b, off, h1, h2, h3, ht.cell h4 (by simp)⟩⟩
/-- The first i of eight are open. -/
def roomL (i : Nat) : List (Option Nat) := (List.range 8).map fun j => if j < i then some j else none
theorem room_facts {i : Nat} (h : i < 8) : freeI (roomL i) = i ∧ (roomL i)[i]? = some none ∧ (roomL i).set i (some i) = roomL (i + 1) ∧ openN (roomL (i + 1)) = i + 1 := by
  obtain rfl | rfl | rfl | rfl | rfl | rfl | rfl | rfl : i = 0 ∨ i = 1 ∨ i = 2 ∨ i = 3 ∨ i = 4 ∨ i = 5 ∨ i = 6 ∨ i = 7 := by omega
  all_goals exact ⟨rfl, rfl, rfl, rfl⟩
theorem room_hole {k : Nat} (h : k < 8) : (roomL 8)[k]? = some (some k) ∧ openN ((roomL 8).set k none) = 7 ∧ freeI ((roomL 8).set k none) = k ∧ ((roomL 8).set k none)[k]? = some none ∧ ∀ i, freeI (((roomL 8).set k none).set k (some i)) = -1 := by
  obtain rfl | rfl | rfl | rfl | rfl | rfl | rfl | rfl : k = 0 ∨ k = 1 ∨ k = 2 ∨ k = 3 ∨ k = 4 ∨ k = 5 ∨ k = 6 ∨ k = 7 := by omega
  all_goals exact ⟨rfl, rfl, rfl, rfl, fun _ => rfl⟩
theorem info64 : (Try.prog.info? 30).map (fun i => (i.zero, i.size, i.bytes)) = some (some (.int .u64 0), 1, 8) := by kernel_rfl
/-- The row of places. -/
def placeV (i : Nat) : List Value := (List.range i).map fun (j : Nat) => Value.int .u64 (placeI (j : Int))
theorem placeV_len (i : Nat) : (placeV i).length = i := by simp [placeV]
theorem placeV_at {i j : Nat} (h : j < i) : (placeV i)[j]? = some (.int .u64 (placeI j)) := by simp [placeV, h]
theorem placeV_succ (i : Nat) : placeV i ++ [.int .u64 (placeI i)] = placeV (i + 1) := by simp [placeV, List.range_succ]
structure Places (w0 w : World) (g : Option Nat) (cap i : Nat) (x : RG) (s : Mem.MS) : Prop where
  row : RowAt w 30 1 g i cap (placeV i)
  own : ∀ b, g = some b → w0.heap.size ≤ b ∧ b ∉ x.blocks ∧ b ∉ s.blocks
theorem Places.lt {w0 w : World} {g : Option Nat} {cap i : Nat} {x : RG} {s : Mem.MS} (h : Places w0 w g cap i x s) {b : Nat} (hb : g = some b) : b < w.heap.size := by
  have := h.row.2.2.2
  rw [hb] at this
  obtain ⟨_, hB, _⟩ := this
  exact hB.lt
theorem Places.step {w0 w w' : World} {g : Option Nat} {cap i : Nat} {x x' : RG} {s s' : Mem.MS} (h : Places w0 w g cap i x s) (st : GStep w w' x x' s s') : Places w0 w' g cap i x' s' := by
  refine ⟨h.row.touch st.touch (fun b hb hx => ?_), fun b hb => ⟨(h.own b hb).1, fun hx => ?_, fun hx => ?_⟩⟩
  · rcases List.mem_append.1 hx with hx | hx
    · exact (h.own b hb).2.1 hx
    · exact (h.own b hb).2.2 hx
  · rcases st.xb b hx with h1 | h1
    · exact (h.own b hb).2.1 h1
    · have := h.lt hb; omega
  · rcases st.sb b hx with h1 | h1
    · exact (h.own b hb).2.2 h1
    · have := h.lt hb; omega
theorem Places.still {w0 w w' : World} {g : Option Nat} {cap i : Nat} {x : RG} {s : Mem.MS} (h : Places w0 w g cap i x s) (ht : Touch [] w w') : Places w0 w' g cap i x s := ⟨h.row.touch ht (by simp), h.own⟩
theorem Places.cell {w0 w : World} {g : Option Nat} {cap i : Nat} {x : RG} {s : Mem.MS} (h : Places w0 w g cap i x s) {j : Nat} (hj : j < i) : ∃ b, g = some b ∧ w.cell? ⟨b, j, none⟩ = some (.int .u64 (placeI j)) := by
  have h4 := h.row.2.2.2
  have hc := h.row.2.1
  cases g with
  | none => have h4 : cap = 0 := h4; omega
  | some b =>
    obtain ⟨rest, hB, _⟩ := h4
    exact ⟨b, rfl, hB.cell (by rw [List.getElem?_append_left (by rw [placeV_len]; exact hj)]; exact placeV_at hj)⟩
theorem Places.push {w0 w : World} {g : Option Nat} {cap i : Nat} {x : RG} {s : Mem.MS} (h : Places w0 w g cap i x s) (hS : GSolo w0 w x s) (hi : i ≤ 100) :
    ∃ g' cap' w', (Builtin.append_ #[62, 62] 62 #[slV g i cap, .slice (some ⟨w.heap.size, 0, none⟩) 1 1]).run Try.prog (w.alloc (.cells #[.int .u64 (placeI i)] 30)) = .ok (slV g' (i + 1) cap') w' ∧ Places w0 w' g' cap' (i + 1) x s ∧ GSolo w0 w' x s := by
  obtain ⟨inf, hi0, hz, hs, hb⟩ := info_of info64
  have hN := Blk.newA w #[.int .u64 (placeI i)] _ 30 rfl
  have hta : Touch [] w (w.alloc (.cells #[.int .u64 (placeI i)] 30)) := (Touch.refl _ w).alloc _
  have hL := h.still hta
  obtain ⟨g', cap', w', hr, h2, h3, h4, h5⟩ := run_append_row (P := Try.prog) (w.alloc (.cells #[.int .u64 (placeI i)] 30)) 62 62 30 inf (.int .u64 0) 1 Try.underlying62 hi0 hz hs rfl (by omega) g i cap _ hL.row ⟨w.heap.size, 0, none⟩ 1 1 [.int .u64 (placeI i)] rfl
    (fun j u hj => by
      rw [Addr.add_lit]
      have : j = 0 := by have := (List.getElem?_eq_some_iff.1 hj).1; simp at this; exact this
      subst this
      exact hN.cell hj) (fun u hu => by
      simp only [List.mem_singleton] at hu
      subst hu
      rfl) (by rw [hb]; omega) (by omega)
  rw [placeV_succ] at h2
  have hS1 := hS.still hta
  have hz := hS.touch.size
  have htt : Touch g.toList (w.alloc (.cells #[.int .u64 (placeI i)] 30)) w' := h3
  have hB : GBoth w' x s := ⟨hS1.b.ring.touch htt (fun b hb hx => (h.own b (by simpa using hx)).2.1 hb), hS1.b.mem.touch htt (fun b hb hx => (h.own b (by simpa using hx)).2.2 hb), hS1.b.at_, hS1.b.apart, hS1.b.held⟩
  refine ⟨g', cap', w', hr, ⟨h2, fun b hb => ?_⟩, ⟨hB, hS.own, hS1.touch.trans htt (fun b hb => Or.inr (h.own b (by simpa using hb)).1), hS.only⟩⟩
  rcases h4 with rfl | rfl
  · exact h.own b hb
  · injection hb with hb
    rw [World.size_alloc] at hb
    refine ⟨by omega, fun hx => ?_, fun hx => ?_⟩
    · have := hS.b.ring.lt _ hx; omega
    · have := hS.b.mem.lt _ hx; omega
set_option maxHeartbeats 4000000 in
set_option maxRecDepth 100000 in
theorem room_law {w : World} {sa : Option Addr} {n sc : Nat} {f : Nat → Int} (hn : NumsT w sa n f) (order : Int) (o0 : 0 ≤ order) (o1 : order ≤ 18446744073709551615) :
    Calls Try.prog 5 #[.slice sa n sc, .int .u64 order] w fun e w' => e = .returned (.bool true) ∧ Touch [] w w' := by
  have HN := toHid hn
  have hn1 := hn.small
  clear hn
  go_enter Try.func5, Try.ntmps5
  go_wp2_with fail
  refine (first_any _).mono ?_
  rintro e w0 ⟨rfl, ht0⟩
  have HT0 := toHid ht0
  clear ht0
  go_wp2_with fail
  refine (Mem.newM_any _).mono ?_
  rintro e w1 ⟨rfl, hM, ht1⟩
  have H1 := toHid (gnew_any hM)
  have HM := toHid (And.intro hM ht1)
  clear hM ht1
  go_wp2_with fail
  refine Calls.mono H1.out ?_
  rintro e w2 ⟨rfl, hB, ht2⟩
  have hS : GSolo w0 w2 (RG.new w1.heap.size w0.heap.size) (Mem.MS.new w0.heap.size) := GSolo.new hB rfl HM.out.2 ht2 (fun b hb => by
    have : b = w0.heap.size := by simpa [Mem.MS.blocks, Mem.MS.new] using hb
    omega)
  have HP0 : Hid (∃ g cap x s, (Value.slice none 0 0) = slV g 0 cap ∧ Places w0 w2 g cap 0 x s ∧ GSolo w0 w2 x s ∧ x.r = w1.heap.size ∧ x.recs = roomL 0 ∧ x.l = [] ∧ s.next = 0 ∧ s.rs.length = 0) := ⟨none, 0, _, _, rfl, ⟨⟨rfl, Nat.le_refl _, by unfold maxLen; omega, rfl⟩, fun b hb => by cases hb⟩, hS, rfl, rfl, rfl, rfl, rfl⟩
  clear hB ht2 hS H1
  generalize w1.heap.size = R at *
  go_wp2_with fail
  go_loopw [7, 8] (fun o t w' => ∃ i : Nat, i ≤ 8 ∧ t = .int .i64 i ∧ Hid (∃ g cap x s, o = slV g i cap ∧ Places w0 w' g cap i x s ∧ GSolo w0 w' x s ∧ x.r = R ∧ x.recs = roomL i ∧ x.l = [] ∧ s.next = i ∧ s.rs.length = i)) (fun _ t _ => 8 - (intOf t).toNat)
  case atStart => exact ⟨0, by omega, rfl, HP0⟩
  case round =>
    clear HP0
    obtain ⟨i, hi, rfl, HI⟩ := hrel
    by_cases hlt : i < 8
    · obtain ⟨g, cap, x, s, rfl, hP, hS, hxr, hxc, hxl, hnx, hrl⟩ := HI.out
      obtain ⟨hf, hno, hset, hop⟩ := room_facts hlt
      rw [← hxc] at hf hno
      have H2 : Hid (∀ z : Int, 1 ≤ z → z ≤ 64 → Calls Try.prog 12 #[.pointer (some ⟨R, 0, none⟩), .int .u64 z] wr fun e w' => e = .returned (.tuple #[.int .u64 (placeI i), .int .i64 0]) ∧ ∃ (s' : Mem.MS) (r : Mem.Reg) (i' : Nat), i' ≤ s.rs.length ∧ s'.rs = s.rs.take i' ++ r :: s.rs.drop i' ∧ s'.next = s.next + 1 ∧ Mem.NewReg r s.next (placeI i) z 3 ∧ s'.m = s.m ∧ GStep wr w' x { x with recs := x.recs.set i (some s.next) } s s' ∧ GSolo w0 w' { x with recs := x.recs.set i (some s.next) } s') := fun z z1 z2 => by
        rw [← hxr]
        exact hS.reserve hlt hf hno z1 z2 (by omega) (by omega)
      have hi8 : (i : Int) < 8 := by omega
      by_cases him : i < n
      · obtain ⟨b, off, hsa, hf0, hf1, hcell⟩ := HN.out.at_ i him
        have hcw := (HT0.out.trans hS.touch (by simp)).cell hcell (by simp)
        subst hsa
        generalize f i = fi at *
        have him' : (i : Int) < n := by omega
        clear hcell hf hno
        go_wp2_with fail
        refine Calls.mono (H2.out _ (by omega) (by omega)) ?_
        rintro e w3 ⟨rfl, s3, r3, i3, hi3, hrs3, hnx3, _, _, hst3, hS3⟩
        have hxr3 : ({ x with recs := x.recs.set i (some s.next) } : RG).r = R := hxr
        have hxc3 : ({ x with recs := x.recs.set i (some s.next) } : RG).recs = roomL (i + 1) := by
          show x.recs.set i (some s.next) = _
          rw [hxc, hnx, hset]
        have H3 := toHid (gopen_any hS3.b.ring)
        rw [hxr3, hxc3, hop] at H3
        have HX3 : Hid (∃ x' s', Places w0 w3 g cap i x' s' ∧ GSolo w0 w3 x' s' ∧ x'.r = R ∧ x'.recs = roomL (i + 1) ∧ x'.l = [] ∧ s'.next = i + 1 ∧ s'.rs.length = i + 1) := ⟨_, s3, hP.step hst3, hS3, hxr3, hxc3, hxl, by rw [hnx3, hnx], by rw [hrs3]; simp; omega⟩
        have hpn : (placeI (i : Int) == 0) = false := by
          have : placeI (i : Int) ≠ 0 := by unfold placeI; omega
          simpa using this
        clear hi3 hrs3 hnx3 hst3 hS3 hxr3 hxc3 H2
        go_wp2_with fail
        refine Calls.mono H3.out ?_
        rintro e w4 ⟨rfl, ht4⟩
        obtain ⟨x4, s4, hP4, hS4, hxr4, hxc4, hxl4, hnx4, hrl4⟩ := HX3.out
        have HX4 := toHid (And.intro (hP4.still ht4) (And.intro (hS4.still ht4) (And.intro hxr4 (And.intro hxc4 (And.intro hxl4 (And.intro hnx4 hrl4))))))
        clear hP4 hS4 hxr4 hxc4 hxl4 hnx4 hrl4 ht4 HX3 H3 hP hS hxr hxc hxl hnx hrl HI
        unfold slV
        generalize hga : (Option.map (fun b => (⟨b, 0, none⟩ : Addr)) g) = ga at *
        have HGA := toHid hga
        clear hga
        go_wp2_with fail
        go_loopw [65] (fun t w' => ∃ j : Nat, j ≤ i ∧ t = .int .i64 j ∧ w' = w4) (fun t _ => i - (intOf t).toNat)
        case atStart => exact ⟨0, by omega, rfl, by trivial⟩
        case round =>
          obtain ⟨j, hj, rfl, rfl⟩ := hrel
          by_cases hji : j < i
          · obtain ⟨b, hgb, hc⟩ := HX4.out.1.cell hji
            have hga : ga = some ⟨b, 0, none⟩ := by rw [← HGA.out, hgb]; rfl
            subst hga
            have hpj : (placeI (i : Int) == placeI (j : Int)) = false := by
              have : placeI (i : Int) ≠ placeI (j : Int) := by unfold placeI; omega
              simpa using this
            have hji' : (j : Int) < i := by omega
            go_wp2
            go_roundw
            case rel => exact ⟨j + 1, by omega, by go_num, by trivial⟩
            case measure => simp [intOf]; omega
          · obtain rfl : j = i := by omega
            obtain ⟨g5, cap5, w5, hr5, hP5, hS5⟩ := HX4.out.1.push HX4.out.2.1 (by omega)
            have HNN : Hid (∃ g cap x s, (slV g5 (j + 1) cap5) = slV g (j + 1) cap ∧ Places w0 w5 g cap (j + 1) x s ∧ GSolo w0 w5 x s ∧ x.r = R ∧ x.recs = roomL (j + 1) ∧ x.l = [] ∧ s.next = j + 1 ∧ s.rs.length = j + 1) := ⟨g5, cap5, x4, s4, rfl, hP5, hS5, HX4.out.2.2⟩
            unfold slV at hr5
            rw [HGA.out] at hr5
            have HR5 := toHid hr5
            clear hr5 hP5 hS5 HX4
            unfold slV at HNN
            generalize (Option.map (fun b => (⟨b, 0, none⟩ : Addr)) g5) = ga5 at *
            go_wp2_with (first | (at_builtin; refine Lib.wpList_append_run _ rfl _ _ _ _ rfl _ _ rfl rfl _ _ HR5.out ?_))
            go_roundw
            case rel => exact ⟨j + 1, by omega, by go_num, HNN⟩
            case measure => simp [intOf]; omega
      · have him' : ¬ (i : Int) < n := by omega
        clear hf hno
        go_wp2_with fail
        refine Calls.mono (H2.out _ (by omega) (by omega)) ?_
        rintro e w3 ⟨rfl, s3, r3, i3, hi3, hrs3, hnx3, _, _, hst3, hS3⟩
        have hxr3 : ({ x with recs := x.recs.set i (some s.next) } : RG).r = R := hxr
        have hxc3 : ({ x with recs := x.recs.set i (some s.next) } : RG).recs = roomL (i + 1) := by
          show x.recs.set i (some s.next) = _
          rw [hxc, hnx, hset]
        have H3 := toHid (gopen_any hS3.b.ring)
        rw [hxr3, hxc3, hop] at H3
        have HX3 : Hid (∃ x' s', Places w0 w3 g cap i x' s' ∧ GSolo w0 w3 x' s' ∧ x'.r = R ∧ x'.recs = roomL (i + 1) ∧ x'.l = [] ∧ s'.next = i + 1 ∧ s'.rs.length = i + 1) := ⟨_, s3, hP.step hst3, hS3, hxr3, hxc3, hxl, by rw [hnx3, hnx], by rw [hrs3]; simp; omega⟩
        have hpn : (placeI (i : Int) == 0) = false := by
          have : placeI (i : Int) ≠ 0 := by unfold placeI; omega
          simpa using this
        clear hi3 hrs3 hnx3 hst3 hS3 hxr3 hxc3 H2
        go_wp2_with fail
        refine Calls.mono H3.out ?_
        rintro e w4 ⟨rfl, ht4⟩
        obtain ⟨x4, s4, hP4, hS4, hxr4, hxc4, hxl4, hnx4, hrl4⟩ := HX3.out
        have HX4 := toHid (And.intro (hP4.still ht4) (And.intro (hS4.still ht4) (And.intro hxr4 (And.intro hxc4 (And.intro hxl4 (And.intro hnx4 hrl4))))))
        clear hP4 hS4 hxr4 hxc4 hxl4 hnx4 hrl4 ht4 HX3 H3 hP hS hxr hxc hxl hnx hrl HI
        unfold slV
        generalize hga : (Option.map (fun b => (⟨b, 0, none⟩ : Addr)) g) = ga at *
        have HGA := toHid hga
        clear hga
        go_wp2_with fail
        go_loopw [65] (fun t w' => ∃ j : Nat, j ≤ i ∧ t = .int .i64 j ∧ w' = w4) (fun t _ => i - (intOf t).toNat)
        case atStart => exact ⟨0, by omega, rfl, by trivial⟩
        case round =>
          obtain ⟨j, hj, rfl, rfl⟩ := hrel
          by_cases hji : j < i
          · obtain ⟨b, hgb, hc⟩ := HX4.out.1.cell hji
            have hga : ga = some ⟨b, 0, none⟩ := by rw [← HGA.out, hgb]; rfl
            subst hga
            have hpj : (placeI (i : Int) == placeI (j : Int)) = false := by
              have : placeI (i : Int) ≠ placeI (j : Int) := by unfold placeI; omega
              simpa using this
            have hji' : (j : Int) < i := by omega
            go_wp2
            go_roundw
            case rel => exact ⟨j + 1, by omega, by go_num, by trivial⟩
            case measure => simp [intOf]; omega
          · obtain rfl : j = i := by omega
            obtain ⟨g5, cap5, w5, hr5, hP5, hS5⟩ := HX4.out.1.push HX4.out.2.1 (by omega)
            have HNN : Hid (∃ g cap x s, (slV g5 (j + 1) cap5) = slV g (j + 1) cap ∧ Places w0 w5 g cap (j + 1) x s ∧ GSolo w0 w5 x s ∧ x.r = R ∧ x.recs = roomL (j + 1) ∧ x.l = [] ∧ s.next = j + 1 ∧ s.rs.length = j + 1) := ⟨g5, cap5, x4, s4, rfl, hP5, hS5, HX4.out.2.2⟩
            unfold slV at hr5
            rw [HGA.out] at hr5
            have HR5 := toHid hr5
            clear hr5 hP5 hS5 HX4
            unfold slV at HNN
            generalize (Option.map (fun b => (⟨b, 0, none⟩ : Addr)) g5) = ga5 at *
            go_wp2_with (first | (at_builtin; refine Lib.wpList_append_run _ rfl _ _ _ _ rfl _ _ rfl rfl _ _ HR5.out ?_))
            go_roundw
            case rel => exact ⟨j + 1, by omega, by go_num, HNN⟩
            case measure => simp [intOf]; omega
    · obtain rfl : i = 8 := by omega
      obtain ⟨g, cap, x, s, rfl, hP, hS, hxr, hxc, hxl, hnx, hrl⟩ := HI.out
      obtain ⟨K, hK8, hK⟩ : ∃ K : Nat, K < 8 ∧ order % 8 = K := ⟨(order % 8).toNat, by omega, by omega⟩
      obtain ⟨q1, q2, q3, q4, q5⟩ := room_hole hK8
      have H2 := toHid (hS.full (by rw [hxc]; rfl) (size := 1) (by omega) (by omega) (by omega))
      rw [hxr] at H2
      have HX := toHid (And.intro hP (And.intro hxr (And.intro hxc (And.intro hxl (And.intro hnx hrl)))))
      clear hP hS hxr hxc hxl hnx hrl HI
      unfold slV
      generalize hga : (Option.map (fun b => (⟨b, 0, none⟩ : Addr)) g) = ga at *
      have HGA := toHid hga
      clear hga
      go_wp2_with fail
      refine Calls.mono H2.out ?_
      rintro e w3 ⟨rfl, hst, hS3⟩
      obtain ⟨hP, hxr, hxc, hxl, hnx, hrl⟩ := HX.out
      have hP3 := hP.step hst
      obtain ⟨b, hgb, hc3⟩ := hP3.cell hK8
      have hga : ga = some ⟨b, 0, none⟩ := by rw [← HGA.out, hgb]; rfl
      subst hga
      have H3 := toHid (hS3.discard (n := K) (i := K) (by rw [hxc]; exact q1))
      rw [hxr] at H3
      have HX3 := toHid (And.intro hP3 hS3)
      have hK8' : (K : Int) < 8 := by omega
      clear hP3 hS3 hP hxr hxc hxl hnx hrl hst H2
      go_wp2_with fail
      refine Calls.mono H3.out ?_
      rintro e w4 ⟨rfl, s4, hrs4, hnx4, _, hst4, hS4⟩
      have HX4 : Hid (∃ x4 s4, Places w0 w4 g cap 8 x4 s4 ∧ GSolo w0 w4 x4 s4 ∧ x4.r = R ∧ x4.recs = (roomL 8).set K none ∧ x4.l = [] ∧ s4.next = 8 ∧ s4.rs.length ≤ 8) := by
        obtain ⟨_, hxr, hxc, hxl, hnx, hrl⟩ := HX.out
        refine ⟨_, s4, HX3.out.1.step hst4, hS4, rfl, by show x.recs.set K none = _; rw [hxc], hxl, by rw [hnx4, hnx], ?_⟩
        rw [hrs4, ← hrl]
        exact List.length_filter_le _ _
      clear hrs4 hnx4 hst4 hS4 HX HX3 H3 hc3
      obtain ⟨x4, s4, hP4, hS4, hxr4, hxc4, hxl4, hnx4, hrl4⟩ := HX4.out
      have H4 := toHid (gopen_any hS4.b.ring)
      rw [hxr4, hxc4, q2] at H4
      have HY4 := toHid (And.intro hP4 (And.intro hS4 (And.intro hxr4 (And.intro hxc4 (And.intro hxl4 (And.intro hnx4 hrl4))))))
      clear hP4 hS4 hxr4 hxc4 hxl4 hnx4 hrl4 HX4
      go_wp2_with fail
      refine Calls.mono H4.out ?_
      rintro e w5 ⟨rfl, ht5⟩
      obtain ⟨hP4, hS4, hxr4, hxc4, hxl4, hnx4, hrl4⟩ := HY4.out
      have hP5 := hP4.still ht5
      have H5 := toHid ((hS4.still ht5).reserve hK8 (by rw [hxc4]; exact q3) (by rw [hxc4]; exact q4) (size := 3) (by omega) (by omega) (by omega) (by omega))
      rw [hxr4] at H5
      have HP5 := toHid hP5
      clear hP5 hP4 hS4 hxr4 hxc4 hxl4 hnx4 hrl4 ht5 H4
      go_wp2_with fail
      refine Calls.mono H5.out ?_
      rintro e w6 ⟨rfl, s6, r6, i6, hi6, hrs6, hnx6, _, _, hst6, hS6⟩
      obtain ⟨hP4, hS4, hxr4, hxc4, hxl4, hnx4, hrl4⟩ := HY4.out
      have hP6 := HP5.out.step hst6
      have H6 := toHid (hS6.full (by show freeI (x4.recs.set K _) = -1; rw [hxc4]; exact q5 _) (size := 3) (by omega) (by omega) (by rw [hnx6, hnx4]; omega))
      dsimp only at H6
      have HP6 := toHid hP6
      have HL6 : Hid ((RG.mk R x4.m (x4.recs.set K (some s4.next)) x4.g x4.cap x4.l).l = []) := hxl4
      have HR6 : Hid ((RG.mk R x4.m (x4.recs.set K (some s4.next)) x4.g x4.cap x4.l).r = R) := rfl
      clear hP6 hP4 hS4 hxr4 hxc4 hxl4 hnx4 hrl4 hi6 hrs6 hnx6 hst6 hS6 H5 HY4
      generalize (RG.mk R x4.m (x4.recs.set K (some s4.next)) x4.g x4.cap x4.l) = x6 at *
      go_wp2_with fail
      refine Calls.mono H6.out ?_
      rintro e w7 ⟨rfl, hst7, hS7⟩
      obtain ⟨b7, hgb7, hc7⟩ := (HP6.out.step hst7).cell hK8
      obtain rfl : b7 = b := by rw [hgb] at hgb7; injection hgb7 with hgb7; exact hgb7.symm
      have H7 := toHid (gout_any hS7.b.ring (by rw [HL6.out]; simp))
      rw [HR6.out] at H7
      have HT7 := toHid (HT0.out.trans hS7.touch (by simp))
      clear hst7 hS7 H6
      go_wp2_with fail
      refine Calls.mono H7.out ?_
      rintro e w8 ⟨g8, cap8, l8, rfl, _, hbs8, ht8, _⟩
      have hl8 : l8 = [] := by
        rw [HL6.out] at hbs8
        simpa using hbs8
      subst hl8
      have HF := toHid (HT7.out.trans ht8 (by simp))
      clear hbs8 ht8 H7
      unfold slV
      simp only [List.length_nil]
      go_wp2
      go_ret
      exact ⟨rfl, HF.out⟩
end Go.Proofs.Ytkfmhabplcikiaa.Ring
