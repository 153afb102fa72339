/-
  For every input MemFresh returns true, and each argument reads afterwards as it read before. No conditions. (The walk.)
-/
import Derived.Test.YtbidppeelophhaaOne
namespace Go.Proofs.Ytbidppeelophhaa
open Go.RowKit

theorem mod64 (s : Int) : ∃ i : Nat, wrap64 ((IntKind.u64.wrap s).tmod 64) = i ∧ i ≤ 63 := by
  rw [IntKind.wrap_u64, Int.tmod_eq_emod_of_nonneg (by omega)]
  unfold wrap64
  exact ⟨(s % 18446744073709551616 % 64).toNat, by omega, by omega⟩
theorem mod12 (s : Int) : ∃ i : Nat, wrap64 ((IntKind.u64.wrap s).tmod 12) = i ∧ i ≤ 11 := by
  rw [IntKind.wrap_u64, Int.tmod_eq_emod_of_nonneg (by omega)]
  unfold wrap64
  exact ⟨(s % 18446744073709551616 % 12).toNat, by omega, by omega⟩

/-- What stands behind each step: one fresh region, its marks g, and the law's own marks. -/
def HeldG (w0 w : World) (m sb : Nat) (g : Nat → Bool) : Prop := ∃ s f, MemAt w s ∧ s.m = m ∧ OneF s.rs 4294967296 64 7 f g ∧ Touch [] w0 w ∧ (∀ x ∈ s.blocks, w0.heap.size ≤ x) ∧ w0.heap.size ≤ sb ∧ sb ∉ s.blocks ∧ Blk w sb ((List.range 64).map (fun j => Value.bool (g j))) 4

theorem HeldG.congr {w0 w : World} {m sb : Nat} {g g' : Nat → Bool} (h : HeldG w0 w m sb g) (he : ∀ j, j < 64 → g j = g' j) : HeldG w0 w m sb g' := by
  obtain ⟨s, f, hM, hm, ⟨r, h1, h2, h3, h4, h5, h6, h7, h8⟩, ht, hbl, hsb, hsn, hB⟩ := h
  have e1 : (List.range 64).map g = (List.range 64).map g' := List.map_congr_left (fun j hj => he j (by simpa using hj))
  have e2 : (List.range 64).map (fun j => Value.bool (g j)) = (List.range 64).map (fun j => Value.bool (g' j)) := List.map_congr_left (fun j hj => by rw [he j (by simpa using hj)])
  exact ⟨s, f, hM, hm, ⟨r, h1, h2, h3, h4, h5, h6, h7, fun hq => by rw [h8 hq, e1]⟩, ht, hbl, hsb, hsn, by rw [← e2]; exact hB⟩

/-- A Store of one byte, and the mark beside it. -/
theorem heldG_store {w0 w : World} {m sb : Nat} {g : Nat → Bool} (h : HeldG w0 w m sb g) (a : Nat) (v : Int) (ha : a < 64) (hv0 : 0 ≤ v) :
    Calls Try.prog 19 #[.pointer (some ⟨m, 0, none⟩), .int .u64 (4294967296 + (a : Int)), .int .i64 1, .int .u64 v] w fun e w' => e = .returned (.int .i64 0) ∧
      (∃ b, w'.cell? ⟨sb, a, none⟩ = some b) ∧ w'.frozen? ⟨sb, a, none⟩ = false ∧ HeldG w0 (w'.setCell ⟨sb, a, none⟩ (.bool true)) m sb (fun j => if j = a then true else g j) := by
  obtain ⟨s, f, hM, rfl, h1, ht, hbl, hsb, hsn, hB⟩ := h
  refine (store_any hM (4294967296 + (a : Int)) 1 v (by omega) (by omega) hv0).mono ?_
  rintro e w' ⟨rfl, ht', hM', hb'⟩
  obtain ⟨h2, h3⟩ := h1.store (by decide) a 1 v rfl (by omega)
  have hB' := ht'.blk hB hsn
  refine ⟨by rw [show storeE s.rs (4294967296 + (a : Int)) 1 = 0 from h2], ⟨_, hB'.cellN (i := a) (by simpa using ha)⟩, hB'.frozen a, ?_⟩
  have hB2 := hB'.setCell a (.bool true)
  refine HeldG.congr (g := fun j => if a ≤ j ∧ j < a + 1 then true else g j) ⟨_, _, hM'.touch ((Touch.refl [sb] w').setCell ⟨sb, a, none⟩ (.bool true) (Or.inl (by simp))) (fun x hx hh => ?_), rfl, h3, ?_, by rw [hb']; exact hbl, hsb, by rw [hb']; exact hsn, ?_⟩ (fun j _ => ?_)
  · rw [hb'] at hx
    simp at hh
    subst hh
    exact hsn hx
  · exact (ht.trans ht' (fun x hx => Or.inr (hbl x hx))).setCell _ _ (Or.inr hsb)
  · have e : (List.map (fun j => Value.bool (g j)) (List.range 64)).set a (.bool true) = (List.range 64).map (fun j => Value.bool (if a ≤ j ∧ j < a + 1 then true else g j)) := by
      apply List.ext_getElem
      · simp
      · intro j q1 q2
        rw [List.getElem_set]
        simp only [List.getElem_map, List.getElem_range]
        by_cases hj : a = j
        · subst hj; simp
        · rw [if_neg hj, if_neg (by omega)]
    rw [← e]
    exact hB2
  · by_cases hj : j = a
    · subst hj; simp
    · rw [if_neg hj, if_neg (by omega)]

/-- What is wanted of a Read. -/
def wantE (g : Nat → Bool) (a n : Nat) : Int := if 64 < a + n then 10 else if ∃ j, j < n ∧ g (a + j) = false then 11 else 0
/-- .. as the law reckons it, place by place. -/
def wantTo (g : Nat → Bool) (a k : Nat) : Int := if ∃ j, j < k ∧ a ≤ j ∧ g j = false then 11 else 0

theorem wantTo_succ (g : Nat → Bool) (a k : Nat) (h : a ≤ k) : wantTo g a (k + 1) = if g k = false then 11 else wantTo g a k := by
  unfold wantTo
  by_cases hk : g k = false
  · rw [if_pos hk, if_pos ⟨k, by omega, h, hk⟩]
  · rw [if_neg hk]
    by_cases he : ∃ j, j < k ∧ a ≤ j ∧ g j = false
    · rw [if_pos he]
      obtain ⟨j, h1, h2, h3⟩ := he
      rw [if_pos ⟨j, by omega, h2, h3⟩]
    · rw [if_neg he, if_neg]
      rintro ⟨j, h1, h2, h3⟩
      by_cases hj : j = k
      · subst hj; exact hk h3
      · exact he ⟨j, by omega, h2, h3⟩
theorem wantTo_all (g : Nat → Bool) (a n : Nat) (h : a + n ≤ 64) : wantTo g a (a + n) = wantE g a n := by
  unfold wantTo wantE
  rw [if_neg (show ¬ 64 < a + n by omega)]
  by_cases he : ∃ j, j < n ∧ g (a + j) = false
  · rw [if_pos he]
    obtain ⟨j, h1, h2⟩ := he
    rw [if_pos ⟨a + j, by omega, by omega, h2⟩]
  · rw [if_neg he, if_neg]
    rintro ⟨j, h1, h2, h3⟩
    exact he ⟨j - a, by omega, by rw [show a + (j - a) = j by omega]; exact h3⟩
theorem wantTo_start (g : Nat → Bool) (a : Nat) : wantTo g a a = 0 := by
  unfold wantTo
  rw [if_neg]
  rintro ⟨j, h1, h2, _⟩
  omega

theorem heldG_read {w0 w : World} {m sb : Nat} {g : Nat → Bool} (h : HeldG w0 w m sb g) (a n : Nat) (ha : a < 64) (hn : n ≤ 11) :
    Calls Try.prog 21 #[.pointer (some ⟨m, 0, none⟩), .int .u64 (4294967296 + (a : Int)), .int .i64 n] w fun e w' => (∃ v, e = .returned (.tuple #[v, .int .i64 (wantE g a n)])) ∧ HeldG w0 w' m sb g := by
  obtain ⟨s, f, hM, rfl, h1, ht, hbl, hsb, hsn, hB⟩ := h
  refine (read_any hM (4294967296 + (a : Int)) n (by omega) (by omega) (by omega)).mono ?_
  rintro e w' ⟨v, rfl, _, ht'⟩
  refine ⟨⟨v, ?_⟩, s, f, hM.touch ht' (by simp), rfl, h1, ht.trans ht' (by simp), hbl, hsb, hsn, ht'.blk hB (by simp)⟩
  have : readE s.rs (4294967296 + (a : Int)) n = wantE g a n := by
    unfold readE wantE
    rw [if_neg (by omega)]
    by_cases h0 : n = 0
    · subst h0
      rw [if_pos (by rfl), if_neg (by omega), if_neg]
      rintro ⟨j, hj, _⟩
      omega
    · rw [if_neg (by omega)]
      obtain ⟨q1, q2, q3⟩ := h1.look (by decide) a n (by omega) ha
      by_cases hl : a + n ≤ 64
      · rw [if_neg (by omega)]
        by_cases he : ∃ j, j < n ∧ g (a + j) = false
        · rw [if_pos he]
          exact q2 hl (by decide) he
        · rw [if_neg he]
          refine (q1 hl (Or.inr (fun j hj => ?_))).1
          cases hg : g (a + j) with
          | true => rfl
          | false => exact absurd ⟨j, hj, hg⟩ he
      · rw [if_pos (by omega)]
        exact q3 hl
  rw [this]

theorem heldG_bytes {w0 w : World} {m sb : Nat} {g : Nat → Bool} (h : HeldG w0 w m sb g) :
    Calls Try.prog 16 #[.pointer (some ⟨m, 0, none⟩), .int .i64 0] w fun e w' => (∃ N, e = .returned (.tuple #[.slice (some ⟨N, 0, none⟩) 64 64, .int .i64 0])) ∧ Touch [] w0 w' := by
  obtain ⟨s, f, hM, rfl, ⟨r, h1, h2, h3, h4, h5, _⟩, ht, hbl, hsb, hsn, hB⟩ := h
  refine (bytes_any hM 0).mono ?_
  rintro e w' ⟨ht', he⟩
  have hr : regOf s.rs 0 = some r := by
    rw [← h5]
    exact regOf_some hM (by rw [h1]; simp)
  rw [hr] at he
  obtain ⟨v, rfl, hv⟩ := he
  have hl : r.bytes.length = 64 := by rw [h3]; simp
  rcases hv with ⟨hv, _⟩ | ⟨_, N, rfl, _⟩
  · rw [hv] at hl; simp at hl
  · exact ⟨⟨N, by rw [hl]⟩, ht.trans ht' (by simp)⟩

/-- No marks. -/
def marks0 : Array Value := (List.replicate 64 (Value.bool false)).toArray
theorem make_marks (w : World) : (Instr.makeSlice 42 (.int .i64 64) (.int .i64 64)).run Try.prog w = .ok (.slice (some ⟨w.heap.size, 0, none⟩) 64 64) (w.alloc (.cells marks0 4)) :=
  run_make_blk (P := Try.prog) Try.underlying42 info4 rfl 64 (by decide) (by decide) .i64 w

/-- The bytes that came in. -/
def Came (w : World) (sa : Option Addr) (sl : Nat) (z : Nat → Int) : Prop := sl = 0 ∨ ∃ k off, sa = some ⟨k, off, none⟩ ∧ k < w.heap.size ∧ ∀ j, j < sl → w.cell? ⟨k, off + j, none⟩ = some (.int .u8 (z j)) ∧ 0 ≤ z j ∧ z j ≤ 255

set_option maxHeartbeats 4000000 in
set_option maxRecDepth 100000 in
theorem memFresh_walk (sa : Option Addr) (sl sc : Nat) (z : Nat → Int) (at_ n_ : Int) (w : World) (hc : Came w sa sl z) (hsl : sl ≤ 9223372036854775807) :
    Calls Try.prog 8 #[.slice sa sl sc, .int .i64 at_, .int .i64 n_] w fun e w' => e = .returned (.bool true) ∧ Touch [] w w' := by
  have HC := toHid hc
  clear hc
  go_enter Try.func8, Try.ntmps8
  go_wp2_with fail
  refine (first_any w).mono ?_
  rintro e w2 ⟨rfl, ht2⟩
  have HT := toHid ht2
  clear ht2
  go_wp2_with fail
  refine (newM_any _).mono ?_
  rintro e w3 ⟨rfl, hM3, ht3⟩
  have htt3 := HT.out.trans ht3 (by simp)
  have H4 := toHid (addNew_any hM3 4294967296 64 7 (by decide) (by decide) rfl)
  have hsz : w.heap.size ≤ w2.heap.size := HT.out.size
  generalize w2.heap.size = m at *
  have HT3 := toHid (And.intro htt3 hsz)
  clear hM3 ht3 htt3 HT hsz
  have hmk := make_marks
  go_wp2_with fail
  refine H4.out.mono ?_
  rintro e w4 ⟨rfl, ht4, s4, hM4, hm4, hn4, hbl4, r4, hrs4, hr4⟩
  have hH : HeldG w (w4.alloc (.cells marks0 4)) m w4.heap.size (fun _ => false) := by
    have htt4 : Touch [] w w4 := HT3.out.1.trans ht4 (fun x hx => Or.inr (by simp at hx; rw [hx]; exact HT3.out.2))
    refine ⟨s4, _, hM4.touch ((Touch.refl [] w4).alloc _) (by simp), hm4, by rw [hrs4]; exact hr4.one (hM4.ok r4 (by rw [hrs4]; simp)), htt4.alloc _, fun x hx => ?_, htt4.size, fun hx => ?_, ?_⟩
    · rcases hbl4 x hx with rfl | hx
      · exact HT3.out.2
      · have := HT3.out.1.size; omega
    · have := hM4.lt _ hx; omega
    · have := Blk.new w4 (List.replicate 64 (Value.bool false)) 4
      exact this
  have HH := toHid hH
  have HZ : Hid (w.heap.size ≤ w4.heap.size) := (HT3.out.1.trans ht4 (fun x hx => Or.inr (by simp at hx; rw [hx]; exact HT3.out.2))).size
  clear ht4 hM4 hm4 hn4 hbl4 hrs4 hr4 hH H4
  go_wp2_with fail
  clear hmk
  go_loopw [33] (fun t w' => ∃ k : Nat, k ≤ sl ∧ t = .int .i64 k ∧ Hid (∃ g, HeldG w w' m w4.heap.size g)) (fun t _ => sl - (intOf t).toNat)
  case atStart => exact ⟨0, by omega, rfl, _, HH.out⟩
  case round =>
    rename_i wr
    obtain ⟨k, hk, rfl, HI⟩ := hrel
    by_cases hlt : k < sl
    · obtain ⟨kb, off, rfl, hkb, hcell⟩ : ∃ kb off, sa = some ⟨kb, off, none⟩ ∧ kb < w.heap.size ∧ ∀ j, j < sl → w.cell? ⟨kb, off + j, none⟩ = some (.int .u8 (z j)) ∧ 0 ≤ z j ∧ z j ≤ 255 := by
        rcases HC.out with h | h
        · omega
        · exact h
      obtain ⟨g, hG⟩ := HI.out
      have hck : wr.cell? ⟨kb, off + k, none⟩ = some (.int .u8 (z k)) := by
        obtain ⟨s, f, _, _, _, ht, _⟩ := hG
        exact ht.cell (hcell k hlt).1 (by simp)
      have hz := (hcell k hlt).2
      have HG := toHid hG
      clear hcell hG HI HC
      by_cases h40 : 40 ≤ k
      · obtain ⟨a, ha, ha63⟩ := mod64 at_
        obtain ⟨n, hn, hn11⟩ := mod12 n_
        have HR := toHid (heldG_read HG.out a n (by omega) hn11)
        go_wp2_with fail
        refine HR.out.mono ?_
        rintro e w5 ⟨⟨v5, rfl⟩, h5⟩
        have H5 := toHid h5
        have HCELL : Hid (∀ j, j < 64 → w5.cell? ⟨w4.heap.size, j, none⟩ = some (.bool (g j))) := fun j hj => by
          obtain ⟨s, f, _, _, _, _, _, _, _, hB⟩ := h5
          exact hB.cell (by rw [List.getElem?_map, List.getElem?_range hj]; rfl)
        have HB := toHid (heldG_bytes h5)
        clear h5 HR HG
        by_cases hfit : a + n ≤ 64
        · go_wp2_with fail
          go_loop [16, 17] (fun wv t => ∃ k : Nat, t = .int .i64 k ∧ wv = .int .i64 (wantTo g a k) ∧ a ≤ k ∧ k ≤ a + n) (fun _ t => a + n - (intOf t).toNat)
          case atStart => exact ⟨a, by first | rfl | rw [ha], by rw [wantTo_start], by omega, by omega⟩
          case round =>
            obtain ⟨k, rfl, rfl, hk1, hk2⟩ := hrel
            by_cases hlt2 : k < a + n
            · have hck2 := HCELL.out k (by omega)
              have HSU := toHid (wantTo_succ g a k hk1)
              cases hgk : g k with
              | true =>
                rw [hgk] at hck2
                have HGK := toHid hgk
                clear hgk
                go_wp2
                go_round
                case rel => exact ⟨k + 1, by go_num, by rw [HSU.out, HGK.out]; rfl, by omega, by omega⟩
                case measure => simp [intOf]; omega
              | false =>
                rw [hgk] at hck2
                have HGK := toHid hgk
                clear hgk
                go_wp2
                go_round
                case rel => exact ⟨k + 1, by go_num, by rw [HSU.out, HGK.out]; rfl, by omega, by omega⟩
                case measure => simp [intOf]; omega
            · obtain rfl : k = a + n := by omega
              have HWA := toHid (wantTo_all g a n hfit)
              generalize wantTo g a (a + n) = x1 at *
              generalize wantE g a n = x2 at *
              have hx : x1 = x2 := HWA.out
              subst hx
              go_wp2_with (go_at_call 16; refine HB.out.mono ?_; rintro e w6 ⟨⟨N6, rfl⟩, h6⟩; have H6 := toHid h6; clear h6)
              go_ret
              exact ⟨rfl, H6.out⟩
        · have hwe : wantE g a n = 10 := by
            unfold wantE
            rw [if_pos (by omega)]
          rw [hwe]
          go_wp2_with fail
          go_loop [16, 17] (fun wv t => wv = .int .i64 0 ∧ t = .int .i64 a) (fun _ _ => 0)
          case atStart => exact ⟨rfl, by first | rfl | rw [ha]⟩
          case round =>
            obtain ⟨rfl, rfl⟩ := hrel
            go_wp2_with (go_at_call 16; refine HB.out.mono ?_; rintro e w6 ⟨⟨N6, rfl⟩, h6⟩; have H6 := toHid h6; clear h6)
            go_ret
            exact ⟨rfl, H6.out⟩
      · obtain ⟨a, ha⟩ : ∃ a : Nat, z k % 64 = a := ⟨(z k % 64).toNat, by omega⟩
        have ha64 : a < 64 := by omega
        have HS := toHid (heldG_store HG.out a (k : Int) ha64 (by omega))
        go_wp2_with fail
        refine HS.out.mono ?_
        rintro e w5 ⟨rfl, ⟨b5, hb5⟩, hf5, hG5⟩
        have H5 := toHid hG5
        clear hG5 HS
        go_wp2
        go_roundw
        case rel => exact ⟨k + 1, by omega, by go_num, _, H5.out⟩
        case measure => simp [intOf]; omega
    · obtain ⟨g, hG⟩ := HI.out
      have HG := toHid hG
      clear hG HI
      obtain ⟨a, ha, ha63⟩ := mod64 at_
      obtain ⟨n, hn, hn11⟩ := mod12 n_
      have HR := toHid (heldG_read HG.out a n (by omega) hn11)
      go_wp2_with fail
      refine HR.out.mono ?_
      rintro e w5 ⟨⟨v5, rfl⟩, h5⟩
      have H5 := toHid h5
      have HCELL : Hid (∀ j, j < 64 → w5.cell? ⟨w4.heap.size, j, none⟩ = some (.bool (g j))) := fun j hj => by
        obtain ⟨s, f, _, _, _, _, _, _, _, hB⟩ := h5
        exact hB.cell (by rw [List.getElem?_map, List.getElem?_range hj]; rfl)
      have HB := toHid (heldG_bytes h5)
      clear h5 HR HG
      by_cases hfit : a + n ≤ 64
      · go_wp2_with fail
        go_loop [16, 17] (fun wv t => ∃ k : Nat, t = .int .i64 k ∧ wv = .int .i64 (wantTo g a k) ∧ a ≤ k ∧ k ≤ a + n) (fun _ t => a + n - (intOf t).toNat)
        case atStart => exact ⟨a, by first | rfl | rw [ha], by rw [wantTo_start], by omega, by omega⟩
        case round =>
          obtain ⟨k, rfl, rfl, hk1, hk2⟩ := hrel
          by_cases hlt2 : k < a + n
          · have hck2 := HCELL.out k (by omega)
            have HSU := toHid (wantTo_succ g a k hk1)
            cases hgk : g k with
            | true =>
              rw [hgk] at hck2
              have HGK := toHid hgk
              clear hgk
              go_wp2
              go_round
              case rel => exact ⟨k + 1, by go_num, by rw [HSU.out, HGK.out]; rfl, by omega, by omega⟩
              case measure => simp [intOf]; omega
            | false =>
              rw [hgk] at hck2
              have HGK := toHid hgk
              clear hgk
              go_wp2
              go_round
              case rel => exact ⟨k + 1, by go_num, by rw [HSU.out, HGK.out]; rfl, by omega, by omega⟩
              case measure => simp [intOf]; omega
          · obtain rfl : k = a + n := by omega
            have HWA := toHid (wantTo_all g a n hfit)
            generalize wantTo g a (a + n) = x1 at *
            generalize wantE g a n = x2 at *
            have hx : x1 = x2 := HWA.out
            subst hx
            go_wp2_with (go_at_call 16; refine HB.out.mono ?_; rintro e w6 ⟨⟨N6, rfl⟩, h6⟩; have H6 := toHid h6; clear h6)
            go_ret
            exact ⟨rfl, H6.out⟩
      · have hwe : wantE g a n = 10 := by
          unfold wantE
          rw [if_pos (by omega)]
        rw [hwe]
        go_wp2_with fail
        go_loop [16, 17] (fun wv t => wv = .int .i64 0 ∧ t = .int .i64 a) (fun _ _ => 0)
        case atStart => exact ⟨rfl, by first | rfl | rw [ha]⟩
        case round =>
          obtain ⟨rfl, rfl⟩ := hrel
          go_wp2_with (go_at_call 16; refine HB.out.mono ?_; rintro e w6 ⟨⟨N6, rfl⟩, h6⟩; have H6 := toHid h6; clear h6)
          go_ret
          exact ⟨rfl, H6.out⟩
end Go.Proofs.Ytbidppeelophhaa
