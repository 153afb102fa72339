/-
  The document's own Bytes: a number's bytes, an instruction's bytes.
-/
import Derived.Test.YtjioemkapmchpaaStr
namespace Go.Proofs.Ytjioemkapmchpaa
open Go.RowKit

/-- A slice of bytes of a call's own. -/
def OwnAt (w0 w : World) (v : Value) (bs : List Int) : Prop := ∃ g cap, v = slV g bs.length cap ∧ RowAt w 5 1 g bs.length cap (bs.map (Value.int .u8)) ∧ ∀ b, g = some b → w0.heap.size ≤ b

theorem OwnAt.nil (w0 w : World) : OwnAt w0 w (.slice none 0 0) [] := ⟨none, 0, rfl, ⟨rfl, Nat.le_refl _, by unfold maxLen; omega, rfl⟩, fun b hb => by cases hb⟩
theorem OwnAt.touch {w0 w w' : World} {v : Value} {bs : List Int} (h : OwnAt w0 w v bs) (ht : Touch [] w w') : OwnAt w0 w' v bs := by
  obtain ⟨g, cap, h1, h2, h3⟩ := h
  exact ⟨g, cap, h1, h2.touch ht (by simp), h3⟩
theorem OwnAt.down {w0 w1 w : World} {v : Value} {bs : List Int} (h : OwnAt w1 w v bs) (hs : w0.heap.size ≤ w1.heap.size) : OwnAt w0 w v bs := by
  obtain ⟨g, cap, h1, h2, h3⟩ := h
  exact ⟨g, cap, h1, h2, fun b hb => Nat.le_trans hs (h3 b hb)⟩

/-- Bytes appended to such a slice: a new world. -/
theorem OwnAt.more {w0 w : World} {v : Value} {bs : List Int} (h : OwnAt w0 w v bs) (ht : Touch [] w0 w) (b off m c : Nat) (cs : List Int) (hm : cs.length = m) (hcell : ∀ j u, (cs.map (Value.int .u8))[j]? = some u → w.cell? ⟨b, off + j, none⟩ = some u)
    (hl : bs.length + m ≤ 140737488355328) :
    ∃ v' w', (Builtin.append_ #[22, 22] 22 #[v, .slice (some ⟨b, off, none⟩) m c]).run Try.prog w = .ok v' w' ∧ OwnAt w0 w' v' (bs ++ cs) ∧ Touch [] w0 w' := by
  subst hm
  obtain ⟨g, cap, rfl, hrow, hg⟩ := h
  obtain ⟨i, hi, hz, hs, hb⟩ := info_of info5
  obtain ⟨g', cap', w', hr, h2, h3, h4, _⟩ := run_append_row (P := Try.prog) w 22 22 5 i (.int .u8 0) 1 Try.underlying22 hi hz hs rfl (by omega) g bs.length cap _ hrow ⟨b, off, none⟩ cs.length c (cs.map (Value.int .u8)) (by simp)
    (fun j u hj => by rw [Addr.add_lit]; exact hcell j u hj) (fun u hu => by
      obtain ⟨x, _, rfl⟩ := List.mem_map.1 hu
      rfl) (by rw [hb]; omega) (by omega)
  have hsz := ht.size
  refine ⟨_, w', hr, ⟨g', cap', by simp, by simpa using h2, fun b hb => ?_⟩, ht.trans h3 (fun y hy => Or.inr (hg y (by simpa using hy)))⟩
  rcases h4 with rfl | rfl
  · exact hg b hb
  · injection hb with hb
    omega

/-- One byte appended. -/
theorem OwnAt.push {w0 w : World} {v : Value} {bs : List Int} (h : OwnAt w0 w v bs) (ht : Touch [] w0 w) (x : Int) (hl : bs.length ≤ 100000) :
    ∃ v' w', (Builtin.append_ #[22, 22] 22 #[v, .slice (some ⟨w.heap.size, 0, none⟩) 1 1]).run Try.prog (w.alloc (.cells #[.int .u8 x] 5)) = .ok v' w' ∧ OwnAt w0 w' v' (bs ++ [x]) ∧ Touch [] w0 w' := by
  have hN := Blk.newA w #[.int .u8 x] _ 5 rfl
  have hta : Touch [] w (w.alloc (.cells #[.int .u8 x] 5)) := (Touch.refl _ w).alloc _
  exact (h.touch hta).more (ht.trans hta (by simp)) w.heap.size 0 1 1 [x] rfl (fun j u hj => by
    have : j = 0 := by have := (List.getElem?_eq_some_iff.1 hj).1; simp at this; exact this
    subst this
    exact hN.cell hj) (by omega)

/-- One such slice appended to another. -/
theorem OwnAt.cat {w0 w1 w : World} {v u : Value} {bs cs : List Int} (h : OwnAt w0 w v bs) (ht : Touch [] w0 w) (k : OwnAt w1 w u cs) (hp : 0 < cs.length) (hl : bs.length + cs.length ≤ 140737488355328) :
    ∃ v' w', (Builtin.append_ #[22, 22] 22 #[v, u]).run Try.prog w = .ok v' w' ∧ OwnAt w0 w' v' (bs ++ cs) ∧ Touch [] w0 w' := by
  obtain ⟨g, cap, rfl, hrow, _⟩ := k
  cases g with
  | none =>
    have h1 := hrow.2.1
    have h4 : cap = 0 := hrow.2.2.2
    omega
  | some b =>
    obtain ⟨_, _, _, rest, hB, _⟩ := hrow
    exact h.more ht b 0 cs.length cap cs rfl (fun j x hj => by
      rw [Nat.zero_add]
      exact hB.cell (by rw [List.getElem?_append_left (List.getElem?_eq_some_iff.1 hj).1]; exact hj)) hl

def byteOf (v : Int) (j : Nat) : Int := v / 256 ^ j % 256
theorem byteOf_bd (v : Int) (j : Nat) : 0 ≤ byteOf v j ∧ byteOf v j ≤ 255 := by unfold byteOf; omega

set_option maxHeartbeats 2000000 in
set_option maxRecDepth 100000 in
theorem rbytes_any (v : Int) (n : Nat) (w : World) (hv0 : 0 ≤ v) (hv1 : v ≤ 18446744073709551615) (hn : n ≤ 8) :
    Calls Try.prog 29 #[.int .u64 v, .int .i64 n] w fun e w' => (∃ x, e = .returned x ∧ OwnAt w w' x ((List.range n).map (byteOf v))) ∧ Touch [] w w' := by
  have HD : ∀ k : Nat, 0 ≤ v / 256 ^ k ∧ v / 256 ^ k ≤ 18446744073709551615 := fun k => by
    have h1 : 0 ≤ v / 256 ^ k := Int.ediv_nonneg hv0 (Int.pow_nonneg (by omega))
    have h2 : v / 256 ^ k ≤ v := Int.ediv_le_self _ hv0
    omega
  have HDD := toHid HD
  clear HD
  go_enter Try.func29, Try.ntmps29
  go_wp2
  go_loopw [0, 5, 6] (fun x o t w' => ∃ k : Nat, k ≤ n ∧ t = .int .i64 k ∧ x = .int .u64 (v / 256 ^ k) ∧ Hid (OwnAt w w' o ((List.range k).map (byteOf v)) ∧ Touch [] w w')) (fun _ _ t _ => n - (intOf t).toNat)
  case atStart => exact ⟨0, by omega, rfl, by simp, OwnAt.nil _ _, Touch.refl _ _⟩
  case round =>
    obtain ⟨k, hk, rfl, rfl, HI⟩ := hrel
    by_cases hlt : k < n
    · have hd := HDD.out k
      obtain ⟨v', w', hr, ho, ht⟩ := HI.out.1.push HI.out.2 (byteOf v k) (by simp; omega)
      have HRR := toHid hr
      have HO := toHid (And.intro ho ht)
      have hby : v / 256 ^ k % 256 = byteOf v k := rfl
      have hbd := byteOf_bd v k
      have HDS : Hid (v / 256 ^ k / 256 = v / 256 ^ (k + 1)) := by
        show v / 256 ^ k / 256 = v / 256 ^ (k + 1)
        rw [Int.pow_succ, Int.ediv_ediv_of_nonneg (Int.pow_nonneg (by omega))]
      generalize hq : v / 256 ^ k = q at *
      generalize hy : byteOf v k = y at *
      have HY := toHid hy
      clear hr ho ht hq hy
      go_wp2_with (at_builtin; refine Lib.wpList_append_run _ rfl _ _ _ _ rfl _ _ rfl rfl _ _ HRR.out ?_)
      refine ⟨⟨k + 1, by omega, by go_num, by rw [HDS.out], ?_⟩, by simp [intOf]; omega⟩
      rw [List.range_succ, List.map_append, List.map_singleton, HY.out]
      exact HO.out
    · obtain rfl : k = n := by omega
      go_wp2
      go_ret
      exact ⟨⟨_, rfl, HI.out.1⟩, HI.out.2⟩

def In.nums (i : In) : List Int := [i.byte 0, i.byte 1, i.byte 2, i.byte 3, i.byte 4, i.byte 5, i.byte 6, i.byte 7]
theorem nums_split (i : In) : i.nums = [i.op, i.dst % 16 + i.src % 16 * 16] ++ (List.range 2).map (byteOf (i.off % 65536)) ++ (List.range 4).map (byteOf (i.imm % 4294967296)) := by
  have e2 : i.byte 2 = byteOf (i.off % 65536) 0 := by show i.off % 65536 % 256 = i.off % 65536 / 1 % 256; omega
  have e3 : i.byte 3 = byteOf (i.off % 65536) 1 := by show i.off % 65536 / 256 = i.off % 65536 / 256 % 256; omega
  have e4 : i.byte 4 = byteOf (i.imm % 4294967296) 0 := by show i.imm % 4294967296 % 256 = i.imm % 4294967296 / 1 % 256; omega
  have e5 : i.byte 5 = byteOf (i.imm % 4294967296) 1 := rfl
  have e6 : i.byte 6 = byteOf (i.imm % 4294967296) 2 := rfl
  have e7 : i.byte 7 = byteOf (i.imm % 4294967296) 3 := by show i.imm % 4294967296 / 16777216 = i.imm % 4294967296 / 16777216 % 256; omega
  unfold In.nums
  rw [e2, e3, e4, e5, e6, e7, show i.byte 1 = i.dst % 16 + i.src % 16 * 16 from Int.add_comm _ _]
  rfl

set_option maxHeartbeats 2000000 in
set_option maxRecDepth 100000 in
theorem ribytes_any (i : In) (w : World) (ok : i.Ok) :
    Calls Try.prog 12 #[i.v] w fun e w' => (∃ x, e = .returned x ∧ OwnAt w w' x i.nums) ∧ Touch [] w w' := by
  have a1 := ok.src0
  have a2 := ok.src1
  have a3 := ok.dst0
  have a4 := ok.dst1
  simp only [In.v]
  have hw1 : IntKind.u64.wrap (IntKind.u16.wrap i.off) = i.off % 65536 := by rw [IntKind.wrap_u16, IntKind.wrap_u64]; omega
  have hO : OwnAt (w.alloc (.cells #[.int .u8 i.op, .int .u8 i.dst, .int .u8 i.src, .int .i16 i.off, .int .i32 i.imm] 30)) ((w.alloc (.cells #[.int .u8 i.op, .int .u8 i.dst, .int .u8 i.src, .int .i16 i.off, .int .i32 i.imm] 30)).alloc (.cells #[.int .u8 i.op, .int .u8 (i.dst % 16 + i.src % 16 * 16)] 5))
      (.slice (some ⟨w.heap.size + 1, 0, none⟩) 2 2) [i.op, i.dst % 16 + i.src % 16 * 16] := by
    have hN := Blk.newA (w.alloc (.cells #[.int .u8 i.op, .int .u8 i.dst, .int .u8 i.src, .int .i16 i.off, .int .i32 i.imm] 30)) #[.int .u8 i.op, .int .u8 (i.dst % 16 + i.src % 16 * 16)] _ 5 rfl
    rw [World.size_alloc] at hN
    exact ⟨some (w.heap.size + 1), 2, rfl, ⟨rfl, Nat.le_refl _, by unfold maxLen; omega, [], by simpa using hN, by simp⟩, fun b hb => by injection hb with hb; simp; omega⟩
  have HO := toHid hO
  have hA := Blk.newA w #[.int .u8 i.op, .int .u8 i.dst, .int .u8 i.src, .int .i16 i.off, .int .i32 i.imm] _ 30 rfl
  have HT0 := toHid ((Touch.refl [] w).alloc (.cells #[.int .u8 i.op, .int .u8 i.dst, .int .u8 i.src, .int .i16 i.off, .int .i32 i.imm] 30))
  have HT1 := toHid ((Touch.refl [] (w.alloc (.cells #[.int .u8 i.op, .int .u8 i.dst, .int .u8 i.src, .int .i16 i.off, .int .i32 i.imm] 30))).alloc (.cells #[.int .u8 i.op, .int .u8 (i.dst % 16 + i.src % 16 * 16)] 5))
  have HA := toHid hA
  clear hO hA
  go_enter Try.func12, Try.ntmps12
  go_wp2_with fail
  refine (rbytes_any (i.off % 65536) 2 _ (by omega) (by omega) (by omega)).mono ?_
  rintro e w2 ⟨⟨x2, rfl, ho2⟩, ht2⟩
  have hT2 := HT1.out.trans ht2 (by simp)
  obtain ⟨v3, w3, hr3, ho3, ht3⟩ := (HO.out.touch ht2).cat hT2 ho2 (by simp) (by simp)
  have HR3 := toHid hr3
  have HO3 := toHid ho3
  have HT3 := toHid ht3
  have hA3 := ht3.blk HA.out (by simp)
  have d4 := hA3.cell (i := 4) rfl
  clear hr3 ho3 ht3 hA3 ho2 ht2 hT2 HO HT1 HA hw1
  go_wp2_with (at_builtin; refine Lib.wpList_append_run _ rfl _ _ _ _ rfl _ _ rfl rfl _ _ HR3.out ?_)
  refine (rbytes_any (i.imm % 4294967296) 4 _ (by omega) (by omega) (by omega)).mono ?_
  rintro e w4 ⟨⟨x4, rfl, ho4⟩, ht4⟩
  have hT4 := HT3.out.trans ht4 (by simp)
  obtain ⟨v5, w5, hr5, ho5, ht5⟩ := (HO3.out.touch ht4).cat hT4 ho4 (by simp) (by simp)
  have HR5 := toHid hr5
  rw [← nums_split] at ho5
  have HO5 := toHid (ho5.down HT0.out.size)
  have HT5 := toHid (HT0.out.trans ht5 (by simp))
  clear hr5 ho5 ht5 hT4 ho4 ht4 HR3 HO3 HT3
  go_wp2_with (at_builtin; refine Lib.wpList_append_run _ rfl _ _ _ _ rfl _ _ rfl rfl _ _ HR5.out ?_)
  go_ret
  exact ⟨⟨_, rfl, HO5.out⟩, HT5.out⟩
end Go.Proofs.Ytjioemkapmchpaa
