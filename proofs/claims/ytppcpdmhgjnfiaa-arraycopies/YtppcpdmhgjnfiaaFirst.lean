/-
  first; a script that came in; ArrayAll's walk.
-/
import Derived.Test.YtppcpdmhgjnfiaaKeys
import Derived.Deep.RegionHeld3
import Derived.Deep.DrawnRows
import Derived.Deep.CutRange
namespace Go.Proofs.Ytppcpdmhgjnfiaa
open Go.RowKit

theorem KeyAt.touch {w w' : World} {sa : Option Addr} {sl : Nat} {bs : List Int} (h : KeyAt w sa sl bs) (ht : Touch [] w w') : KeyAt w' sa sl bs := by
  obtain ⟨h1, h2, h3, h4⟩ := h
  refine ⟨h1, h2, h3, fun hp => ?_⟩
  obtain ⟨b, off, ha, hb⟩ := h4 hp
  exact ⟨b, off, ha, fun j hj => ht.cell (hb j hj) (by simp)⟩
/-- Four bytes just laid. -/
theorem key_new (w : World) (a b c d : Int) (h : ∀ x ∈ [a, b, c, d], 0 ≤ x ∧ x ≤ 255) : KeyAt (w.alloc (.cells #[.int .u8 a, .int .u8 b, .int .u8 c, .int .u8 d] 5)) (some ⟨w.heap.size, 0, none⟩) 4 [a, b, c, d] := by
  have hB := Blk.newA w #[.int .u8 a, .int .u8 b, .int .u8 c, .int .u8 d] _ 5 rfl
  refine ⟨rfl, h, by simp, fun _ => ⟨_, 0, rfl, fun j hj => ?_⟩⟩
  simp at hj
  have : j = 0 ∨ j = 1 ∨ j = 2 ∨ j = 3 := by omega
  rcases this with rfl | rfl | rfl | rfl <;> exact hB.cell rfl

set_option maxHeartbeats 1000000 in
set_option maxRecDepth 100000 in
theorem first_any (w : World) : Calls Try.prog 6 #[] w fun e w' => e = .returned (.bool true) ∧ Touch [] w w' := by
  go_enter Try.func6, Try.ntmps6
  go_wp2_with fail
  refine Calls.mono (new_any w 3 (by omega) (by omega)) ?_
  rintro e w2 ⟨rfl, hi, ht⟩
  have hk := key_new w2 2 0 0 0 (by decide)
  have ht3 := (Touch.refl [] w2).alloc (.cells #[.int .u8 2, .int .u8 0, .int .u8 0, .int .u8 0] 5)
  have H1 := toHid (find_any (hi.touch ht3 (by simp)) hk 4)
  have HH := toHid (And.intro hi (ht.trans ht3 (by simp)))
  rw [show findI (3 : Nat) [2, 0, 0, 0] = (2, true) from rfl] at H1
  clear hi ht hk
  go_wp2_with fail
  refine Calls.mono H1.out ?_
  rintro e w3 ⟨rfl, rfl⟩
  have hk := key_new (w2.alloc (.cells #[.int .u8 2, .int .u8 0, .int .u8 0, .int .u8 0] 5)) 3 0 0 0 (by decide)
  have ht4 := (Touch.refl [] (w2.alloc (.cells #[.int .u8 2, .int .u8 0, .int .u8 0, .int .u8 0] 5))).alloc (.cells #[.int .u8 3, .int .u8 0, .int .u8 0, .int .u8 0] 5)
  have H2 := toHid (find_any ((HH.out.1.touch ht3 (by simp)).touch ht4 (by simp)) hk 4)
  rw [show findI (3 : Nat) [3, 0, 0, 0] = (0, false) from rfl] at H2
  have HT := toHid (HH.out.2.trans ht4 (by simp))
  simp only [World.size_alloc] at H2
  clear ht3 ht4 hk HH H1
  go_wp2_with fail
  refine Calls.mono H2.out ?_
  rintro e w3 ⟨rfl, rfl⟩
  go_wp2
  go_ret
  exact ⟨rfl, HT.out⟩

/-- A call of a script. -/
structure OpC where
  k : Int
  sa : Option Addr
  sl : Nat
  sc : Nat
  bs : List Int
  fl : Int
structure OpC.Ok (w : World) (o : OpC) : Prop where
  k0 : -9223372036854775808 ≤ o.k
  k1 : o.k ≤ 9223372036854775807
  f0 : 0 ≤ o.fl
  f1 : o.fl ≤ 18446744073709551615
  key : KeyAt w o.sa o.sl o.bs
/-- A script that came in. -/
def Script (w : World) (sa : Option Addr) (n : Nat) (f : Nat → OpC) : Prop := n = 0 ∨ ∃ b off, sa = some ⟨b, off, none⟩ ∧ ∀ j, j < n → (f j).Ok w ∧ w.cell? ⟨b, off + j * 3, none⟩ = some (.int .i64 (f j).k) ∧
  w.cell? ⟨b, off + j * 3 + 1, none⟩ = some (.slice (f j).sa (f j).sl (f j).sc) ∧ w.cell? ⟨b, off + j * 3 + 2, none⟩ = some (.int .u64 (f j).fl)
theorem Script.at_ {w : World} {sa : Option Addr} {n : Nat} {f : Nat → OpC} (h : Script w sa n f) {k : Nat} (hk : k < n) : ∃ b off, sa = some ⟨b, off, none⟩ ∧ ∀ j, j < n → (f j).Ok w ∧ w.cell? ⟨b, off + j * 3, none⟩ = some (.int .i64 (f j).k) ∧
  w.cell? ⟨b, off + j * 3 + 1, none⟩ = some (.slice (f j).sa (f j).sl (f j).sc) ∧ w.cell? ⟨b, off + j * 3 + 2, none⟩ = some (.int .u64 (f j).fl) := by
  rcases h with h | h
  · omega
  · exact h

theorem num_le4 (n : Int) (h0 : 0 ≤ n) (h1 : n ≤ 4294967295) : keyNum (le4 n) = n := by
  show 0 + byteOf n 0 * 1 + byteOf n 1 * 256 + byteOf n 2 * 65536 + byteOf n 3 * 16777216 = n
  show 0 + n / 1 % 256 * 1 + n / 256 % 256 * 256 + n / 65536 % 256 * 65536 + n / 16777216 % 256 * 16777216 = n
  omega

set_option maxHeartbeats 4000000 in
set_option maxRecDepth 100000 in
theorem arrayAll_walk (m : Int) (sa : Option Addr) (n c : Nat) (f : Nat → OpC) (x : Int) (w : World) (hs : Script w sa n f) (hn : n ≤ 9223372036854775807) (hnc : n ≤ c) (hx0 : 0 ≤ x) (hx1 : x ≤ 4294967295) :
    Calls Try.prog 5 #[.int .i64 m, .slice sa n c, .int .u32 x] w fun e w' => e = .returned (.bool true) ∧ Touch [] w w' := by
  have HS := toHid hs
  clear hs
  by_cases hm : 1 ≤ m ∧ m ≤ 64
  · obtain ⟨M, rfl⟩ := Int.eq_ofNat_of_zero_le (show 0 ≤ m by omega)
    go_enter Try.func5, Try.ntmps5
    go_wp2_with fail
    refine (first_any w).mono ?_
    rintro e w2 ⟨rfl, ht2⟩
    have HT2 := toHid ht2
    clear ht2
    go_wp2_with fail
    refine (new_any w2 M (by omega) (by omega)).mono ?_
    rintro e w3 ⟨rfl, hi, ht3⟩
    have HP := toHid (And.intro hi (HT2.out.trans ht3 (by simp)))
    have HX := toHid HT2.out.size
    generalize w2.heap.size = X at *
    clear hi ht3 HT2
    go_upto_region 6 with fail
    go_cut [35, 36, 37, 38] from 32 to 38 (fun z a b i wx => ∃ h : Nat, h ≤ n ∧ h ≤ 30 ∧ z = .int .i64 h ∧ a = .slice sa h c ∧ b = .int .i64 h ∧ i = .int .i64 0 ∧ wx = w3)
    case first =>
      go_wp2
      all_goals
        go_meet
        first
          | exact ⟨n, Nat.le_refl _, by omega, rfl, rfl, rfl, rfl, rfl⟩
          | exact ⟨30, by omega, Nat.le_refl _, rfl, rfl, rfl, rfl, rfl⟩
    case rest =>
      obtain ⟨h, hh1, hh2, rfl, rfl, rfl, rfl, rfl⟩ := hcut
      go_wp2_with fail
      go_loopw [38] (fun x w' => ∃ k : Nat, k ≤ h ∧ x = .int .i64 k ∧ Hid (IdxAt w' X M ∧ Touch [] w w')) (fun x _ => h - (intOf x).toNat)
      case atStart => exact ⟨0, by omega, rfl, HP.out⟩
      case round =>
        clear HP
        obtain ⟨k, hk, rfl, HI⟩ := hrel
        by_cases hlt : k < h
        · obtain ⟨b, off, hsa, hcell⟩ := HS.out.at_ (show k < n by omega)
          subst hsa
          obtain ⟨ok, c0, c1, c2⟩ := hcell k (by omega)
          replace c0 := HI.out.2.cell c0 (by simp)
          replace c1 := HI.out.2.cell c1 (by simp)
          replace c2 := HI.out.2.cell c2 (by simp)
          generalize f k = o at *
          have hkn : (k : Int) < h := by omega
          have hta := (Touch.refl [] wr).alloc (.cells #[.int .i64 o.k, .slice o.sa o.sl o.sc, .int .u64 o.fl] 35)
          have HJ := toHid (And.intro (HI.out.1.touch hta (by simp)) (HI.out.2.trans hta (by simp)))
          have H1 := toHid (put_any HJ.out.1 (ok.key.touch HJ.out.2) o.sc o.fl ok.f0)
          have H2 := toHid (del_any (wr.alloc (.cells #[.int .i64 o.k, .slice o.sa o.sl o.sc, .int .u64 o.fl] 35)) X o.sa o.sl o.sc)
          generalize putI M o.bs o.fl = pr at *
          clear hcell HI ok hta
          go_wp2_with fail
          refine Calls.mono H1.out ?_
          rintro e w ⟨rfl, rfl⟩
          go_wp2_with fail
          refine Calls.mono H2.out ?_
          rintro e w ⟨rfl, rfl⟩
          go_wp2
          go_roundw
          case rel => exact ⟨k + 1, by omega, by go_num, HJ.out⟩
          case measure => simp [intOf]; omega
        · obtain rfl : k = h := by omega
          have hk4 := key_new wr (byteOf x 0) (byteOf x 1) (byteOf x 2) (byteOf x 3) (le4_bd x)
          have hta := (Touch.refl [] wr).alloc (.cells #[.int .u8 (byteOf x 0), .int .u8 (byteOf x 1), .int .u8 (byteOf x 2), .int .u8 (byteOf x 3)] 5)
          have HJ := toHid (And.intro (HI.out.1.touch hta (by simp)) (HI.out.2.trans hta (by simp)))
          have H1 := toHid (find_any HJ.out.1 hk4 4)
          rw [← le4_eq, show findI M (le4 x) = slotI M (keyNum (le4 x)) from rfl, num_le4 x hx0 hx1] at H1
          have H2 := toHid (keys_any HJ.out.1)
          have b0 : x % 256 = byteOf x 0 := by show _ = x / 1 % 256; omega
          have b1 : x / 256 % 256 = byteOf x 1 := rfl
          have b2 : x / 65536 % 256 = byteOf x 2 := rfl
          have b3 : x / 16777216 = byteOf x 3 := by show _ = x / 16777216 % 256; omega
          clear hk4 hta HI HS
          go_wp2_with fail
          refine Calls.mono H1.out ?_
          rintro e w4 ⟨rfl, rfl⟩
          clear b0 b1 b2 b3 H1
          have hKM : (allKeys M).length = M := by simp [allKeys]
          unfold slotI
          by_cases hxm : x < M
          · rw [if_pos hxm]
            go_wp2_with fail
            refine Calls.mono H2.out ?_
            rintro e w5 ⟨⟨v, rfl, g, cap, l, rfl, hl1, hl2⟩, ht5⟩
            have hlM : l.length = M := by rw [← hKM, ← hl2, List.length_map]
            rw [hlM]
            unfold slV
            have HF := toHid (HJ.out.2.trans ht5 (by simp))
            clear hl1 hl2 ht5 H2 HJ hlM hKM
            go_wp2
            go_ret
            exact ⟨rfl, HF.out⟩
          · rw [if_neg hxm]
            have hd : decide (x < (M : Int)) = false := by simpa using hxm
            go_wp2_with fail
            refine Calls.mono H2.out ?_
            rintro e w5 ⟨⟨v, rfl, g, cap, l, rfl, hl1, hl2⟩, ht5⟩
            have hlM : l.length = M := by rw [← hKM, ← hl2, List.length_map]
            rw [hlM]
            unfold slV
            have HF := toHid (HJ.out.2.trans ht5 (by simp))
            clear hl1 hl2 ht5 H2 HJ hlM hKM
            go_wp2
            go_ret
            exact ⟨rfl, HF.out⟩
  · go_enter Try.func5, Try.ntmps5
    go_wp2_with fail
    refine (first_any w).mono ?_
    rintro e w2 ⟨rfl, ht2⟩
    have HT2 := toHid ht2
    clear ht2
    go_wp2_with fail
    refine (new_bad w2 m hm).mono ?_
    rintro e w3 ⟨rfl, rfl⟩
    by_cases h1 : m < 1
    · clear hm
      go_wp2
      go_ret
      exact ⟨rfl, HT2.out⟩
    · have h2 : 64 < m := by omega
      clear hm
      go_wp2
      go_ret
      exact ⟨rfl, HT2.out⟩
end Go.Proofs.Ytppcpdmhgjnfiaa
