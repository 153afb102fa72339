/-
  AsmLoose returns true for every list of at most 2^20 slots and every row of gaps.
-/
import Derived.Test.YthlfnmjefpdjgaaGreatDoorAgain
import Derived.Test.YthlfnmjefpdjgaaGreatDoorLooseP
namespace Go.Proofs.YthlfnmjefpdjgaaGreatDoor
open Go.RowKit

/-- The bytes of a slice. -/
def BytesC (w : World) (sb : Option Addr) (m : Nat) (z : Nat → Int) : Prop :=
  m = 0 ∨ ∃ b off, sb = some ⟨b, off, none⟩ ∧ b < w.heap.size ∧ ∀ j, j < m → w.cell? ⟨b, off + j, none⟩ = some (.int .u8 (z j)) ∧ 0 ≤ z j ∧ z j ≤ 255
theorem BytesC.touch {w w' : World} {sb : Option Addr} {m : Nat} {z : Nat → Int} (h : BytesC w sb m z) (ht : Touch [] w w') : BytesC w' sb m z := by
  rcases h with h | ⟨b, off, h1, h2, h3⟩
  · exact Or.inl h
  · exact Or.inr ⟨b, off, h1, Nat.lt_of_lt_of_le h2 ht.size, fun j hj => ⟨ht.cell (h3 j hj).1 (by simp), (h3 j hj).2⟩⟩
theorem extract_one (s : Bs) (k : Nat) (ch : UInt8) (h : s[k]? = some ch) : (⟨s.toArray⟩ : ByteArray).extract k (k + 1) = ⟨#[ch]⟩ := by
  obtain ⟨h1, h2⟩ := List.getElem?_eq_some_iff.1 h
  apply ByteArray.ext
  rw [ByteArray.data_extract]
  simp [h2, List.extract_eq_take_drop, List.drop_eq_getElem_cons h1]
/-- How wide the gap at a place is. -/
def gapOf (m : Nat) (z : Nat → Int) (i : Nat) : Nat := if m = 0 then 0 else (z (i % m) % 4).toNat
theorem gap_lt (m : Nat) (z : Nat → Int) (i : Nat) : gapOf m z i < 4 := by
  unfold gapOf
  split <;> omega

set_option maxRecDepth 100000 in
set_option maxHeartbeats 4000000 in
theorem loose_walk (L : List In) (sa : Option Addr) (c : Nat) (sb : Option Addr) (m cb : Nat) (z : Nat → Int) (w : World) (hE : Env w) (hn : L.length ≤ 1048576) (hm : m ≤ 1048576) (hc : L.length ≤ c) (hL : LC w sa L) (hok : ∀ i ∈ L, i.Ok) (hB : BytesC w sb m z) :
    Calls Tryz.prog 6 #[.slice sa L.length c, .slice sb m cb] w fun e w' => e = .returned (.bool true) ∧ Touch [] w w' := by
  have HF := toHid (first_any w hE)
  go_enter Tryz.func6, Tryz.ntmps6
  go_wp2_with fail
  refine Calls.mono HF ?_
  rintro e w1 ⟨rfl, ht1⟩
  have hE1 := hE.touch0 ht1
  have hL1 := hL.touch ht1
  have HT1 := toHid ht1
  have HPR := toHid (print_lc L sa c w1 hE1 (by omega) hc hL1 hok)
  clear ht1 HF hL1
  go_wp2_with fail
  refine Calls.mono HPR ?_
  rintro e w2 ⟨ht2, hcase⟩
  have HT2 := toHid ((show Touch [] w w1 from HT1).trans ht2 (by simp))
  have HE2 := toHid (hE1.touch0 ht2)
  clear ht2 HPR hE1 HT1
  cases hp : printP L with
  | none =>
    rw [hp] at hcase
    simp only at hcase
    subst hcase
    go_wp2
    go_ret
    exact ⟨rfl, HT2⟩
  | some s =>
    obtain ⟨hpb, hsl, hll⟩ := loose_back (gapOf m z) (gap_lt m z) L s hok hp
    rw [hp] at hcase
    simp only at hcase
    subst hcase
    have HPB := toHid hpb
    have HB := toHid hB
    have HL := toHid hL
    clear hpb hp hB hL
    go_wp2_with fail
    go_loopw [7, 8] (fun lv iv w' => ∃ (k : Nat) (T : Bs), lv = .string ⟨T.toArray⟩ ∧ iv = .int .i64 (k : Int) ∧ k ≤ s.length ∧ T.length ≤ 12 * k ∧ Hid (T = looseF (gapOf m z) 0 (s.take k)) ∧ Hid (Touch [] w w')) (fun _ iv _ => s.length - (intOf iv).toNat)
    case atStart => exact ⟨0, [], rfl, rfl, by omega, by simp, rfl, HT2⟩
    case round =>
      obtain ⟨k, T, rfl, rfl, hk, hTl, HTT, HT⟩ := hrel
      by_cases hlt : k < s.length
      · obtain ⟨ch, hch⟩ : ∃ ch, s[k]? = some ch := ⟨_, List.getElem?_eq_getElem hlt⟩
        have HTS := toHid ((loose_take (gapOf m z) s k ch hch).trans (by rw [← (show T = _ from HTT)]))
        obtain ⟨n, hgn⟩ : ∃ n, n = gapOf m z k := ⟨_, rfl⟩
        have hn4 : n < 4 := by rw [hgn]; exact gap_lt m z k
        by_cases hm0 : m = 0
        · subst hm0
          obtain rfl : n = 0 := by rw [hgn]; rfl
          have HGN := toHid hgn
          clear hgn hn4
          have hget : ∀ h, (⟨s.toArray⟩ : ByteArray)[k]'h = ch := fun h => by
            obtain ⟨h1, h2⟩ := List.getElem?_eq_some_iff.1 hch
            exact h2
          have hA := Blk.newA wr #[str [10], str [32, 10, 10], str [10, 35, 32, 109, 111, 118, 32, 114, 48, 32, 49, 10], str [10, 32, 32, 32, 35, 10, 32, 32]] (nlN.map str) 9 rfl
          obtain ⟨pz, hpz⟩ : ∃ pz, nlN[0]? = some pz := ⟨_, List.getElem?_eq_getElem (by simp [nlN])⟩
          have cz := hA.cell (i := 0) (v := str pz) (by rw [List.getElem?_map, hpz]; rfl)
          have HT' := toHid ((show Touch [] w wr from HT).alloc (.cells #[str [10], str [32, 10, 10], str [10, 35, 32, 109, 111, 118, 32, 114, 48, 32, 49, 10], str [10, 32, 32, 32, 35, 10, 32, 32]] 9))
          unfold str at cz HT'
          have lpz : pz.length ≤ 12 := by
            have := piece_len 10 0 (by omega)
            simpa [piece, hpz] using this
          have nz : ¬ 9223372036854775807 < T.length + pz.length := by omega
          have n1 : ¬ 9223372036854775807 < T.length + 1 := by omega
          clear hA
          by_cases h32 : ch = 32
          · have HTP := toHid (show looseF (gapOf 0 z) 0 (s.take (k + 1)) = T ++ List.replicate (0 + 1) 32 from (show _ = _ from HTS).trans (by rw [← (show 0 = _ from HGN), h32]; rfl))
            have b32 : ((ch.toNat : Int) == 32) = true := by rw [h32]; rfl
            have hb1 : ((⟨T.toArray⟩ : ByteArray) ++ ⟨#[32]⟩) = ⟨(T ++ [32]).toArray⟩ := ba_append T [32]
            clear HTS cz nz
            go_wp2_with fail
            go_loopw [7, 10] (fun lv jv w' => ∃ (j : Nat) (U : Bs), lv = .string ⟨U.toArray⟩ ∧ jv = .int .i64 (j : Int) ∧ j ≤ 0 ∧ U.length = T.length + 1 + j ∧ Hid (U = T ++ List.replicate (j + 1) 32) ∧ w' = wr) (fun _ jv _ => 0 - (intOf jv).toNat)
            case atStart => exact ⟨0, T ++ [32], by simp, rfl, by omega, by simp, rfl, rfl⟩
            case round =>
              obtain ⟨j, U, rfl, rfl, hj, hUl, HU, rfl⟩ := hrel
              by_cases hjn : j < 0
              · omega
              · obtain rfl : j = 0 := by omega
                go_wp2
                go_roundw
                case rel => exact ⟨k + 1, U, rfl, by go_num, by omega, by omega, toHid ((show U = _ from HU).trans (show _ = _ from HTP).symm), HT⟩
                case measure => simp [intOf]; omega
          · have b32 : ((ch.toNat : Int) == 32) = false := by
              have : ch.toNat ≠ 32 := fun e => h32 (UInt8.toNat_inj.1 e)
              simp; omega
            by_cases h10 : ch = 10
            · have HTP := toHid (show looseF (gapOf 0 z) 0 (s.take (k + 1)) = T ++ pz from (show _ = _ from HTS).trans (by rw [← (show 0 = _ from HGN), h10]; simp [piece, hpz]))
              have b10 : ((ch.toNat : Int) == 10) = true := by rw [h10]; rfl
              have hb1 : ((⟨T.toArray⟩ : ByteArray) ++ ⟨pz.toArray⟩) = ⟨(T ++ pz).toArray⟩ := ba_append T pz
              clear HTS
              go_wp2
              go_roundw
              case rel => exact ⟨k + 1, T ++ pz, by simp, by go_num, by omega, by simp; omega, HTP.out.symm, HT'⟩
              case measure => simp [intOf]; omega
            · have b10 : ((ch.toNat : Int) == 10) = false := by
                have : ch.toNat ≠ 10 := fun e => h10 (UInt8.toNat_inj.1 e)
                simp; omega
              have HTP := toHid (show looseF (gapOf 0 z) 0 (s.take (k + 1)) = T ++ [ch] from (show _ = _ from HTS).trans (by unfold piece; rw [if_neg h32, if_neg h10]))
              have hb1 : ((⟨T.toArray⟩ : ByteArray) ++ ⟨#[ch]⟩) = ⟨(T ++ [ch]).toArray⟩ := ba_append T [ch]
              clear HTS cz nz
              have hx : (⟨s.toArray⟩ : ByteArray).extract k (k + 1) = ⟨#[ch]⟩ := extract_one s k ch hch
              go_wp2
              go_roundw
              case rel => exact ⟨k + 1, T ++ [ch], by simp, by go_num, by omega, by simp; omega, HTP.out.symm, HT⟩
              case measure => simp [intOf]; omega
        · obtain ⟨bb, ob, rfl, hbb, hzz⟩ := ((show BytesC w sb m z from HB).touch HT).resolve_left hm0
          have hkm : k % m < m := Nat.mod_lt _ (by omega)
          obtain ⟨cg, z0, z1⟩ := hzz (k % m) hkm
          have HGN := toHid hgn
          have hzn : z (k % m) % 4 = (n : Int) := by rw [hgn]; unfold gapOf; rw [if_neg hm0]; omega
          have hmp : (0 : Int) < (m : Int) := by omega
          have hmm : (k : Int) % (m : Int) = ((k % m : Nat) : Int) := by omega
          have hmt : (k : Int).tmod (m : Int) = ((k % m : Nat) : Int) := by rw [Int.tmod_eq_emod_of_nonneg (by omega)]; exact hmm
          clear hgn hzz
          generalize z (k % m) = zk at *
          generalize k % m = km at *
          have hget : ∀ h, (⟨s.toArray⟩ : ByteArray)[k]'h = ch := fun h => by
            obtain ⟨h1, h2⟩ := List.getElem?_eq_some_iff.1 hch
            exact h2
          have hA := Blk.newA wr #[str [10], str [32, 10, 10], str [10, 35, 32, 109, 111, 118, 32, 114, 48, 32, 49, 10], str [10, 32, 32, 32, 35, 10, 32, 32]] (nlN.map str) 9 rfl
          obtain ⟨pz, hpz⟩ : ∃ pz, nlN[n]? = some pz := ⟨_, List.getElem?_eq_getElem (by simp [nlN]; omega)⟩
          have cz := hA.cell (i := n) (v := str pz) (by rw [List.getElem?_map, hpz]; rfl)
          have HT' := toHid ((show Touch [] w wr from HT).alloc (.cells #[str [10], str [32, 10, 10], str [10, 35, 32, 109, 111, 118, 32, 114, 48, 32, 49, 10], str [10, 32, 32, 32, 35, 10, 32, 32]] 9))
          unfold str at cz HT'
          have lpz : pz.length ≤ 12 := by
            have := piece_len 10 n (by omega)
            simpa [piece, hpz] using this
          have nz : ¬ 9223372036854775807 < T.length + pz.length := by omega
          have n1 : ¬ 9223372036854775807 < T.length + 1 := by omega
          clear hA
          by_cases h32 : ch = 32
          · have HTP := toHid (show looseF (gapOf m z) 0 (s.take (k + 1)) = T ++ List.replicate (n + 1) 32 from (show _ = _ from HTS).trans (by rw [← (show n = _ from HGN), h32]; rfl))
            have b32 : ((ch.toNat : Int) == 32) = true := by rw [h32]; rfl
            have hb1 : ((⟨T.toArray⟩ : ByteArray) ++ ⟨#[32]⟩) = ⟨(T ++ [32]).toArray⟩ := ba_append T [32]
            clear HTS cz nz
            go_wp2_with fail
            go_loopw [7, 10] (fun lv jv w' => ∃ (j : Nat) (U : Bs), lv = .string ⟨U.toArray⟩ ∧ jv = .int .i64 (j : Int) ∧ j ≤ n ∧ U.length = T.length + 1 + j ∧ Hid (U = T ++ List.replicate (j + 1) 32) ∧ w' = wr) (fun _ jv _ => n - (intOf jv).toNat)
            case atStart => exact ⟨0, T ++ [32], by simp, rfl, by omega, by simp, rfl, rfl⟩
            case round =>
              obtain ⟨j, U, rfl, rfl, hj, hUl, HU, rfl⟩ := hrel
              by_cases hjn : j < n
              · have hb2 : ((⟨U.toArray⟩ : ByteArray) ++ ⟨#[32]⟩) = ⟨(U ++ [32]).toArray⟩ := ba_append U [32]
                have n2 : ¬ 9223372036854775807 < U.length + 1 := by omega
                go_wp2
                go_roundw
                case rel => exact ⟨j + 1, U ++ [32], by simp, by go_num, by omega, by simp; omega, toHid (by rw [show U = _ from HU, List.append_assoc, ← List.replicate_succ']), trivial⟩
                case measure => simp [intOf]; omega
              · obtain rfl : j = n := by omega
                go_wp2
                go_roundw
                case rel => exact ⟨k + 1, U, rfl, by go_num, by omega, by omega, toHid ((show U = _ from HU).trans (show _ = _ from HTP).symm), HT⟩
                case measure => simp [intOf]; omega
          · have b32 : ((ch.toNat : Int) == 32) = false := by
              have : ch.toNat ≠ 32 := fun e => h32 (UInt8.toNat_inj.1 e)
              simp; omega
            by_cases h10 : ch = 10
            · have HTP := toHid (show looseF (gapOf m z) 0 (s.take (k + 1)) = T ++ pz from (show _ = _ from HTS).trans (by rw [← (show n = _ from HGN), h10]; simp [piece, hpz]))
              have b10 : ((ch.toNat : Int) == 10) = true := by rw [h10]; rfl
              have hb1 : ((⟨T.toArray⟩ : ByteArray) ++ ⟨pz.toArray⟩) = ⟨(T ++ pz).toArray⟩ := ba_append T pz
              clear HTS
              go_wp2
              go_roundw
              case rel => exact ⟨k + 1, T ++ pz, by simp, by go_num, by omega, by simp; omega, HTP.out.symm, HT'⟩
              case measure => simp [intOf]; omega
            · have b10 : ((ch.toNat : Int) == 10) = false := by
                have : ch.toNat ≠ 10 := fun e => h10 (UInt8.toNat_inj.1 e)
                simp; omega
              have HTP := toHid (show looseF (gapOf m z) 0 (s.take (k + 1)) = T ++ [ch] from (show _ = _ from HTS).trans (by unfold piece; rw [if_neg h32, if_neg h10]))
              have hb1 : ((⟨T.toArray⟩ : ByteArray) ++ ⟨#[ch]⟩) = ⟨(T ++ [ch]).toArray⟩ := ba_append T [ch]
              clear HTS cz nz
              have hx : (⟨s.toArray⟩ : ByteArray).extract k (k + 1) = ⟨#[ch]⟩ := extract_one s k ch hch
              go_wp2
              go_roundw
              case rel => exact ⟨k + 1, T ++ [ch], by simp, by go_num, by omega, by simp; omega, HTP.out.symm, HT⟩
              case measure => simp [intOf]; omega
      · obtain rfl : k = s.length := by omega
        have HTX := toHid (show T = looseF (gapOf m z) 0 s from (show T = _ from HTT).trans (by rw [List.take_length]))
        have hE9 := (show Env w from hE).touch0 HT
        have hTl2 : T.length ≤ 412 * L.length := by rw [show T = _ from HTX]; exact hll
        have HPA := toHid (parse_any T wr hE9 (by omega))
        rw [show parseP T = .ok L by rw [show T = _ from HTX]; exact HPB] at HPA
        have hL9 := (show LC w sa L from HL).touch HT
        clear HTX HTT hE9
        go_wp2_with fail
        refine Calls.mono HPA ?_
        rintro e w9 ⟨ht9, g9, cap9, rfl, hR9, _⟩
        have HT9 := toHid ((show Touch [] w wr from HT).trans ht9 (by simp))
        have HSM2 := toHid (same_any L _ _ cap9 c w9 (by omega) (LC.of_row hR9) (hL9.touch ht9))
        clear ht9 hR9 HPA
        simp only [slV]
        go_wp2_with fail
        refine Calls.mono HSM2 ?_
        rintro e w10 ⟨rfl, ht10⟩
        have HT10 := toHid ((show Touch [] w w9 from HT9).trans ht10 (by simp))
        clear ht10
        go_wp2
        go_ret
        exact ⟨rfl, HT10⟩
end Go.Proofs.YthlfnmjefpdjgaaGreatDoor
