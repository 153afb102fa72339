/-
  AsmParses returns true for every text of at most 2^20 bytes: what the reference's try answers, its Parse, and the walk of the law.
-/
import Derived.Test.YthlfnmjefpdjgaaGreatDoorTryN
import Derived.Test.YthlfnmjefpdjgaaGreatDoorTryM
import Derived.Test.YthlfnmjefpdjgaaGreatDoorTryC
import Derived.Test.YthlfnmjefpdjgaaGreatDoorTryW
import Derived.Test.YthlfnmjefpdjgaaGreatDoorParse
import Derived.Test.YthlfnmjefpdjgaaGreatDoorSim
import Derived.Test.YthlfnmjefpdjgaaGreatDoorRWords
import Derived.Test.YthlfnmjefpdjgaaGreatDoorLaw
namespace Go.Proofs.YthlfnmjefpdjgaaGreatDoor
open Go.RowKit


theorem try_any (op src : Nat) (name : Bs) (fs : List Bs) (b cap : Nat) (rest : List Value) (w : World) (hop : op ≤ 255) (hk : knownB op = true) (hsrc : src ≤ 1) (hcap : fs.length + 1 ≤ cap) (hfl : fs.length ≤ 1073741824) (hwl : ∀ x ∈ fs, x.length ≤ 1073741824) (hwb : Blk w b (((name :: fs).map str) ++ rest) 9) :
    Calls Tryz.prog 24 #[.int .i64 (op : Int), .int .u8 (src : Int), .slice (some ⟨b, 0, none⟩) (fs.length + 1) cap] w (TryPost w (tryP op src name fs)) := by
  by_cases h1 : (op : Int) = 133
  · obtain rfl : op = 133 := by omega
    exact try_C src name fs b cap rest w hk hsrc hcap hfl hwl hwb
  · by_cases h2 : (op : Int) = 24
    · obtain rfl : op = 24 := by omega
      exact try_W src name fs b cap rest w hk hsrc hcap hfl hwl hwb
    · by_cases h3 : (op : Int) % 8 = 2 ∨ (op : Int) % 8 = 3
      · exact try_M op src name fs b cap rest w hop hk hsrc hcap hfl hwl hwb h3
      · exact try_N op src name fs b cap rest w hop hk hsrc hcap hfl hwl hwb ⟨fun h => h3 (Or.inl h), fun h => h3 (Or.inr h), h1, h2⟩


theorem lines_at : ∀ (t : Bs) (k : Nat), (10 : UInt8) ∉ t.take k → (k = t.length ∨ t[k]? = some 10) → lines t = t.take k :: (if k < t.length then lines (t.drop (k + 1)) else [])
  | [], k, _, h => by
    rcases h with h | h
    · simp at h; subst h; rfl
    · simp at h
  | c :: l, 0, _, h => by
    rcases h with h | h
    · simp at h
    · simp at h
      subst h
      simp [lines]
  | c :: l, k + 1, hn, h => by
    have hc : ¬ c = 10 := fun e => hn (by simp [e])
    have ih := lines_at l k (fun hm => hn (by simp [hm])) (by
      rcases h with h | h
      · left; simpa using h
      · right; simpa using h)
    rw [lines, if_neg hc, ih]
    simp
theorem wordsF_len : ∀ (l cur : Bs), (wordsF cur l).length ≤ cur.length + l.length ∧ ∀ x ∈ wordsF cur l, x.length ≤ cur.length + l.length
  | [], cur => by
    by_cases hc : cur = []
    · simp [wordsF, hc]
    · have : 0 < cur.length := List.length_pos_iff.2 hc
      simp [wordsF, hc]; omega
  | c :: l, cur => by
    by_cases h32 : c = 32
    · obtain ⟨h1, h2⟩ := wordsF_len l []
      simp only [List.length_nil, Nat.zero_add] at h1 h2
      by_cases hc : cur = []
      · simp only [wordsF, h32, if_true, hc, List.length_nil, List.length_cons]
        exact ⟨by omega, fun x hx => by have := h2 x hx; omega⟩
      · have hp : 0 < cur.length := List.length_pos_iff.2 hc
        simp only [wordsF, h32, if_true, hc, if_false, List.length_cons, List.mem_cons]
        refine ⟨by omega, fun x hx => ?_⟩
        rcases hx with rfl | hx
        · omega
        · have := h2 x hx; omega
    · obtain ⟨h1, h2⟩ := wordsF_len l (cur ++ [c])
      simp only [List.length_append, List.length_cons, List.length_nil] at h1 h2
      simp only [wordsF, h32, if_false, List.length_cons]
      exact ⟨by omega, fun x hx => by have := h2 x hx; omega⟩
theorem words_len (l : Bs) : (words l).length ≤ l.length ∧ ∀ x ∈ words l, x.length ≤ l.length := by
  have := wordsF_len l []
  simpa [words] using this
/-- The operations from one on. -/
def opsF (k : Nat) : List (Nat × Nat) := (List.range' k (256 - k)).flatMap fun op : Nat => if knownB op = true then [(op, 0), (op, 1)] else []
theorem opsF_zero : opsF 0 = allOps := by unfold opsF allOps; rw [List.range_eq_range']
theorem opsF_end : opsF 256 = [] := rfl
theorem opsF_step (k : Nat) (h : k < 256) : opsF k = (if knownB k = true then [(k, 0), (k, 1)] else []) ++ opsF (k + 1) := by
  unfold opsF
  rw [show 256 - k = (256 - (k + 1)) + 1 by omega, List.range'_succ, List.flatMap_cons]
/-- The pairs of an operation from a source on. -/
def srcF (k s : Nat) : List (Nat × Nat) := if s = 0 then [(k, 0), (k, 1)] else if s = 1 then [(k, 1)] else []
theorem srcF_step (k s : Nat) (h : s < 2) : srcF k s = (k, s) :: srcF k (s + 1) := by
  rcases (by omega : s = 0 ∨ s = 1) with rfl | rfl <;> rfl
theorem findF_cons (name : Bs) (fs : List Bs) (op src : Nat) (r : List (Nat × Nat)) : findF name fs ((op, src) :: r) = match tryP op src name fs with
    | some L => some L
    | none => findF name fs r := rfl
/-- Where the search stands: found, or still to be found among the rest. -/
def Seek (name : Bs) (fs : List Bs) (r : Option (List In)) (A B : List In) (f : Bool) (l : List (Nat × Nat)) : Prop :=
  if f = true then ∃ L, r = some L ∧ B = A ++ L ∧ L.length ≤ 2 else r = findF name fs l ∧ B = A


def RParsePost (w : World) (r : Except Nat (List In)) (e : Ending) (w' : World) : Prop := Touch [] w w' ∧ match r with
  | .error n => e = .returned (.tuple #[.slice none 0 0, .int .i64 (n : Int)])
  | .ok L => ∃ g cap, e = .returned (.tuple #[slV g L.length cap, .int .i64 0]) ∧ RowAt w' 41 5 g L.length cap (L.flatMap In.cells)

/-- The rows of a line that is read: what comes of it. -/
def lineR (A : List In) (n : Nat) (x : Bs) (R : List Bs) : Except Nat (List In) := withL A (match slotsW (words x) with
    | none => .error (n + 1)
    | some s => withL s (parseL (n + 2) R))
theorem lineR_some {A : List In} {n : Nat} {x : Bs} {R : List Bs} {s : List In} (h : slotsW (words x) = some s) : lineR A n x R = withL (A ++ s) (parseL (n + 2) R) := by
  unfold lineR; rw [h]; exact withL_withL _ _ _
theorem lineR_none {A : List In} {n : Nat} {x : Bs} {R : List Bs} (h : slotsW (words x) = none) : lineR A n x R = .error (n + 1) := by
  unfold lineR; rw [h]; rfl
theorem withL_end (A : List In) (n : Nat) : withL A (parseL n []) = .ok A := by simp [parseL, withL]

/-- Where the search stands. -/
def SeekAt (w wa : World) (name : Bs) (fs : List Bs) (r : Option (List In)) (A : List In) (g : Option Nat) (cap : Nat) (l : List (Nat × Nat)) (f : Bool) (ov : Value) (w' : World) : Prop :=
  (f = false ∧ ov = slV g A.length cap ∧ Touch [] wa w' ∧ r = findF name fs l) ∨
  (f = true ∧ ∃ (L : List In) (g' : Option Nat) (cap' : Nat), r = some L ∧ L.length ≤ 2 ∧ ov = slV g' (A ++ L).length cap' ∧ RowAt w' 41 5 g' (A ++ L).length cap' ((A ++ L).flatMap In.cells) ∧ (∀ b, g' = some b → w.heap.size ≤ b) ∧ Touch [] w w')

set_option maxRecDepth 100000 in
set_option maxHeartbeats 16000000 in
theorem rparse_any (t : Bs) (w : World) (ht : t.length ≤ 1048576) :
    Calls Tryz.prog 12 #[.string ⟨t.toArray⟩] w (RParsePost w (parseP t)) := by
  go_enter Tryz.func12, Tryz.ntmps12
  go_wp2_with fail
  go_loopw [4, 5, 6, 7] (fun ov fv nv av w' => ∃ (A : List In) (fr n i : Nat) (g : Option Nat) (cap : Nat), ov = slV g A.length cap ∧ fv = .int .i64 (fr : Int) ∧ nv = .int .i64 (n : Int) ∧ av = .int .i64 (i : Int) ∧ fr ≤ i ∧ i ≤ t.length + 1 ∧ n ≤ i ∧ A.length ≤ 2 * n ∧
      Hid (i ≤ t.length → (10 : UInt8) ∉ (t.drop fr).take (i - fr) ∧ parseP t = withL A (parseL (n + 1) (lines (t.drop fr)))) ∧ Hid (i = t.length + 1 → parseP t = .ok A) ∧ Hid (RowAt w' 41 5 g A.length cap (A.flatMap In.cells)) ∧ Hid (∀ b, g = some b → w.heap.size ≤ b) ∧ Hid (Touch [] w w')) (fun _ _ _ av _ => t.length + 1 - (intOf av).toNat)
  case atStart => exact ⟨[], 0, 0, 0, none, 0, rfl, rfl, rfl, rfl, by omega, by omega, by omega, by simp, toHid (fun _ => ⟨by simp, by rw [withL_nil]; rfl⟩), toHid (fun h => by omega), toHid ⟨rfl, Nat.le_refl _, by unfold maxLen; omega, rfl⟩, toHid (fun b h => by cases h), Touch.refl _ _⟩
  case round =>
    obtain ⟨A, fr, n, i, g, cap, rfl, rfl, rfl, rfl, hfi, hi, hni, hA, HP, HP1, HR, HG, HT⟩ := hrel
    simp only [slV]
    by_cases h1 : i = t.length + 1
    · have HP2 := toHid ((show i = t.length + 1 → parseP t = .ok A from HP1) h1)
      have k1 : (t.length : Int) < (i : Int) := by omega
      have k2 : ¬ (i : Int) ≤ (t.length : Int) := by omega
      clear HP HP1
      go_wp2
      refine bodyPost_ret (v := .tuple #[slV g A.length cap, .int .i64 0]) (by simp [results, Tryz.results12, go_sem, slV]) rfl ⟨HT, ?_⟩
      rw [show parseP t = _ from HP2]
      exact ⟨g, cap, rfl, HR⟩
    · have hil : i ≤ t.length := by omega
      have HN := toHid ((show i ≤ t.length → (10 : UInt8) ∉ (t.drop fr).take (i - fr) ∧ parseP t = withL A (parseL (n + 1) (lines (t.drop fr))) from HP) hil)
      clear HP HP1
      have j1 : (i : Int) ≤ (t.length : Int) := by omega
      by_cases hin : i < t.length ∧ ¬ t[i]? = some 10
      · obtain ⟨hlt, hc10⟩ := hin
        obtain ⟨ch, hch⟩ : ∃ ch, t[i]? = some ch := ⟨_, List.getElem?_eq_getElem hlt⟩
        have hget : ∀ h, (⟨t.toArray⟩ : ByteArray)[i]'h = ch := fun h => by
          obtain ⟨h1, h2⟩ := List.getElem?_eq_some_iff.1 hch
          exact h2
        have hne : ch ≠ 10 := fun e => hc10 (by rw [hch, e])
        have b10 : ((ch.toNat : Int) == 10) = false := by
          rw [beq_eq_false_iff_ne]
          intro e
          exact hne (UInt8.toNat_inj.1 (by have : ch.toNat = 10 := by omega
                                           rw [this]; rfl))
        have b10' : ((ch.toNat : Int) != 10) = true := by simp only [bne, b10]; rfl
        have j2 : (i : Int) < (t.length : Int) := by omega
        obtain ⟨hnt, hpt⟩ := (show (10 : UInt8) ∉ (t.drop fr).take (i - fr) ∧ parseP t = withL A (parseL (n + 1) (lines (t.drop fr))) from HN)
        have hnt2 : (10 : UInt8) ∉ (t.drop fr).take (i + 1 - fr) := by
          rw [show i + 1 - fr = (i - fr) + 1 by omega, List.take_add_one, List.getElem?_drop, show fr + (i - fr) = i by omega, hch]
          simp only [Option.toList_some, List.mem_append, List.mem_singleton]
          exact fun h => h.elim hnt (fun e => hne e.symm)
        have HN2 := toHid (And.intro hnt2 hpt)
        clear HN hnt hpt hnt2 hc10 hch hne
        go_wp2
        go_roundw
        case rel => exact ⟨A, fr, n, i + 1, g, cap, by simp, rfl, rfl, by go_num, by omega, by omega, by omega, hA, toHid (fun _ => HN2), toHid (fun h => by omega), HR, HG, HT⟩
        case measure => simp [intOf]; try omega
      · obtain ⟨x, hx⟩ : ∃ x, x = (t.drop fr).take (i - fr) := ⟨_, rfl⟩
        have hex : (⟨t.toArray⟩ : ByteArray).extract fr i = ⟨x.toArray⟩ := by rw [extract_ba, hx]
        have hxl : x.length ≤ t.length := by rw [hx]; simp; omega
        have k1 : (fr : Int) ≤ (i : Int) := by omega
        have hb : i = t.length ∨ (i < t.length ∧ t[i]? = some 10) := by
          by_cases hlt : i < t.length
          · right; exact ⟨hlt, Decidable.byContradiction fun h => hin ⟨hlt, h⟩⟩
          · left; omega
        have hlines : lines (t.drop fr) = x :: (if i < t.length then lines (t.drop (i + 1)) else []) := by
          have := lines_at (t.drop fr) (i - fr) (show _ ∧ _ from HN).1 (by
            rcases hb with h | ⟨_, h⟩
            · left; rw [List.length_drop]; omega
            · right; rw [List.getElem?_drop, show fr + (i - fr) = i by omega]; exact h)
          rw [this, hx, List.length_drop, List.drop_drop, show fr + (i - fr + 1) = i + 1 by omega]
          congr 1
          by_cases hlt : i < t.length
          · rw [if_pos hlt, if_pos (by omega)]
          · rw [if_neg hlt, if_neg (by omega)]
        obtain ⟨R, hR⟩ : ∃ R, R = (if i < t.length then lines (t.drop (i + 1)) else []) := ⟨_, rfl⟩
        have HPL := toHid (show parseP t = lineR A n x R from (show _ ∧ _ from HN).2.trans (by rw [hlines, parseL_cons, ← hR]; rfl))
        have HNX : Hid (∀ B, parseP t = withL B (parseL (n + 2) R) → (i + 1 ≤ t.length → (10 : UInt8) ∉ (t.drop (i + 1)).take (i + 1 - (i + 1)) ∧ parseP t = withL B (parseL (n + 1 + 1) (lines (t.drop (i + 1))))) ∧ (i + 1 = t.length + 1 → parseP t = .ok B)) := toHid (by
          intro B hB
          refine ⟨fun hl => ⟨by simp, ?_⟩, fun hl => ?_⟩
          · rw [hB, hR, if_pos (by omega)]
          · rw [hB, hR, if_neg (by omega), withL_end])
        clear HN hlines hR hin hx
        have HW := toHid (rwords_any x wr (by omega))
        have hwl := words_len x
        rcases hb with hb | ⟨hlt, hch⟩
        · skip
          have k9 : ¬ (i : Int) < (t.length : Int) := by omega
          clear hb
          go_wp2_with fail
          refine Calls.mono HW ?_
          rintro e wa ⟨v, rfl, ⟨gw, capw, rfl, hRW, hgw⟩, hta⟩
          have HTA := toHid hta
          have HRA := toHid ((show RowAt wr 41 5 g A.length cap (A.flatMap In.cells) from HR).touch hta (by simp))
          have HTW := toHid ((show Touch [] w wr from HT).trans hta (by simp))
          have HRW := toHid hRW
          have hcw := hRW.2.1
          clear hRW hta HR HT HW hgw
          cases hws : words x with
          | nil =>
            have HL := toHid (show parseP t = withL (A ++ []) (parseL (n + 2) R) from (show parseP t = _ from HPL).trans (lineR_some (by rw [hws]; rfl)))
            rw [List.append_nil] at HL
            have HM := toHid ((show ∀ B, parseP t = withL B (parseL (n + 2) R) → _ from HNX) A HL)
            clear HPL HNX HL
            simp only [slV, List.length_nil]
            go_wp2
            go_roundw
            case rel => exact ⟨A, i + 1, n + 1, i + 1, g, cap, by simp, by go_num, by go_num, by go_num, by omega, by omega, by omega, by omega, toHid (show _ ∧ _ from HM).1, toHid (show _ ∧ _ from HM).2, HRA, HG, HTW⟩
            case measure => simp [intOf]; try omega
          | cons name fs =>
            rw [hws] at HRW hwl
            have hnn : name ≠ [] := words_ne (l := x) (by rw [hws]; simp)
            obtain ⟨c0, nr, hname⟩ : ∃ c0 nr, name = c0 :: nr := by cases name with | nil => exact absurd rfl hnn | cons c r => exact ⟨c, r, rfl⟩
            have hnl : 0 < name.length := by rw [hname]; simp
            cases gw with
            | none =>
              exfalso
              have h4 := (show RowAt wa 9 1 none _ capw _ from HRW).2.2.2
              have h5 := (show RowAt wa 9 1 none _ capw _ from HRW).2.1
              simp only [List.length_cons] at h5
              have h6 : capw = 0 := h4
              omega
            | some b =>
              obtain ⟨rest, hBW, _⟩ := (show RowAt wa 9 1 (some b) _ capw _ from HRW).2.2.2
              have hcell : wa.cell? ⟨b, 0, none⟩ = some (.string ⟨name.toArray⟩) := hBW.cell (by simp [str])
              have hget0 : ∀ h, (⟨name.toArray⟩ : ByteArray)[0]'h = c0 := by rw [hname]; exact fun h => rfl
              have hname35 : name.head? = some c0 := by rw [hname]; rfl
              have HN35 := toHid hname35
              clear hname hname35 hnn
              have HBW := toHid hBW
              simp only [slV, List.length_cons, hws, Option.map_some] at hcw ⊢
              obtain ⟨m, hm⟩ : ∃ m, m = fs.length + 1 := ⟨_, rfl⟩
              rw [← hm] at hcw ⊢
              have z0 : (0 : Int) < (m : Int) := by omega
              have z1 : ((m : Int) == 0) = false := by rw [beq_eq_false_iff_ne]; omega
              have z2 : 0 < m := by omega
              have HM0 := toHid hm
              clear hm
              clear hBW HRW
              by_cases h35 : c0 = 35
              · have b35 : ((c0.toNat : Int) == 35) = true := by rw [h35]; rfl
                have HL := toHid (show parseP t = withL (A ++ []) (parseL (n + 2) R) from (show parseP t = _ from HPL).trans (lineR_some (by rw [hws, slotsW, if_pos (by rw [show name.head? = _ from HN35, h35])])))
                rw [List.append_nil] at HL
                have HM := toHid ((show ∀ B, parseP t = withL B (parseL (n + 2) R) → _ from HNX) A HL)
                clear HPL HNX HL h35
                go_wp2
                go_roundw
                case rel => exact ⟨A, i + 1, n + 1, i + 1, g, cap, by simp, by go_num, by go_num, by go_num, by omega, by omega, by omega, by omega, toHid (show _ ∧ _ from HM).1, toHid (show _ ∧ _ from HM).2, HRA, HG, HTW⟩
                case measure => simp [intOf]; try omega
              · have b35 : ((c0.toNat : Int) == 35) = false := by
                  rw [beq_eq_false_iff_ne]
                  intro e
                  exact h35 (UInt8.toNat_inj.1 (by have : c0.toNat = 35 := by omega
                                                   rw [this]; rfl))
                obtain ⟨r, hr⟩ : ∃ r, r = slotsW (words x) := ⟨_, rfl⟩
                have hfind : r = findF name fs (opsF 0) := by
                  rw [hr, hws, opsF_zero]
                  exact (find_slots name fs (by rw [show name.head? = _ from HN35]; simpa using h35)).symm
                have HRR := toHid hr
                clear h35 hr
                go_wp2_with fail
                go_loopw [4, 9, 10] (fun ov fv kv w' => ∃ (k : Nat) (f : Bool), fv = .bool f ∧ kv = .int .i64 (k : Int) ∧ k ≤ 256 ∧ Hid (SeekAt w wa name fs r A g cap (opsF k) f ov w')) (fun _ _ kv _ => 256 - (intOf kv).toNat)
                case atStart => exact ⟨0, false, rfl, rfl, by omega, toHid (Or.inl ⟨rfl, by simp [slV], Touch.refl _ _, hfind⟩)⟩
                case round =>
                  obtain ⟨k, f, rfl, rfl, hk, HS⟩ := hrel
                  rcases (show SeekAt w wa name fs r A g cap (opsF k) f _ _ from HS) with ⟨rfl, rfl, htk, hfk⟩ | ⟨rfl, L, g', cap', hrL, hL2, rfl, hRL, hgL, htL⟩
                  · clear HS
                    by_cases hk256 : k = 256
                    · have HPX := toHid (show parseP t = .error (n + 1) from (show parseP t = _ from HPL).trans (lineR_none ((show r = _ from HRR).symm.trans (hfk.trans (by rw [hk256]; rfl)))))
                      have HTF := toHid ((show Touch [] w wa from HTW).trans htk (by simp))
                      have q1 : ¬ (k : Int) < 256 := by omega
                      clear hk256 htk hfk HRR HPL HNX hfind
                      simp only [slV]
                      go_wp2
                      refine bodyPost_ret (v := .tuple #[.slice none 0 0, .int .i64 ((n : Int) + 1)]) (by simp [results, Tryz.results12, go_sem]) rfl ⟨HTF, ?_⟩
                      rw [show parseP t = _ from HPX]
                      simp
                    · have q1 : (k : Int) < 256 := by omega
                      have HTK := toHid htk
                      have HFK := toHid hfk
                      clear htk hfk hfind
                      simp only [slV]
                      go_wp2_with fail
                      refine (rknown_any (k : Int) wr (by omega) (by omega)).mono ?_
                      rintro e wr ⟨rfl, rfl⟩
                      cases hkb : knownB (k : Int) with
                      | false =>
                        have HFK2 := toHid ((show r = findF name fs (opsF k) from HFK).trans (by rw [opsF_step k (by omega), hkb]; rfl : _ = findF name fs (opsF (k + 1))))
                        clear HFK
                        go_wp2
                        go_roundw
                        case rel => exact ⟨k + 1, false, rfl, by go_num, by omega, toHid (Or.inl ⟨rfl, by simp [slV], HTK, HFK2⟩)⟩
                        case measure => simp [intOf]; try omega
                      | true =>
                        have HFK2 := toHid ((show r = findF name fs (opsF k) from HFK).trans (by rw [opsF_step k (by omega), hkb]; rfl : _ = findF name fs (srcF k 0 ++ opsF (k + 1))))
                        clear HFK
                        go_wp2_with fail
                        go_loopw [4, 9, 11] (fun ov fv sv w' => ∃ (s : Nat) (f : Bool), fv = .bool f ∧ sv = .int .u8 (s : Int) ∧ s ≤ 2 ∧ Hid (SeekAt w wa name fs r A g cap (srcF k s ++ opsF (k + 1)) f ov w')) (fun _ _ sv _ => 2 - (intOf sv).toNat)
                        case atStart => exact ⟨0, false, rfl, rfl, by omega, toHid (Or.inl ⟨rfl, by simp [slV], HTK, HFK2⟩)⟩
                        case round =>
                          clear HTK HFK2
                          obtain ⟨s, f, rfl, rfl, hs, HS⟩ := hrel
                          rcases (show SeekAt w wa name fs r A g cap (srcF k s ++ opsF (k + 1)) f _ _ from HS) with ⟨rfl, rfl, htk, hfk⟩ | ⟨rfl, L, g', cap', hrL, hL2, rfl, hRL, hgL, htL⟩
                          · clear HS
                            by_cases hs2 : s = 2
                            · have HFK3 := toHid (hfk.trans (by rw [hs2]; rfl : _ = findF name fs (opsF (k + 1))))
                              have HTK := toHid htk
                              have q2 : ¬ (s : Int) < 2 := by omega
                              clear hs2 hfk htk
                              simp only [slV]
                              go_wp2
                              go_roundw
                              case rel => exact ⟨k + 1, false, rfl, by go_num, by omega, toHid (Or.inl ⟨rfl, by simp [slV], HTK, HFK3⟩)⟩
                              case measure => simp [intOf]; try omega
                            · have q2 : (s : Int) < 2 := by omega
                              have HTRY := toHid (try_any k s name fs b capw rest wr (by omega) hkb (by omega) (by rw [← show m = fs.length + 1 from HM0]; exact hcw) (by have := hwl.1; simp at this; omega) (fun y hy => by have := hwl.2 y (by simp [hy]); omega) (htk.blk (show Blk wa b _ 9 from HBW) (by simp)))
                              rw [← show m = fs.length + 1 from HM0] at HTRY
                              have HTK := toHid htk
                              have HFK3 := toHid (hfk.trans (by rw [srcF_step k s (by omega)]; rfl : _ = findF name fs ((k, s) :: (srcF k (s + 1) ++ opsF (k + 1)))))
                              clear htk hfk hs2
                              simp only [slV]
                              go_wp2_with fail
                              refine Calls.mono HTRY ?_
                              rintro e w5 ⟨ht5, hcase⟩
                              have HT5 := toHid ((show Touch [] wa wr from HTK).trans ht5 (by simp))
                              clear HTRY HTK
                              cases htr : tryP k s name fs with
                              | none =>
                                rw [htr] at hcase
                                simp only at hcase
                                subst hcase
                                have HFK4 := toHid ((show r = _ from HFK3).trans (by rw [findF_cons, htr] : _ = findF name fs (srcF k (s + 1) ++ opsF (k + 1))))
                                clear HFK3 htr ht5
                                go_wp2
                                go_roundw
                                case rel => exact ⟨s + 1, false, rfl, by go_num, by omega, toHid (Or.inl ⟨rfl, by simp [slV], HT5, HFK4⟩)⟩
                                case measure => simp [intOf]; try omega
                              | some L =>
                                rw [htr] at hcase
                                obtain ⟨N, rfl, hN, hBL⟩ := hcase
                                have hrL : r = some L := (show r = _ from HFK3).trans (by rw [findF_cons, htr])
                                have hL2 : L.length ≤ 2 := slotsW_length ((show r = _ from HRR).symm.trans hrL)
                                obtain ⟨g', cap', w6, hrun, hR6, ht6, hg'⟩ := append_ins w5 22 g A.length cap A L (some ⟨N, 0, none⟩) ((show RowAt wa 41 5 g A.length cap (A.flatMap In.cells) from HRA).touch HT5 (by simp)) rfl (Or.inr ⟨N, rfl, hBL.lt, hBL⟩) (by omega)
                                have hTW5 := (show Touch [] w wa from HTW).trans (show Touch [] wa w5 from HT5) (by simp)
                                have HT6 := toHid (hTW5.trans ht6 (by
                                  intro y hy
                                  cases hgg : g with
                                  | none => rw [hgg] at hy; simp at hy
                                  | some bb =>
                                    rw [hgg] at hy
                                    simp only [Option.toList_some, List.mem_singleton] at hy
                                    subst hy
                                    exact Or.inr ((show ∀ b, g = some b → w.heap.size ≤ b from HG) y hgg)))
                                have HG6 : Hid (∀ bb, g' = some bb → w.heap.size ≤ bb) := toHid (by
                                  intro bb hbb
                                  rcases hg' with h | h
                                  · exact (show ∀ b, g = some b → w.heap.size ≤ b from HG) bb (h ▸ hbb)
                                  · rw [h] at hbb
                                    cases hbb
                                    exact hTW5.size)
                                have HRUN := toHid hrun
                                have HR6 := toHid hR6
                                have HRL := toHid hrL
                                clear hrun hR6 hrL ht6 hg' hTW5 HFK3 htr ht5 hBL hN
                                simp only [slV] at HRUN ⊢
                                go_wp2_with (at_builtin; refine Lib.wpList_append_run _ rfl _ _ _ _ rfl _ _ rfl rfl _ _ HRUN.out ?_)
                                go_roundw
                                case rel => exact ⟨s + 1, true, rfl, by go_num, by omega, toHid (Or.inr ⟨rfl, L, g', cap', HRL, hL2, by simp [slV], HR6, HG6, HT6⟩)⟩
                                case measure => simp [intOf]; try omega
                          · have HSK := toHid (show SeekAt w wa name fs r A g cap (opsF (k + 1)) true _ wr from Or.inr ⟨rfl, L, g', cap', hrL, hL2, rfl, hRL, hgL, htL⟩)
                            clear HS hrL hRL hgL htL
                            simp only [slV] at HSK ⊢
                            by_cases hs2 : (s : Int) < 2
                            · go_wp2
                              go_roundw
                              case rel => exact ⟨k + 1, true, rfl, by go_num, by omega, HSK⟩
                              case measure => simp [intOf]; try omega
                            · go_wp2
                              go_roundw
                              case rel => exact ⟨k + 1, true, rfl, by go_num, by omega, HSK⟩
                              case measure => simp [intOf]; try omega
                  · have HL := toHid (show parseP t = withL (A ++ L) (parseL (n + 2) R) from (show parseP t = _ from HPL).trans (lineR_some ((show r = _ from HRR).symm.trans hrL)))
                    have HM := toHid ((show ∀ B, parseP t = withL B (parseL (n + 2) R) → _ from HNX) (A ++ L) HL)
                    have HR6 := toHid hRL
                    have HG6 := toHid hgL
                    have HT6 := toHid htL
                    have hAL : (A ++ L).length ≤ 2 * (n + 1) := by rw [List.length_append]; omega
                    clear HS HPL HNX HL hrL hRL hgL htL hfind HRR
                    simp only [slV]
                    by_cases hk2 : (k : Int) < 256
                    · go_wp2
                      go_roundw
                      case rel => exact ⟨A ++ L, i + 1, n + 1, i + 1, g', cap', by simp, by go_num, by go_num, by go_num, by omega, by omega, by omega, hAL, toHid (show _ ∧ _ from HM).1, toHid (show _ ∧ _ from HM).2, HR6, HG6, HT6⟩
                      case measure => simp [intOf]; try omega
                    · go_wp2
                      go_roundw
                      case rel => exact ⟨A ++ L, i + 1, n + 1, i + 1, g', cap', by simp, by go_num, by go_num, by go_num, by omega, by omega, by omega, hAL, toHid (show _ ∧ _ from HM).1, toHid (show _ ∧ _ from HM).2, HR6, HG6, HT6⟩
                      case measure => simp [intOf]; try omega
        · skip
          have hget : ∀ h, (⟨t.toArray⟩ : ByteArray)[i]'h = 10 := fun h => by
            obtain ⟨h1, h2⟩ := List.getElem?_eq_some_iff.1 hch
            exact h2
          have j2 : (i : Int) < (t.length : Int) := by omega
          clear hch hlt
          go_wp2_with fail
          refine Calls.mono HW ?_
          rintro e wa ⟨v, rfl, ⟨gw, capw, rfl, hRW, hgw⟩, hta⟩
          have HTA := toHid hta
          have HRA := toHid ((show RowAt wr 41 5 g A.length cap (A.flatMap In.cells) from HR).touch hta (by simp))
          have HTW := toHid ((show Touch [] w wr from HT).trans hta (by simp))
          have HRW := toHid hRW
          have hcw := hRW.2.1
          clear hRW hta HR HT HW hgw
          cases hws : words x with
          | nil =>
            have HL := toHid (show parseP t = withL (A ++ []) (parseL (n + 2) R) from (show parseP t = _ from HPL).trans (lineR_some (by rw [hws]; rfl)))
            rw [List.append_nil] at HL
            have HM := toHid ((show ∀ B, parseP t = withL B (parseL (n + 2) R) → _ from HNX) A HL)
            clear HPL HNX HL
            simp only [slV, List.length_nil]
            go_wp2
            go_roundw
            case rel => exact ⟨A, i + 1, n + 1, i + 1, g, cap, by simp, by go_num, by go_num, by go_num, by omega, by omega, by omega, by omega, toHid (show _ ∧ _ from HM).1, toHid (show _ ∧ _ from HM).2, HRA, HG, HTW⟩
            case measure => simp [intOf]; try omega
          | cons name fs =>
            rw [hws] at HRW hwl
            have hnn : name ≠ [] := words_ne (l := x) (by rw [hws]; simp)
            obtain ⟨c0, nr, hname⟩ : ∃ c0 nr, name = c0 :: nr := by cases name with | nil => exact absurd rfl hnn | cons c r => exact ⟨c, r, rfl⟩
            have hnl : 0 < name.length := by rw [hname]; simp
            cases gw with
            | none =>
              exfalso
              have h4 := (show RowAt wa 9 1 none _ capw _ from HRW).2.2.2
              have h5 := (show RowAt wa 9 1 none _ capw _ from HRW).2.1
              simp only [List.length_cons] at h5
              have h6 : capw = 0 := h4
              omega
            | some b =>
              obtain ⟨rest, hBW, _⟩ := (show RowAt wa 9 1 (some b) _ capw _ from HRW).2.2.2
              have hcell : wa.cell? ⟨b, 0, none⟩ = some (.string ⟨name.toArray⟩) := hBW.cell (by simp [str])
              have hget0 : ∀ h, (⟨name.toArray⟩ : ByteArray)[0]'h = c0 := by rw [hname]; exact fun h => rfl
              have hname35 : name.head? = some c0 := by rw [hname]; rfl
              have HN35 := toHid hname35
              clear hname hname35 hnn
              have HBW := toHid hBW
              simp only [slV, List.length_cons, hws, Option.map_some] at hcw ⊢
              obtain ⟨m, hm⟩ : ∃ m, m = fs.length + 1 := ⟨_, rfl⟩
              rw [← hm] at hcw ⊢
              have z0 : (0 : Int) < (m : Int) := by omega
              have z1 : ((m : Int) == 0) = false := by rw [beq_eq_false_iff_ne]; omega
              have z2 : 0 < m := by omega
              have HM0 := toHid hm
              clear hm
              clear hBW HRW
              by_cases h35 : c0 = 35
              · have b35 : ((c0.toNat : Int) == 35) = true := by rw [h35]; rfl
                have HL := toHid (show parseP t = withL (A ++ []) (parseL (n + 2) R) from (show parseP t = _ from HPL).trans (lineR_some (by rw [hws, slotsW, if_pos (by rw [show name.head? = _ from HN35, h35])])))
                rw [List.append_nil] at HL
                have HM := toHid ((show ∀ B, parseP t = withL B (parseL (n + 2) R) → _ from HNX) A HL)
                clear HPL HNX HL h35
                go_wp2
                go_roundw
                case rel => exact ⟨A, i + 1, n + 1, i + 1, g, cap, by simp, by go_num, by go_num, by go_num, by omega, by omega, by omega, by omega, toHid (show _ ∧ _ from HM).1, toHid (show _ ∧ _ from HM).2, HRA, HG, HTW⟩
                case measure => simp [intOf]; try omega
              · have b35 : ((c0.toNat : Int) == 35) = false := by
                  rw [beq_eq_false_iff_ne]
                  intro e
                  exact h35 (UInt8.toNat_inj.1 (by have : c0.toNat = 35 := by omega
                                                   rw [this]; rfl))
                obtain ⟨r, hr⟩ : ∃ r, r = slotsW (words x) := ⟨_, rfl⟩
                have hfind : r = findF name fs (opsF 0) := by
                  rw [hr, hws, opsF_zero]
                  exact (find_slots name fs (by rw [show name.head? = _ from HN35]; simpa using h35)).symm
                have HRR := toHid hr
                clear h35 hr
                go_wp2_with fail
                go_loopw [4, 9, 10] (fun ov fv kv w' => ∃ (k : Nat) (f : Bool), fv = .bool f ∧ kv = .int .i64 (k : Int) ∧ k ≤ 256 ∧ Hid (SeekAt w wa name fs r A g cap (opsF k) f ov w')) (fun _ _ kv _ => 256 - (intOf kv).toNat)
                case atStart => exact ⟨0, false, rfl, rfl, by omega, toHid (Or.inl ⟨rfl, by simp [slV], Touch.refl _ _, hfind⟩)⟩
                case round =>
                  obtain ⟨k, f, rfl, rfl, hk, HS⟩ := hrel
                  rcases (show SeekAt w wa name fs r A g cap (opsF k) f _ _ from HS) with ⟨rfl, rfl, htk, hfk⟩ | ⟨rfl, L, g', cap', hrL, hL2, rfl, hRL, hgL, htL⟩
                  · clear HS
                    by_cases hk256 : k = 256
                    · have HPX := toHid (show parseP t = .error (n + 1) from (show parseP t = _ from HPL).trans (lineR_none ((show r = _ from HRR).symm.trans (hfk.trans (by rw [hk256]; rfl)))))
                      have HTF := toHid ((show Touch [] w wa from HTW).trans htk (by simp))
                      have q1 : ¬ (k : Int) < 256 := by omega
                      clear hk256 htk hfk HRR HPL HNX hfind
                      simp only [slV]
                      go_wp2
                      refine bodyPost_ret (v := .tuple #[.slice none 0 0, .int .i64 ((n : Int) + 1)]) (by simp [results, Tryz.results12, go_sem]) rfl ⟨HTF, ?_⟩
                      rw [show parseP t = _ from HPX]
                      simp
                    · have q1 : (k : Int) < 256 := by omega
                      have HTK := toHid htk
                      have HFK := toHid hfk
                      clear htk hfk hfind
                      simp only [slV]
                      go_wp2_with fail
                      refine (rknown_any (k : Int) wr (by omega) (by omega)).mono ?_
                      rintro e wr ⟨rfl, rfl⟩
                      cases hkb : knownB (k : Int) with
                      | false =>
                        have HFK2 := toHid ((show r = findF name fs (opsF k) from HFK).trans (by rw [opsF_step k (by omega), hkb]; rfl : _ = findF name fs (opsF (k + 1))))
                        clear HFK
                        go_wp2
                        go_roundw
                        case rel => exact ⟨k + 1, false, rfl, by go_num, by omega, toHid (Or.inl ⟨rfl, by simp [slV], HTK, HFK2⟩)⟩
                        case measure => simp [intOf]; try omega
                      | true =>
                        have HFK2 := toHid ((show r = findF name fs (opsF k) from HFK).trans (by rw [opsF_step k (by omega), hkb]; rfl : _ = findF name fs (srcF k 0 ++ opsF (k + 1))))
                        clear HFK
                        go_wp2_with fail
                        go_loopw [4, 9, 11] (fun ov fv sv w' => ∃ (s : Nat) (f : Bool), fv = .bool f ∧ sv = .int .u8 (s : Int) ∧ s ≤ 2 ∧ Hid (SeekAt w wa name fs r A g cap (srcF k s ++ opsF (k + 1)) f ov w')) (fun _ _ sv _ => 2 - (intOf sv).toNat)
                        case atStart => exact ⟨0, false, rfl, rfl, by omega, toHid (Or.inl ⟨rfl, by simp [slV], HTK, HFK2⟩)⟩
                        case round =>
                          clear HTK HFK2
                          obtain ⟨s, f, rfl, rfl, hs, HS⟩ := hrel
                          rcases (show SeekAt w wa name fs r A g cap (srcF k s ++ opsF (k + 1)) f _ _ from HS) with ⟨rfl, rfl, htk, hfk⟩ | ⟨rfl, L, g', cap', hrL, hL2, rfl, hRL, hgL, htL⟩
                          · clear HS
                            by_cases hs2 : s = 2
                            · have HFK3 := toHid (hfk.trans (by rw [hs2]; rfl : _ = findF name fs (opsF (k + 1))))
                              have HTK := toHid htk
                              have q2 : ¬ (s : Int) < 2 := by omega
                              clear hs2 hfk htk
                              simp only [slV]
                              go_wp2
                              go_roundw
                              case rel => exact ⟨k + 1, false, rfl, by go_num, by omega, toHid (Or.inl ⟨rfl, by simp [slV], HTK, HFK3⟩)⟩
                              case measure => simp [intOf]; try omega
                            · have q2 : (s : Int) < 2 := by omega
                              have HTRY := toHid (try_any k s name fs b capw rest wr (by omega) hkb (by omega) (by rw [← show m = fs.length + 1 from HM0]; exact hcw) (by have := hwl.1; simp at this; omega) (fun y hy => by have := hwl.2 y (by simp [hy]); omega) (htk.blk (show Blk wa b _ 9 from HBW) (by simp)))
                              rw [← show m = fs.length + 1 from HM0] at HTRY
                              have HTK := toHid htk
                              have HFK3 := toHid (hfk.trans (by rw [srcF_step k s (by omega)]; rfl : _ = findF name fs ((k, s) :: (srcF k (s + 1) ++ opsF (k + 1)))))
                              clear htk hfk hs2
                              simp only [slV]
                              go_wp2_with fail
                              refine Calls.mono HTRY ?_
                              rintro e w5 ⟨ht5, hcase⟩
                              have HT5 := toHid ((show Touch [] wa wr from HTK).trans ht5 (by simp))
                              clear HTRY HTK
                              cases htr : tryP k s name fs with
                              | none =>
                                rw [htr] at hcase
                                simp only at hcase
                                subst hcase
                                have HFK4 := toHid ((show r = _ from HFK3).trans (by rw [findF_cons, htr] : _ = findF name fs (srcF k (s + 1) ++ opsF (k + 1))))
                                clear HFK3 htr ht5
                                go_wp2
                                go_roundw
                                case rel => exact ⟨s + 1, false, rfl, by go_num, by omega, toHid (Or.inl ⟨rfl, by simp [slV], HT5, HFK4⟩)⟩
                                case measure => simp [intOf]; try omega
                              | some L =>
                                rw [htr] at hcase
                                obtain ⟨N, rfl, hN, hBL⟩ := hcase
                                have hrL : r = some L := (show r = _ from HFK3).trans (by rw [findF_cons, htr])
                                have hL2 : L.length ≤ 2 := slotsW_length ((show r = _ from HRR).symm.trans hrL)
                                obtain ⟨g', cap', w6, hrun, hR6, ht6, hg'⟩ := append_ins w5 22 g A.length cap A L (some ⟨N, 0, none⟩) ((show RowAt wa 41 5 g A.length cap (A.flatMap In.cells) from HRA).touch HT5 (by simp)) rfl (Or.inr ⟨N, rfl, hBL.lt, hBL⟩) (by omega)
                                have hTW5 := (show Touch [] w wa from HTW).trans (show Touch [] wa w5 from HT5) (by simp)
                                have HT6 := toHid (hTW5.trans ht6 (by
                                  intro y hy
                                  cases hgg : g with
                                  | none => rw [hgg] at hy; simp at hy
                                  | some bb =>
                                    rw [hgg] at hy
                                    simp only [Option.toList_some, List.mem_singleton] at hy
                                    subst hy
                                    exact Or.inr ((show ∀ b, g = some b → w.heap.size ≤ b from HG) y hgg)))
                                have HG6 : Hid (∀ bb, g' = some bb → w.heap.size ≤ bb) := toHid (by
                                  intro bb hbb
                                  rcases hg' with h | h
                                  · exact (show ∀ b, g = some b → w.heap.size ≤ b from HG) bb (h ▸ hbb)
                                  · rw [h] at hbb
                                    cases hbb
                                    exact hTW5.size)
                                have HRUN := toHid hrun
                                have HR6 := toHid hR6
                                have HRL := toHid hrL
                                clear hrun hR6 hrL ht6 hg' hTW5 HFK3 htr ht5 hBL hN
                                simp only [slV] at HRUN ⊢
                                go_wp2_with (at_builtin; refine Lib.wpList_append_run _ rfl _ _ _ _ rfl _ _ rfl rfl _ _ HRUN.out ?_)
                                go_roundw
                                case rel => exact ⟨s + 1, true, rfl, by go_num, by omega, toHid (Or.inr ⟨rfl, L, g', cap', HRL, hL2, by simp [slV], HR6, HG6, HT6⟩)⟩
                                case measure => simp [intOf]; try omega
                          · have HSK := toHid (show SeekAt w wa name fs r A g cap (opsF (k + 1)) true _ wr from Or.inr ⟨rfl, L, g', cap', hrL, hL2, rfl, hRL, hgL, htL⟩)
                            clear HS hrL hRL hgL htL
                            simp only [slV] at HSK ⊢
                            by_cases hs2 : (s : Int) < 2
                            · go_wp2
                              go_roundw
                              case rel => exact ⟨k + 1, true, rfl, by go_num, by omega, HSK⟩
                              case measure => simp [intOf]; try omega
                            · go_wp2
                              go_roundw
                              case rel => exact ⟨k + 1, true, rfl, by go_num, by omega, HSK⟩
                              case measure => simp [intOf]; try omega
                  · have HL := toHid (show parseP t = withL (A ++ L) (parseL (n + 2) R) from (show parseP t = _ from HPL).trans (lineR_some ((show r = _ from HRR).symm.trans hrL)))
                    have HM := toHid ((show ∀ B, parseP t = withL B (parseL (n + 2) R) → _ from HNX) (A ++ L) HL)
                    have HR6 := toHid hRL
                    have HG6 := toHid hgL
                    have HT6 := toHid htL
                    have hAL : (A ++ L).length ≤ 2 * (n + 1) := by rw [List.length_append]; omega
                    clear HS HPL HNX HL hrL hRL hgL htL hfind HRR
                    simp only [slV]
                    by_cases hk2 : (k : Int) < 256
                    · go_wp2
                      go_roundw
                      case rel => exact ⟨A ++ L, i + 1, n + 1, i + 1, g', cap', by simp, by go_num, by go_num, by go_num, by omega, by omega, by omega, hAL, toHid (show _ ∧ _ from HM).1, toHid (show _ ∧ _ from HM).2, HR6, HG6, HT6⟩
                      case measure => simp [intOf]; try omega
                    · go_wp2
                      go_roundw
                      case rel => exact ⟨A ++ L, i + 1, n + 1, i + 1, g', cap', by simp, by go_num, by go_num, by go_num, by omega, by omega, by omega, hAL, toHid (show _ ∧ _ from HM).1, toHid (show _ ∧ _ from HM).2, HR6, HG6, HT6⟩
                      case measure => simp [intOf]; try omega


theorem parseL_err : ∀ (ls : List Bs) (n k : Nat), parseL n ls = .error k → n ≤ k
  | [], n, k, h => by cases h
  | l :: ls, n, k, h => by
    rw [parseL_cons] at h
    split at h
    · cases h; exact Nat.le_refl _
    · cases hr : parseL (n + 1) ls with
      | error j =>
        rw [hr] at h
        simp only [withL, Except.error.injEq] at h
        have := parseL_err ls (n + 1) j hr
        omega
      | ok r => rw [hr] at h; simp [withL] at h
theorem parseL_length : ∀ (ls : List Bs) (n : Nat) (L : List In), parseL n ls = .ok L → L.length ≤ 2 * ls.length
  | [], n, L, h => by cases h; simp
  | l :: ls, n, L, h => by
    rw [parseL_cons] at h
    split at h
    · cases h
    · rename_i s hs
      cases hr : parseL (n + 1) ls with
      | error j => rw [hr] at h; simp [withL] at h
      | ok r =>
        rw [hr] at h
        simp only [withL, Except.ok.injEq] at h
        subst h
        have h1 := parseL_length ls (n + 1) r hr
        have h2 := slotsW_length hs
        simp only [List.length_append, List.length_cons]
        omega
theorem lines_count : ∀ t : Bs, (lines t).length ≤ t.length + 1
  | [] => by simp [lines]
  | c :: l => by
    have ih := lines_count l
    by_cases hc : c = 10
    · simp only [lines, hc, if_true, List.length_cons]; omega
    · simp only [lines, hc, if_false]
      cases hl : lines l with
      | nil => simp
      | cons x xs => rw [hl] at ih; simp only [List.length_cons] at ih ⊢; omega

set_option maxRecDepth 100000 in
set_option maxHeartbeats 8000000 in
theorem parses_walk (t : Bs) (w : World) (hE : Env w) (ht : t.length ≤ 1048576) :
    Calls Tryz.prog 4 #[.string ⟨t.toArray⟩] w fun e w' => e = .returned (.bool true) ∧ Touch [] w w' := by
  have HF := toHid (first_any w hE)
  go_enter Tryz.func4, Tryz.ntmps4
  go_wp2_with fail
  refine Calls.mono HF ?_
  rintro e w1 ⟨rfl, ht1⟩
  have hE1 := hE.touch0 ht1
  have HT1 := toHid ht1
  clear ht1
  go_wp2_with fail
  refine (parse_any t w1 hE1 (by omega)).mono ?_
  rintro e w2 ⟨ht2, hcase⟩
  have HT2 := toHid ((show Touch [] w w1 from HT1).trans ht2 (by simp))
  have HRP := toHid (rparse_any t w2 ht)
  clear ht2 hE1
  cases hp : parseP t with
  | error k =>
    have hk : 1 ≤ k := parseL_err _ _ _ hp
    have hk2 : (0 : Int) < (k : Int) := by omega
    rw [hp] at hcase HRP
    simp only at hcase
    subst hcase
    clear hp
    go_wp2_with fail
    refine Calls.mono HRP ?_
    rintro e w3 ⟨ht3, he3⟩
    simp only at he3
    subst he3
    have HT3 := toHid ((show Touch [] w w2 from HT2).trans ht3 (by simp))
    clear ht3 HRP
    go_wp2
    go_ret
    exact ⟨rfl, HT3⟩
  | ok L =>
    have hLl : L.length ≤ 4194304 := by
      have h1 := parseL_length _ _ _ hp
      have h2 := lines_count t
      omega
    rw [hp] at hcase HRP
    obtain ⟨g, cap, rfl, hR, _⟩ := hcase
    have hL := LC.of_row hR
    clear hp hR
    simp only [slV]
    go_wp2_with fail
    refine Calls.mono HRP ?_
    rintro e w3 ⟨ht3, g3, cap3, rfl, hR3⟩
    have HT3 := toHid ((show Touch [] w w2 from HT2).trans ht3 (by simp))
    have HSM := toHid (same_any L _ _ cap cap3 w3 (by omega) (hL.touch ht3) (LC.of_row hR3))
    clear ht3 hR3 HRP hL
    simp only [slV]
    go_wp2_with fail
    refine Calls.mono HSM ?_
    rintro e w4 ⟨rfl, ht4⟩
    have HT4 := toHid ((show Touch [] w w3 from HT3).trans ht4 (by simp))
    clear ht4
    go_wp2
    go_ret
    exact ⟨rfl, HT4⟩
end Go.Proofs.YthlfnmjefpdjgaaGreatDoor
