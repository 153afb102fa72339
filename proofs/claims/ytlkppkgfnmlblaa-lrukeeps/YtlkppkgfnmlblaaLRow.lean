/-
  Package lru: rows of slots in memory; slices.IndexFunc and slices.DeleteFunc with the closure of take.
-/
import Derived.Test.YtlkppkgfnmlblaaMap
import Derived.Lib.SliceRun
import Derived.Laws.ByValue
namespace Go.Proofs.Ytlkppkgfnmlblaa
open Go.RowKit Go.Maps

def natV (n : Nat) : Value := .int .i64 (n : Int)
/-- A row of slots. -/
def OrdAt (w : World) (g : Option Nat) (cap : Nat) (l : List Nat) : Prop := RowAt w 3 1 g l.length cap (l.map natV)
theorem OrdAt.touch {S : List Nat} {w w' : World} {g : Option Nat} {cap : Nat} {l : List Nat} (h : OrdAt w g cap l) (ht : Touch S w w') (hg : ∀ b, g = some b → b ∉ S) : OrdAt w' g cap l := RowAt.touch h ht hg
theorem OrdAt.at_ {w : World} {g : Option Nat} {cap : Nat} {l : List Nat} (h : OrdAt w g cap l) {j : Nat} (hj : j < l.length) : ∃ b rest, g = some b ∧ Blk w b (l.map natV ++ rest) 3 ∧ cap ≤ l.length + rest.length := by
  obtain ⟨_, h2, _, h4⟩ := h
  cases g with
  | none =>
    have h4 : cap = 0 := h4
    omega
  | some b =>
    obtain ⟨rest, hB, hc⟩ := h4
    exact ⟨b, rest, rfl, hB, by simpa using hc⟩
theorem OrdAt.cell {w : World} {b cap : Nat} {l : List Nat} (h : OrdAt w (some b) cap l) {j : Nat} (hj : j < l.length) : w.cell? ⟨b, j, none⟩ = some (.int .i64 ((l.getD j 0 : Nat) : Int)) := by
  obtain ⟨_, _, _, rest, hB, _⟩ := h
  refine hB.cell ?_
  rw [List.getElem?_append_left (by simpa using hj), List.getElem?_map, List.getD_eq_getElem?_getD, List.getElem?_eq_getElem hj]
  rfl
theorem OrdAt.lt {w : World} {b cap : Nat} {l : List Nat} (h : OrdAt w (some b) cap l) : b < w.heap.size := by
  obtain ⟨_, _, _, rest, hB, _⟩ := h
  exact hB.lt

theorem pred_any (w : World) {c s : Nat} (v : Nat) (hc : w.cell? ⟨c, 0, none⟩ = some (.int .i64 (s : Int))) :
    Calls Try.prog 43 #[.int .i64 (v : Int), .pointer (some ⟨c, 0, none⟩)] w fun e w' => e = .returned (.bool (v == s)) ∧ w' = w := by
  by_cases h : v = s
  · have h1 : ((v : Int) == (s : Int)) = true := by rw [h]; simp
    rw [show (v == s) = true from by simpa using h]
    clear h
    go_enter Try.func43, Try.ntmps43
    go_wp2
    go_ret
    exact ⟨rfl, rfl⟩
  · have h1 : ((v : Int) == (s : Int)) = false := beq_false_of_ne (by omega)
    rw [show (v == s) = false from by simpa using h]
    clear h
    go_enter Try.func43, Try.ntmps43
    go_wp2
    go_ret
    exact ⟨rfl, rfl⟩

theorem find_from {l : List Nat} {s k : Nat} (h1 : ∀ j, j < k → l.getD j 0 ≠ s) (hk : k < l.length) (h2 : l.getD k 0 = s) : l.findIdx? (fun x => x == s) = some k := by
  rw [List.findIdx?_eq_some_iff_getElem]
  refine ⟨hk, ?_, fun j hj => ?_⟩
  · rw [List.getD_eq_getElem?_getD, List.getElem?_eq_getElem hk] at h2
    simpa using h2
  · have := h1 j hj
    rw [List.getD_eq_getElem?_getD, List.getElem?_eq_getElem (by omega)] at this
    simpa using this
theorem find_none {l : List Nat} {s : Nat} (h1 : ∀ j, j < l.length → l.getD j 0 ≠ s) : l.findIdx? (fun x => x == s) = none := by
  rw [List.findIdx?_eq_none_iff]
  intro x hx
  obtain ⟨j, hj, rfl⟩ := List.getElem_of_mem hx
  have := h1 j hj
  rw [List.getD_eq_getElem?_getD, List.getElem?_eq_getElem hj] at this
  simpa using this

set_option maxHeartbeats 1000000 in
set_option maxRecDepth 100000 in
theorem indexFunc_any {w : World} {g : Option Nat} {cap : Nat} {l : List Nat} (h : OrdAt w g cap l) {c s : Nat} (hc : w.cell? ⟨c, 0, none⟩ = some (.int .i64 (s : Int))) (hn : l.length ≤ 1000) :
    Calls Try.prog 47 #[slV g l.length cap, .func (.func 43) #[] #[.pointer (some ⟨c, 0, none⟩)]] w fun e w' => e = .returned (.int .i64 (idxI (l.findIdx? (fun x => x == s)))) ∧ w' = w := by
  have HH := toHid h
  have HC := toHid hc
  unfold slV
  generalize hsg : (g.map fun b => (⟨b, 0, none⟩ : Addr)) = sg at *
  generalize hln : l.length = n at *
  have HL := toHid (And.intro hln hsg)
  clear h hsg hln hc
  go_enter Try.func47, Try.ntmps47
  go_wp2_with fail
  go_loop [8] (fun t => ∃ k : Nat, k ≤ n ∧ t = .int .i64 k ∧ Hid (∀ j, j < k → l.getD j 0 ≠ s)) (fun t => n - (intOf t).toNat)
  case atStart => exact ⟨0, by omega, rfl, fun j hj => absurd hj (by omega)⟩
  case round =>
    obtain ⟨k, hk, rfl, HI⟩ := hrel
    by_cases hlt : k < n
    · have hkl : k < l.length := by rw [HL.out.1]; exact hlt
      obtain ⟨b, rest, rfl, hB, _⟩ := HH.out.at_ hkl
      have hsg : some ⟨b, 0, none⟩ = sg := HL.out.2
      subst hsg
      have hcell := HH.out.cell hkl
      have H1 := toHid (pred_any w (l.getD k 0) HC.out)
      have HV : Hid (∃ z : Nat, l.getD k 0 = z) := ⟨_, rfl⟩
      generalize hz : l.getD k 0 = z at *
      have HZ := toHid hz
      clear hz hB HV
      go_wp2_with fail
      refine Calls.mono H1.out ?_
      rintro e w2 ⟨rfl, rfl⟩
      cases hq : (z == s) with
      | true =>
        have HR := toHid (find_from HI.out hkl (by rw [HZ.out]; simpa using hq))
        clear hq hkl
        go_wp2
        go_ret
        exact ⟨by rw [HR.out]; rfl, rfl⟩
      | false =>
        have HN : Hid (∀ j, j < k + 1 → l.getD j 0 ≠ s) := fun j hj => by
          by_cases hjk : j < k
          · exact HI.out j hjk
          · obtain rfl : j = k := by omega
            rw [HZ.out]
            simpa using hq
        clear hq hkl
        go_wp2
        exact ⟨⟨k + 1, by omega, by go_num, HN⟩, by simp [intOf]; omega⟩
    · obtain rfl : k = n := by omega
      have HR := toHid (find_none (fun j hj => HI.out j (by rw [← HL.out.1]; exact hj)))
      go_wp2
      go_ret
      exact ⟨by rw [HR.out]; rfl, rfl⟩

theorem Blk.cleared {b : Nat} {t : TypeId} : ∀ (vs : List Value) (o : Nat) (w : World) (cs : List Value), Blk w b cs t → ∃ cs', Blk (w.setCells b o vs) b cs' t ∧ cs'.length = cs.length ∧ cs'.take o = cs.take o ∧ Touch [b] w (w.setCells b o vs)
  | [], _, w, cs, h => ⟨cs, h, rfl, rfl, Touch.refl _ _⟩
  | v :: vs, o, w, cs, h => by
    obtain ⟨cs', h1, h2, h3, h4⟩ := Blk.cleared vs (o + 1) _ _ (h.setCell o v)
    refine ⟨cs', h1, by rw [h2]; simp, ?_, ((Touch.refl [b] w).setCell ⟨b, o, none⟩ v (Or.inl (by simp))).trans h4 (fun y hy => Or.inl hy)⟩
    have h5 := congrArg (List.take o) h3
    rw [List.take_take, List.take_take, Nat.min_eq_left (by omega)] at h5
    rw [h5, List.take_set_of_le (by omega)]

theorem filter_step {l : List Nat} {s j : Nat} (hj : j < l.length) : (l.take (j + 1)).filter (fun x => x != s) = (l.take j).filter (fun x => x != s) ++ (if l.getD j 0 = s then [] else [l.getD j 0]) := by
  rw [List.take_add_one, List.filter_append, List.getD_eq_getElem?_getD, List.getElem?_eq_getElem hj]
  simp only [Option.toList_some, Option.getD_some]
  by_cases e : l[j] = s
  · rw [if_pos e]
    simp [e]
  · rw [if_neg e]
    simp [e]
theorem filter_all {l : List Nat} {s : Nat} (h : ∀ x ∈ l, x ≠ s) : l.filter (fun x => x != s) = l := by
  rw [List.filter_eq_self]
  intro x hx
  simpa using h x hx
theorem filter_start {l : List Nat} {s k : Nat} (h : l.findIdx? (fun x => x == s) = some k) : k < l.length ∧ (l.take (k + 1)).filter (fun x => x != s) = l.take k := by
  rw [List.findIdx?_eq_some_iff_getElem] at h
  obtain ⟨hk, h1, h2⟩ := h
  refine ⟨hk, ?_⟩
  rw [filter_step hk, List.getD_eq_getElem?_getD, List.getElem?_eq_getElem hk]
  simp only [Option.getD_some]
  rw [if_pos (by simpa using h1), List.append_nil]
  refine filter_all fun x hx => ?_
  obtain ⟨j, hj, rfl⟩ := List.getElem_of_mem hx
  rw [List.length_take] at hj
  rw [List.getElem_take]
  have := h2 j (by omega)
  simpa using this

def DelFPost (w : World) (g : Option Nat) (cap : Nat) (l : List Nat) (e : Ending) (w' : World) : Prop := e = .returned (slV g l.length cap) ∧ OrdAt w' g cap l ∧ Touch g.toList w w'
set_option maxHeartbeats 2000000 in
set_option maxRecDepth 100000 in
theorem deleteFunc_any {w : World} {g : Option Nat} {cap : Nat} {l : List Nat} (h : OrdAt w g cap l) {c s : Nat} (hc : w.cell? ⟨c, 0, none⟩ = some (.int .i64 (s : Int))) (hcg : ∀ b, g = some b → c ≠ b) (hn : l.length ≤ 1000) :
    Calls Try.prog 42 #[slV g l.length cap, .func (.func 43) #[] #[.pointer (some ⟨c, 0, none⟩)]] w (DelFPost w g cap (l.filter (fun x => x != s))) := by
  have H1 := toHid (indexFunc_any h hc hn)
  cases hf : l.findIdx? (fun x => x == s) with
  | none =>
    have HF : Hid (DelFPost w g cap (l.filter (fun x => x != s)) (.returned (slV g l.length cap)) w) := by
      rw [filter_all (fun x hx => by rw [List.findIdx?_eq_none_iff] at hf; simpa using hf x hx)]
      exact ⟨rfl, h, Touch.refl _ _⟩
    rw [hf] at H1
    unfold idxI at H1
    clear h hc hcg hf
    generalize slV g l.length cap = v at *
    go_enter Try.func42, Try.ntmps42
    go_wp2_with fail
    refine Calls.mono H1.out ?_
    rintro e w2 ⟨rfl, rfl⟩
    go_wp2
    go_ret
    exact HF.out
  | some k0 =>
    rw [hf] at H1
    obtain ⟨hk0, hst⟩ := filter_start hf
    obtain ⟨b, rest, rfl, hB, hcp⟩ := h.at_ hk0
    have hcap : l.length ≤ cap := h.2.1
    have hrow := h
    unfold idxI at H1
    unfold slV at *
    simp only [Option.map_some] at *
    have hne1 : ((k0 : Int) == -1) = false := beq_eq_false_iff_ne.2 (by omega)
    have HI0 : Hid (∃ cs, Blk w b (cs ++ rest) 3 ∧ cs.length = l.length ∧ cs.take k0 = ((l.take (k0 + 1)).filter (fun x => x != s)).map natV ∧ k0 = ((l.take (k0 + 1)).filter (fun x => x != s)).length ∧ cs.drop (k0 + 1) = (l.drop (k0 + 1)).map natV ∧ k0 < k0 + 1 ∧ Touch [b] w w) := by
      refine ⟨l.map natV, hB, by simp, ?_, ?_, ?_, by omega, Touch.refl _ _⟩
      · rw [hst, List.map_take]
      · rw [hst, List.length_take]; omega
      · rw [List.map_drop]
    have HC := toHid (And.intro hc (And.intro (hcg b rfl) (And.intro hrow hcp)))
    generalize hln : l.length = n at *
    have HL := toHid hln
    clear h hc hcg hf hB hst hrow hln hcp
    go_enter Try.func42, Try.ntmps42
    go_wp2_with fail
    refine Calls.mono H1.out ?_
    rintro e w2 ⟨rfl, rfl⟩
    go_wp2_with fail
    go_loopw [5, 6, 7] (fun a j7 _ wr => ∃ i j : Nat, a = .int .i64 i ∧ j7 = .int .i64 j ∧ j ≤ n ∧ Hid (∃ cs, Blk wr b (cs ++ rest) 3 ∧ cs.length = n ∧ cs.take i = ((l.take j).filter (fun x => x != s)).map natV ∧ i = ((l.take j).filter (fun x => x != s)).length ∧ cs.drop j = (l.drop j).map natV ∧ i < j ∧ Touch [b] w2 wr)) (fun _ j7 _ _ => n - (intOf j7).toNat)
    case atStart => exact ⟨k0, k0 + 1, rfl, by go_num, by omega, HI0⟩
    case round =>
      clear HI0 H1
      obtain ⟨i, j, rfl, rfl, hjn, HI⟩ := hrel
      obtain ⟨cs, hB, hcl, htk, hil, hdr, hij, ht⟩ := HI.out
      by_cases hlt : j < n
      · have hjl : j < l.length := by rw [HL.out]; exact hlt
        have hcj : wr.cell? ⟨b, j, none⟩ = some (.int .i64 ((l.getD j 0 : Nat) : Int)) := by
          refine hB.cell ?_
          rw [List.getElem?_append_left (by omega)]
          have := congrArg (fun x => x[0]?) hdr
          simp only [List.getElem?_drop, List.getElem?_map, Nat.add_zero] at this
          rw [this, List.getElem?_eq_getElem hjl, List.getD_eq_getElem?_getD, List.getElem?_eq_getElem hjl]
          rfl
        have hci := hB.cellN (i := i) (by rw [List.length_append]; omega)
        have hfi := hB.frozen i
        have hcc := ht.cell HC.out.1 (by simp; exact HC.out.2.1)
        have H2 := toHid (pred_any wr (l.getD j 0) hcc)
        have hfs := filter_step (s := s) hjl
        generalize hold : (cs ++ rest)[i]'(by rw [List.length_append]; omega) = old at hci
        by_cases hq : l.getD j 0 = s
        · rw [if_pos hq, List.append_nil] at hfs
          have HN : Hid (∃ cs, Blk wr b (cs ++ rest) 3 ∧ cs.length = n ∧ cs.take i = ((l.take (j + 1)).filter (fun x => x != s)).map natV ∧ i = ((l.take (j + 1)).filter (fun x => x != s)).length ∧ cs.drop (j + 1) = (l.drop (j + 1)).map natV ∧ i < j + 1 ∧ Touch [b] w2 wr) := by
            refine ⟨cs, hB, hcl, by rw [hfs]; exact htk, by rw [hfs]; exact hil, ?_, by omega, ht⟩
            rw [← List.drop_drop, hdr, ← List.map_drop, List.drop_drop]
          have hqb : (l.getD j 0 == s) = true := by simpa using hq
          rw [hqb] at H2
          generalize l.getD j 0 = z at *
          clear hfs hold hB hcl htk hil hdr ht HI hq hqb hcc hjl hci hfi
          go_wp2_with fail
          refine Calls.mono H2.out ?_
          rintro e w3 ⟨rfl, rfl⟩
          go_wp2
          go_roundw
          case rel => exact ⟨i, j + 1, rfl, by go_num, by omega, HN⟩
          case measure => simp [intOf]; omega
        · rw [if_neg hq] at hfs
          have HN : Hid (∃ cs', Blk (wr.setCell ⟨b, i, none⟩ (.int .i64 ((l.getD j 0 : Nat) : Int))) b (cs' ++ rest) 3 ∧ cs'.length = n ∧ cs'.take (i + 1) = ((l.take (j + 1)).filter (fun x => x != s)).map natV ∧ i + 1 = ((l.take (j + 1)).filter (fun x => x != s)).length ∧ cs'.drop (j + 1) = (l.drop (j + 1)).map natV ∧ i + 1 < j + 1 ∧ Touch [b] w2 (wr.setCell ⟨b, i, none⟩ (.int .i64 ((l.getD j 0 : Nat) : Int)))) := by
            refine ⟨cs.set i (.int .i64 ((l.getD j 0 : Nat) : Int)), ?_, by simpa using hcl, ?_, ?_, ?_, by omega, ht.setCell _ _ (Or.inl (by simp))⟩
            · have := hB.setCell i (.int .i64 ((l.getD j 0 : Nat) : Int))
              rw [List.set_append_left _ _ (by omega)] at this
              exact this
            · rw [hfs, List.map_append, ← htk, List.take_add_one, List.take_set_of_le (by omega), List.getElem?_set_self (by omega)]
              rfl
            · rw [hfs, List.length_append, ← hil]
              rfl
            · rw [List.drop_set_of_lt (by omega), ← List.drop_drop, hdr, ← List.map_drop, List.drop_drop]
          have hqb : (l.getD j 0 == s) = false := by simpa using hq
          rw [hqb] at H2
          generalize l.getD j 0 = z at *
          clear hfs hold hB hcl htk hil hdr ht HI hq hqb hcc hjl
          go_wp2_with fail
          refine Calls.mono H2.out ?_
          rintro e w3 ⟨rfl, rfl⟩
          go_wp2
          go_roundw
          case rel => exact ⟨i + 1, j + 1, by go_num, by go_num, by omega, HN⟩
          case measure => simp [intOf]; omega
      · obtain rfl : j = n := by omega
        have hfl : (l.take j).filter (fun x => x != s) = l.filter (fun x => x != s) := by rw [List.take_of_length_le (by rw [HL.out]; exact Nat.le_refl _)]
        rw [hfl] at htk hil
        have hcl0 : ∀ ty, (Builtin.clear_ #[58] ty #[.slice (some ⟨b, i, none⟩) (j - i) (cap - i)]).run Try.prog wr = .ok (.tuple #[]) (wr.setCells b i (List.replicate (j - i) (.int .i64 0))) :=
          fun ty => Lib.run_clear_slice wr 58 3 ty (.int .i64 0) Try.underlying58 zero3 rfl rfl b i (j - i) _ (by omega) (fun t ht => by rw [hB.cellN (i := i + t) (by rw [List.length_append]; omega)]; rfl) (fun t _ => hB.frozen _)
        obtain ⟨cs', q1, q2, q3, q4⟩ := Blk.cleared (List.replicate (j - i) (.int .i64 0)) i wr _ hB
        have HF : Hid (DelFPost w2 (some b) cap (l.filter (fun x => x != s)) (.returned (.slice (some ⟨b, 0, none⟩) i cap)) (wr.setCells b i (List.replicate (j - i) (.int .i64 0)))) := by
          refine ⟨by rw [hil]; rfl, ⟨by simp, by rw [← hil]; omega, HC.out.2.2.1.2.2.1, cs'.drop i, ?_, ?_⟩, ht.trans q4 (fun y hy => Or.inl hy)⟩
          · rw [← htk, show cs.take i = cs'.take i from by rw [q3, List.take_append_of_le_length (by omega)], List.take_append_drop]
            exact q1
          · rw [List.length_append, List.length_map, ← hil, List.length_drop, q2]
            have := HC.out.2.2.2
            rw [List.length_append]
            have h9 := HL.out
            omega
        have hii : (i : Int) ≤ j := by omega
        clear hfl hB hcl htk hil hdr ht HI q1 q2 q3 q4
        go_wp2
        go_ret
        exact HF.out
end Go.Proofs.Ytlkppkgfnmlblaa
