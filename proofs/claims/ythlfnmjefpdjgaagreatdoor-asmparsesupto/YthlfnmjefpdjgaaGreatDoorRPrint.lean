/-
  What the reference's Print answers.
-/
import Derived.Test.YthlfnmjefpdjgaaGreatDoorRLine
import Derived.Test.YthlfnmjefpdjgaaGreatDoorRPlain
import Derived.Test.YthlfnmjefpdjgaaGreatDoorTexts
import Derived.Deep.DrawnRows
namespace Go.Proofs.YthlfnmjefpdjgaaGreatDoor
open Go.RowKit

theorem fields_le (op : Int) : ∀ f ∈ fieldsP op, f ≤ 4 ∨ f = 5 := by
  unfold fieldsP jumpF
  intro f
  repeat' split
  all_goals (simp; try omega)
theorem line_nx (i a b : In) (h : ¬ i.op % 8 = 0) : lineP i a = lineP i b := by
  unfold lineP tailP
  congr 1
  have hf : ∀ f ∈ fieldsP i.op, printF f i a = printF f i b := fun f hf => by
    rcases fields_le i.op f hf with h4 | rfl
    · unfold printF
      repeat' split
      all_goals first | rfl | omega
    · exact absurd (fields_long i.op hf) h
  generalize fieldsP i.op = fs at hf
  induction fs with
  | nil => rfl
  | cons f r ih => rw [List.flatMap_cons, List.flatMap_cons, hf f (by simp), ih (fun x hx => hf x (by simp [hx]))]
theorem rplain_call (b off c : Nat) (L : List In) (w : World) (k : Nat) (hk : k < L.length) (hn : L.length ≤ 16777216) (hb : b < w.heap.size) (h : LAt w b off L) :
    Calls Tryz.prog 18 #[.slice (some ⟨b, off, none⟩) L.length c, .int .i64 (k : Int)] w fun e w' => e = .returned (.tuple #[.int .i64 (plainOf (fnL L) L.length k).1, .int .i64 (plainOf (fnL L) L.length k).2]) ∧ Touch [] w w' := by
  have hat : ∀ j, j < L.length → (fnL L j).Ok ∧ InC w b (off + j * 5) (fnL L j) := fun j hj => by
    have : L[j]? = some (fnL L j) := by simp [fnL, List.getElem?_eq_getElem hj]
    exact h j _ this
  obtain ⟨ok, c0, c1, c2, c3, c4⟩ := hat k hk
  exact rplain_in b off L.length c k (fnL L) w hk (by omega) hb ok c0 c1 c2 c3 c4 (fun hk1 => by
    obtain ⟨_, d0, d1, d2, d3, d4⟩ := hat (k + 1) hk1
    exact ⟨d0, d1, d2, d3, d4⟩)
theorem src_small (i : In) (h : okB i = true) : i.op = 24 ∨ i.op = 133 → i.src ≤ 1 := by
  simp only [okB, Bool.and_eq_true, Bool.not_eq_true'] at h
  intro ho
  exact ((bad_parts i).1 h.2).2.2.2.2.2.2 (ho.symm)
def RPrintPost (w : World) (r : Option Bs) (e : Ending) (w' : World) : Prop := Touch [] w w' ∧ match r with
  | none => e = .returned (.tuple #[.string ⟨#[]⟩, .bool false])
  | some s => e = .returned (.tuple #[.string ⟨s.toArray⟩, .bool true])

set_option maxRecDepth 100000 in
set_option maxHeartbeats 3000000 in
theorem rprint_walk (b off c : Nat) (L : List In) (w : World) (hn : L.length ≤ 16777216) (hb : b < w.heap.size) (h : LAt w b off L) :
    Calls Tryz.prog 9 #[.slice (some ⟨b, off, none⟩) L.length c] w (RPrintPost w (printP L)) := by
  have HL := toHid h
  clear h
  go_enter Tryz.func9, Tryz.ntmps9
  go_wp2_with fail
  go_loopw [4, 5] (fun sv kv w' => ∃ (T : Bs) (k : Nat), sv = .string ⟨T.toArray⟩ ∧ kv = .int .i64 (k : Int) ∧ k ≤ L.length ∧ T.length ≤ 101 * k ∧ Hid (printP L = (printP (L.drop k)).map (fun s => T ++ s)) ∧ Hid (Touch [] w w')) (fun _ kv _ => L.length - (intOf kv).toNat)
  case atStart => exact ⟨[], 0, rfl, rfl, by omega, by simp, toHid (by simp), Touch.refl _ _⟩
  case round =>
    obtain ⟨T, k, rfl, rfl, hkl, hT, HP, HT⟩ := hrel
    by_cases hk : k < L.length
    · have hcase := print_case L k hk
      have hLr := (show LAt w b off L from HL).touch HT (by simp)
      have hbr : b < wr.heap.size := Nat.lt_of_lt_of_le hb (show Touch [] w wr from HT).size
      have HC := toHid (rplain_call b off c L wr k hk hn hbr hLr)
      have hLk : L[k]? = some (fnL L k) := by simp [fnL, List.getElem?_eq_getElem hk]
      obtain ⟨okk, _⟩ := hLr k _ hLk
      clear hLr
      rcases hcase with ⟨h2, hp⟩ | ⟨hpl, hok, hw, hp⟩ | ⟨hpl, hok, hw, hk1, hp⟩
      · have HP2 := toHid (show printP L = none from (show printP L = _ from HP).trans (by rw [hp]; rfl))
        clear HP hp
        generalize plainOf (fnL L) L.length k = pr at *
        have h2' : (pr.2 == 0) = false := by simpa using h2
        go_wp2_with fail
        refine Calls.mono HC ?_
        rintro e w1 ⟨rfl, ht1⟩
        have HT1 := toHid ((show Touch [] w wr from HT).trans ht1 (by simp))
        clear ht1
        go_wp2
        refine bodyPost_ret (v := .tuple #[.string ⟨#[]⟩, .bool false]) (by simp [results, Tryz.results9, go_sem]) rfl ⟨HT1, ?_⟩
        rw [show printP L = _ from HP2]
      · rw [hpl] at HC
        have hpl1 := okB_pl _ okk hok
        have hkn : knownB (fnL L k).op = true := hpl1.known
        have hsrc := src_small _ hok
        have hnw : ¬ (fnL L k).op % 8 = 0 := fun h0 => by
          have := (wide_class (fnL L k).op okk.op0 okk.op1 hkn).2 h0
          rw [hw] at this; cases this
        obtain ⟨ln, hln⟩ : ∃ ln, ln = lineP (fnL L k) In.zero := ⟨_, rfl⟩
        have HLN : Hid (lineP (fnL L k) (fnL L k) = ln) := toHid (by rw [hln]; exact line_nx _ _ _ hnw)
        have HP2 := toHid (show printP L = (printP (L.drop (k + 1))).map (fun s => (T ++ (ln ++ [10])) ++ s) from (show printP L = _ from HP).trans (by
          rw [hp, Option.map_map, ← hln]; congr 1; funext s; simp))
        have hlen : ln.length ≤ 100 := by rw [hln]; exact lineP_len _ _ hpl1
        have hb1 : ((⟨ln.toArray⟩ : ByteArray) ++ ⟨#[10]⟩) = ⟨(ln ++ [10]).toArray⟩ := ba_append ln [10]
        have hb2 : ((⟨T.toArray⟩ : ByteArray) ++ ⟨(ln ++ [10]).toArray⟩) = ⟨(T ++ (ln ++ [10])).toArray⟩ := ba_append _ _
        have n1 : ¬ 9223372036854775807 < ln.length + 1 := by omega
        have n2 : ¬ 9223372036854775807 < T.length + (ln.length + 1) := by omega
        have n3 : ¬ 9223372036854775807 < T.length + (ln ++ [10]).length := by simp; omega
        clear HP hp hln hpl hpl1 hok hw
        go_wp2_with fail
        refine Calls.mono HC ?_
        rintro e w1 ⟨rfl, ht1⟩
        have HT2 := toHid ((show Touch [] w wr from HT).trans ht1 (by simp))
        have hLw := (show LAt w b off L from HL).touch HT2 (by simp)
        obtain ⟨_, c0, c1, c2, c3, c4⟩ := hLw k _ hLk
        obtain ⟨_, d0, d1, d2, d3, d4⟩ := hLw k _ hLk
        clear ht1 hLw HC HT
        have z0 : (0 : Int) ≤ (k : Int) := by omega
        have z1 : (k : Int) < (L.length : Int) := by omega
        have z2 : IntKind.i64.wrap ((k : Int) + 1) = (k : Int) + 1 := by rw [IntKind.wrap_i64]; omega
        have z3 : IntKind.i64.wrap ((k : Int) + 2) = (k : Int) + 2 := by rw [IntKind.wrap_i64]; omega
        have z4 : IntKind.i64.wrap (k : Int) = (k : Int) := by rw [IntKind.wrap_i64]; omega
        have z5 : IntKind.i64.wrap ((k : Int) + 2 - 1) = (k : Int) + 1 := by rw [IntKind.wrap_i64]; omega
        have z6 : IntKind.i64.wrap ((k : Int) + 1 - 1) = (k : Int) := by rw [IntKind.wrap_i64]; omega
        have z7 : ((k : Int) + 1).toNat = k + 1 := by omega
        go_upto_region 7 with fail
        refine wp_region_held_drew (S := (fun w' => (w'.cell? ⟨b, off + k * 5, none⟩ = some (.int .u8 (fnL L k).op) ∧ w'.cell? ⟨b, off + k * 5 + 1, none⟩ = some (.int .u8 (fnL L k).dst) ∧ w'.cell? ⟨b, off + k * 5 + 2, none⟩ = some (.int .u8 (fnL L k).src) ∧ w'.cell? ⟨b, off + k * 5 + 3, none⟩ = some (.int .i16 (fnL L k).off) ∧ w'.cell? ⟨b, off + k * 5 + 4, none⟩ = some (.int .i32 (fnL L k).imm)) ∧ (w'.cell? ⟨b, off + k * 5, none⟩ = some (.int .u8 (fnL L k).op) ∧ w'.cell? ⟨b, off + k * 5 + 1, none⟩ = some (.int .u8 (fnL L k).dst) ∧ w'.cell? ⟨b, off + k * 5 + 2, none⟩ = some (.int .u8 (fnL L k).src) ∧ w'.cell? ⟨b, off + k * 5 + 3, none⟩ = some (.int .i16 (fnL L k).off) ∧ w'.cell? ⟨b, off + k * 5 + 4, none⟩ = some (.int .i32 (fnL L k).imm)) ∧ Hid (Touch [] w w'))) (by kernel_rfl) ?_ (fun hHeld => ?_)
        · exact ⟨⟨c0, c1, c2, c3, c4⟩, ⟨d0, d1, d2, d3, d4⟩, toHid ((show Touch [] w _ from HT2).drew)⟩
        refine wpAnyH_take (i := 0) (v := ?_) rfl (by kernel_rfl) (by kernel_rfl) (by kernel_rfl) (fun _ _ _ h => h) (Or.inl ⟨by rfl, ?_⟩) (by assumption) ?_
        rotate_left
        · (intro w hSw; (try dsimp only at hSw); go_simp; try with_reducible rfl)
        simp only [Act.put, List.getElem_toArray, List.getElem_cons_zero, List.setIfInBounds_toArray, List.set_cons_zero, List.set_cons_succ]
        refine wpAnyH_take (i := 1) (v := ?_) rfl (by kernel_rfl) (by kernel_rfl) (by kernel_rfl) (fun _ _ _ h => h) (Or.inl ⟨by rfl, ?_⟩) (by assumption) ?_
        rotate_left
        · (intro w hSw; (try dsimp only at hSw); go_simp; try with_reducible rfl)
        simp only [Act.put, List.getElem_toArray, List.getElem_cons_zero, List.getElem_cons_succ, List.setIfInBounds_toArray, List.set_cons_zero, List.set_cons_succ]
        refine wpAnyH_take (i := 2) (v := ?_) rfl (by kernel_rfl) (by kernel_rfl) (by kernel_rfl) (fun _ _ _ h => h) (Or.inl ⟨by rfl, ?_⟩) (by assumption) ?_
        rotate_left
        · (intro w hSw; (try dsimp only at hSw); go_simp; try with_reducible rfl)
        simp only [Act.put, List.getElem_toArray, List.getElem_cons_zero, List.getElem_cons_succ, List.setIfInBounds_toArray, List.set_cons_zero, List.set_cons_succ]
        refine wpAnyH_take (i := 3) (v := ?_) rfl (by kernel_rfl) (by kernel_rfl) (by kernel_rfl) (fun _ _ _ h => h) (Or.inl ⟨by rfl, ?_⟩) (by assumption) ?_
        rotate_left
        · (intro w hSw; (try dsimp only at hSw); go_simp; try with_reducible rfl)
        simp only [Act.put, List.getElem_toArray, List.getElem_cons_zero, List.getElem_cons_succ, List.setIfInBounds_toArray, List.set_cons_zero, List.set_cons_succ]
        refine wpAnyH_take (i := 4) (v := ?_) rfl (by kernel_rfl) (by kernel_rfl) (by kernel_rfl) (fun _ _ _ h => h) (Or.inl ⟨by rfl, ?_⟩) (by assumption) ?_
        rotate_left
        · (intro w hSw; (try dsimp only at hSw); go_simp; try with_reducible rfl)
        simp only [Act.put, List.getElem_toArray, List.getElem_cons_zero, List.getElem_cons_succ, List.setIfInBounds_toArray, List.set_cons_zero, List.set_cons_succ]
        refine wpAnyH_take (i := 5) (v := ?_) rfl (by kernel_rfl) (by kernel_rfl) (by kernel_rfl) (fun _ _ _ h => h) (Or.inl ⟨by rfl, ?_⟩) (by assumption) ?_
        rotate_left
        · (intro w hSw; (try dsimp only at hSw); go_simp; try with_reducible rfl)
        simp only [Act.put, List.getElem_toArray, List.getElem_cons_zero, List.getElem_cons_succ, List.setIfInBounds_toArray, List.set_cons_zero, List.set_cons_succ]
        refine wpAnyH_take (i := 6) (v := ?_) rfl (by kernel_rfl) (by kernel_rfl) (by kernel_rfl) (fun _ _ _ h => h) (Or.inl ⟨by rfl, ?_⟩) (by assumption) ?_
        rotate_left
        · (intro w hSw; (try dsimp only at hSw); go_simp; try with_reducible rfl)
        simp only [Act.put, List.getElem_toArray, List.getElem_cons_zero, List.getElem_cons_succ, List.setIfInBounds_toArray, List.set_cons_zero, List.set_cons_succ]
        refine wpAnyH_take (i := 7) (v := ?_) rfl (by kernel_rfl) (by kernel_rfl) (by kernel_rfl) (fun _ _ _ h => h) (Or.inl ⟨by rfl, ?_⟩) (by assumption) ?_
        rotate_left
        · (intro w hSw; (try dsimp only at hSw); go_simp; try with_reducible rfl)
        simp only [Act.put, List.getElem_toArray, List.getElem_cons_zero, List.getElem_cons_succ, List.setIfInBounds_toArray, List.set_cons_zero, List.set_cons_succ]
        refine wpAnyH_take (i := 8) (v := ?_) rfl (by kernel_rfl) (by kernel_rfl) (by kernel_rfl) (fun _ _ _ h => h) (Or.inl ⟨by rfl, ?_⟩) (by assumption) ?_
        rotate_left
        · (intro w hSw; (try dsimp only at hSw); go_simp; try with_reducible rfl)
        simp only [Act.put, List.getElem_toArray, List.getElem_cons_zero, List.getElem_cons_succ, List.setIfInBounds_toArray, List.set_cons_zero, List.set_cons_succ]
        refine wpAnyH_take (i := 9) (v := ?_) rfl (by kernel_rfl) (by kernel_rfl) (by kernel_rfl) (fun _ _ _ h => h) (Or.inl ⟨by rfl, ?_⟩) (by assumption) ?_
        rotate_left
        · (intro w hSw; (try dsimp only at hSw); go_simp; try with_reducible rfl)
        simp only [Act.put, List.getElem_toArray, List.getElem_cons_zero, List.getElem_cons_succ, List.setIfInBounds_toArray, List.set_cons_zero, List.set_cons_succ]
        refine wpAnyH_take (i := 10) (v := ?_) rfl (by kernel_rfl) (by kernel_rfl) (by kernel_rfl) (fun _ _ _ h => h) (Or.inl ⟨by rfl, ?_⟩) (by assumption) ?_
        rotate_left
        · (intro w hSw; (try dsimp only at hSw); go_simp; try with_reducible rfl)
        simp only [Act.put, List.getElem_toArray, List.getElem_cons_zero, List.getElem_cons_succ, List.setIfInBounds_toArray, List.set_cons_zero, List.set_cons_succ]
        refine wpAnyH_take (i := 11) (v := ?_) rfl (by kernel_rfl) (by kernel_rfl) (by kernel_rfl) (fun _ _ _ h => h) (Or.inl ⟨by rfl, ?_⟩) (by assumption) ?_
        rotate_left
        · (intro w hSw; (try dsimp only at hSw); go_simp; try with_reducible rfl)
        simp only [Act.put, List.getElem_toArray, List.getElem_cons_zero, List.getElem_cons_succ, List.setIfInBounds_toArray, List.set_cons_zero, List.set_cons_succ]
        refine wpAnyH_ready (rs := [12]) (by kernel_rfl) (by simp) ?_
        refine AllReadyH.cons rfl (fun K hK => ?_) AllReadyH.nil
        simp only [List.getElem_toArray, List.getElem_cons_zero, List.getElem_cons_succ]
        go_simp
        refine (rline_any (fnL L k) (fnL L k) okk hkn hsrc _ ln HLN.out.symm).mono ?_; rintro e w1 ⟨rfl, ht1⟩
        go_wp2_with fail
        refine hK.out _ _ ?_ (fun hHeld => ?_)
        · exact ⟨⟨ht1.cell hHeld.1.1 (by simp), ht1.cell hHeld.1.2.1 (by simp), ht1.cell hHeld.1.2.2.1 (by simp), ht1.cell hHeld.1.2.2.2.1 (by simp), ht1.cell hHeld.1.2.2.2.2 (by simp)⟩, ⟨ht1.cell hHeld.2.1.1 (by simp), ht1.cell hHeld.2.1.2.1 (by simp), ht1.cell hHeld.2.1.2.2.1 (by simp), ht1.cell hHeld.2.1.2.2.2.1 (by simp), ht1.cell hHeld.2.1.2.2.2.2 (by simp)⟩, toHid ((show Touch [] w _ from hHeld.2.2).trans ht1 (by simp))⟩
        clear hK K
        try simp only [Act.put, List.getElem_toArray, List.getElem_cons_zero, List.getElem_cons_succ, List.setIfInBounds_toArray, List.set_cons_zero, List.set_cons_succ]
        refine wpAnyH_take (i := 13) (v := ?_) rfl (by kernel_rfl) (by kernel_rfl) (by kernel_rfl) (fun _ _ _ h => h) (Or.inl ⟨by rfl, ?_⟩) (by assumption) ?_
        rotate_left
        · (intro w hSw; (try dsimp only at hSw); go_simp; try with_reducible rfl)
        simp only [Act.put, List.getElem_toArray, List.getElem_cons_zero, List.getElem_cons_succ, List.setIfInBounds_toArray, List.set_cons_zero, List.set_cons_succ]
        refine wpAnyH_take (i := 14) (v := ?_) rfl (by kernel_rfl) (by kernel_rfl) (by kernel_rfl) (fun _ _ _ h => h) (Or.inl ⟨by rfl, ?_⟩) (by assumption) ?_
        rotate_left
        · (intro w hSw; (try dsimp only at hSw); go_simp; try with_reducible rfl)
        simp only [Act.put, List.getElem_toArray, List.getElem_cons_zero, List.getElem_cons_succ, List.setIfInBounds_toArray, List.set_cons_zero, List.set_cons_succ]
        refine wpAnyH_ready (rs := [15]) (by kernel_rfl) (by simp) ?_
        refine AllReadyH.cons rfl (fun K hK => ?_) AllReadyH.nil
        simp only [List.getElem_toArray, List.getElem_cons_zero, List.getElem_cons_succ]
        go_simp
        refine hK.out _ _ ?_ (fun hHeld => ?_)
        · exact hHeld
        clear hK K
        try simp only [Act.put, List.getElem_toArray, List.getElem_cons_zero, List.getElem_cons_succ, List.setIfInBounds_toArray, List.set_cons_zero, List.set_cons_succ]
        refine wpAnyH_done (by kernel_rfl) ?_ _
        go_wp2
        go_roundw
        case rel => exact ⟨T ++ (ln ++ [10]), k + 1, by simp, by go_num, by omega, by simp; omega, HP2, hHeld.2.2⟩
        case measure => simp [intOf]; omega
      · rw [hpl] at HC
        have hpl1 := okB_pl _ okk hok
        have hkn : knownB (fnL L k).op = true := hpl1.known
        have hsrc := src_small _ hok
        obtain ⟨ln, hln⟩ : ∃ ln, ln = lineP (fnL L k) (fnL L (k + 1)) := ⟨_, rfl⟩
        have HLN : Hid (lineP (fnL L k) (fnL L (k + 1)) = ln) := toHid hln.symm
        have HP2 := toHid (show printP L = (printP (L.drop (k + 2))).map (fun s => (T ++ (ln ++ [10])) ++ s) from (show printP L = _ from HP).trans (by
          rw [hp, Option.map_map, ← hln]; congr 1; funext s; simp))
        have hlen : ln.length ≤ 100 := by rw [hln]; exact lineP_len _ _ hpl1
        have hb1 : ((⟨ln.toArray⟩ : ByteArray) ++ ⟨#[10]⟩) = ⟨(ln ++ [10]).toArray⟩ := ba_append ln [10]
        have hb2 : ((⟨T.toArray⟩ : ByteArray) ++ ⟨(ln ++ [10]).toArray⟩) = ⟨(T ++ (ln ++ [10])).toArray⟩ := ba_append _ _
        have n1 : ¬ 9223372036854775807 < ln.length + 1 := by omega
        have n2 : ¬ 9223372036854775807 < T.length + (ln.length + 1) := by omega
        have n3 : ¬ 9223372036854775807 < T.length + (ln ++ [10]).length := by simp; omega
        clear HP hp hln hpl hpl1 hok hw
        go_wp2_with fail
        refine Calls.mono HC ?_
        rintro e w1 ⟨rfl, ht1⟩
        have HT2 := toHid ((show Touch [] w wr from HT).trans ht1 (by simp))
        have hLw := (show LAt w b off L from HL).touch HT2 (by simp)
        obtain ⟨_, c0, c1, c2, c3, c4⟩ := hLw k _ hLk
        have hLk1 : L[k + 1]? = some (fnL L (k + 1)) := by simp [fnL, List.getElem?_eq_getElem hk1]
        obtain ⟨_, d0, d1, d2, d3, d4⟩ := hLw (k + 1) _ hLk1
        clear ht1 hLw HC HT
        have z0 : (0 : Int) ≤ (k : Int) := by omega
        have z1 : (k : Int) < (L.length : Int) := by omega
        have z2 : IntKind.i64.wrap ((k : Int) + 1) = (k : Int) + 1 := by rw [IntKind.wrap_i64]; omega
        have z3 : IntKind.i64.wrap ((k : Int) + 2) = (k : Int) + 2 := by rw [IntKind.wrap_i64]; omega
        have z4 : IntKind.i64.wrap (k : Int) = (k : Int) := by rw [IntKind.wrap_i64]; omega
        have z5 : IntKind.i64.wrap ((k : Int) + 2 - 1) = (k : Int) + 1 := by rw [IntKind.wrap_i64]; omega
        have z6 : IntKind.i64.wrap ((k : Int) + 1 - 1) = (k : Int) := by rw [IntKind.wrap_i64]; omega
        have z7 : ((k : Int) + 1).toNat = k + 1 := by omega
        have z8 : (k : Int) + 1 < (L.length : Int) := by omega
        have z9 : (0 : Int) ≤ (k : Int) + 1 := by omega
        go_upto_region 7 with fail
        refine wp_region_held_drew (S := (fun w' => (w'.cell? ⟨b, off + k * 5, none⟩ = some (.int .u8 (fnL L k).op) ∧ w'.cell? ⟨b, off + k * 5 + 1, none⟩ = some (.int .u8 (fnL L k).dst) ∧ w'.cell? ⟨b, off + k * 5 + 2, none⟩ = some (.int .u8 (fnL L k).src) ∧ w'.cell? ⟨b, off + k * 5 + 3, none⟩ = some (.int .i16 (fnL L k).off) ∧ w'.cell? ⟨b, off + k * 5 + 4, none⟩ = some (.int .i32 (fnL L k).imm)) ∧ (w'.cell? ⟨b, off + (k + 1) * 5, none⟩ = some (.int .u8 (fnL L (k + 1)).op) ∧ w'.cell? ⟨b, off + (k + 1) * 5 + 1, none⟩ = some (.int .u8 (fnL L (k + 1)).dst) ∧ w'.cell? ⟨b, off + (k + 1) * 5 + 2, none⟩ = some (.int .u8 (fnL L (k + 1)).src) ∧ w'.cell? ⟨b, off + (k + 1) * 5 + 3, none⟩ = some (.int .i16 (fnL L (k + 1)).off) ∧ w'.cell? ⟨b, off + (k + 1) * 5 + 4, none⟩ = some (.int .i32 (fnL L (k + 1)).imm)) ∧ Hid (Touch [] w w'))) (by kernel_rfl) ?_ (fun hHeld => ?_)
        · exact ⟨⟨c0, c1, c2, c3, c4⟩, ⟨d0, d1, d2, d3, d4⟩, toHid ((show Touch [] w _ from HT2).drew)⟩
        refine wpAnyH_take (i := 0) (v := ?_) rfl (by kernel_rfl) (by kernel_rfl) (by kernel_rfl) (fun _ _ _ h => h) (Or.inl ⟨by rfl, ?_⟩) (by assumption) ?_
        rotate_left
        · (intro w hSw; (try dsimp only at hSw); go_simp; try with_reducible rfl)
        simp only [Act.put, List.getElem_toArray, List.getElem_cons_zero, List.setIfInBounds_toArray, List.set_cons_zero, List.set_cons_succ]
        refine wpAnyH_take (i := 1) (v := ?_) rfl (by kernel_rfl) (by kernel_rfl) (by kernel_rfl) (fun _ _ _ h => h) (Or.inl ⟨by rfl, ?_⟩) (by assumption) ?_
        rotate_left
        · (intro w hSw; (try dsimp only at hSw); go_simp; try with_reducible rfl)
        simp only [Act.put, List.getElem_toArray, List.getElem_cons_zero, List.getElem_cons_succ, List.setIfInBounds_toArray, List.set_cons_zero, List.set_cons_succ]
        refine wpAnyH_take (i := 2) (v := ?_) rfl (by kernel_rfl) (by kernel_rfl) (by kernel_rfl) (fun _ _ _ h => h) (Or.inl ⟨by rfl, ?_⟩) (by assumption) ?_
        rotate_left
        · (intro w hSw; (try dsimp only at hSw); go_simp; try with_reducible rfl)
        simp only [Act.put, List.getElem_toArray, List.getElem_cons_zero, List.getElem_cons_succ, List.setIfInBounds_toArray, List.set_cons_zero, List.set_cons_succ]
        refine wpAnyH_take (i := 3) (v := ?_) rfl (by kernel_rfl) (by kernel_rfl) (by kernel_rfl) (fun _ _ _ h => h) (Or.inl ⟨by rfl, ?_⟩) (by assumption) ?_
        rotate_left
        · (intro w hSw; (try dsimp only at hSw); go_simp; try with_reducible rfl)
        simp only [Act.put, List.getElem_toArray, List.getElem_cons_zero, List.getElem_cons_succ, List.setIfInBounds_toArray, List.set_cons_zero, List.set_cons_succ]
        refine wpAnyH_take (i := 4) (v := ?_) rfl (by kernel_rfl) (by kernel_rfl) (by kernel_rfl) (fun _ _ _ h => h) (Or.inl ⟨by rfl, ?_⟩) (by assumption) ?_
        rotate_left
        · (intro w hSw; (try dsimp only at hSw); go_simp; try with_reducible rfl)
        simp only [Act.put, List.getElem_toArray, List.getElem_cons_zero, List.getElem_cons_succ, List.setIfInBounds_toArray, List.set_cons_zero, List.set_cons_succ]
        refine wpAnyH_take (i := 5) (v := ?_) rfl (by kernel_rfl) (by kernel_rfl) (by kernel_rfl) (fun _ _ _ h => h) (Or.inl ⟨by rfl, ?_⟩) (by assumption) ?_
        rotate_left
        · (intro w hSw; (try dsimp only at hSw); go_simp; try with_reducible rfl)
        simp only [Act.put, List.getElem_toArray, List.getElem_cons_zero, List.getElem_cons_succ, List.setIfInBounds_toArray, List.set_cons_zero, List.set_cons_succ]
        refine wpAnyH_take (i := 6) (v := ?_) rfl (by kernel_rfl) (by kernel_rfl) (by kernel_rfl) (fun _ _ _ h => h) (Or.inl ⟨by rfl, ?_⟩) (by assumption) ?_
        rotate_left
        · (intro w hSw; (try dsimp only at hSw); go_simp; try with_reducible rfl)
        simp only [Act.put, List.getElem_toArray, List.getElem_cons_zero, List.getElem_cons_succ, List.setIfInBounds_toArray, List.set_cons_zero, List.set_cons_succ]
        refine wpAnyH_take (i := 7) (v := ?_) rfl (by kernel_rfl) (by kernel_rfl) (by kernel_rfl) (fun _ _ _ h => h) (Or.inl ⟨by rfl, ?_⟩) (by assumption) ?_
        rotate_left
        · (intro w hSw; (try dsimp only at hSw); go_simp; try with_reducible rfl)
        simp only [Act.put, List.getElem_toArray, List.getElem_cons_zero, List.getElem_cons_succ, List.setIfInBounds_toArray, List.set_cons_zero, List.set_cons_succ]
        refine wpAnyH_take (i := 8) (v := ?_) rfl (by kernel_rfl) (by kernel_rfl) (by kernel_rfl) (fun _ _ _ h => h) (Or.inl ⟨by rfl, ?_⟩) (by assumption) ?_
        rotate_left
        · (intro w hSw; (try dsimp only at hSw); go_simp; try with_reducible rfl)
        simp only [Act.put, List.getElem_toArray, List.getElem_cons_zero, List.getElem_cons_succ, List.setIfInBounds_toArray, List.set_cons_zero, List.set_cons_succ]
        refine wpAnyH_take (i := 9) (v := ?_) rfl (by kernel_rfl) (by kernel_rfl) (by kernel_rfl) (fun _ _ _ h => h) (Or.inl ⟨by rfl, ?_⟩) (by assumption) ?_
        rotate_left
        · (intro w hSw; (try dsimp only at hSw); go_simp; try with_reducible rfl)
        simp only [Act.put, List.getElem_toArray, List.getElem_cons_zero, List.getElem_cons_succ, List.setIfInBounds_toArray, List.set_cons_zero, List.set_cons_succ]
        refine wpAnyH_take (i := 10) (v := ?_) rfl (by kernel_rfl) (by kernel_rfl) (by kernel_rfl) (fun _ _ _ h => h) (Or.inl ⟨by rfl, ?_⟩) (by assumption) ?_
        rotate_left
        · (intro w hSw; (try dsimp only at hSw); go_simp; try with_reducible rfl)
        simp only [Act.put, List.getElem_toArray, List.getElem_cons_zero, List.getElem_cons_succ, List.setIfInBounds_toArray, List.set_cons_zero, List.set_cons_succ]
        refine wpAnyH_take (i := 11) (v := ?_) rfl (by kernel_rfl) (by kernel_rfl) (by kernel_rfl) (fun _ _ _ h => h) (Or.inl ⟨by rfl, ?_⟩) (by assumption) ?_
        rotate_left
        · (intro w hSw; (try dsimp only at hSw); go_simp; try with_reducible rfl)
        simp only [Act.put, List.getElem_toArray, List.getElem_cons_zero, List.getElem_cons_succ, List.setIfInBounds_toArray, List.set_cons_zero, List.set_cons_succ]
        refine wpAnyH_ready (rs := [12]) (by kernel_rfl) (by simp) ?_
        refine AllReadyH.cons rfl (fun K hK => ?_) AllReadyH.nil
        simp only [List.getElem_toArray, List.getElem_cons_zero, List.getElem_cons_succ]
        go_simp
        refine (rline_any (fnL L k) (fnL L (k + 1)) okk hkn hsrc _ ln HLN.out.symm).mono ?_; rintro e w1 ⟨rfl, ht1⟩
        go_wp2_with fail
        refine hK.out _ _ ?_ (fun hHeld => ?_)
        · exact ⟨⟨ht1.cell hHeld.1.1 (by simp), ht1.cell hHeld.1.2.1 (by simp), ht1.cell hHeld.1.2.2.1 (by simp), ht1.cell hHeld.1.2.2.2.1 (by simp), ht1.cell hHeld.1.2.2.2.2 (by simp)⟩, ⟨ht1.cell hHeld.2.1.1 (by simp), ht1.cell hHeld.2.1.2.1 (by simp), ht1.cell hHeld.2.1.2.2.1 (by simp), ht1.cell hHeld.2.1.2.2.2.1 (by simp), ht1.cell hHeld.2.1.2.2.2.2 (by simp)⟩, toHid ((show Touch [] w _ from hHeld.2.2).trans ht1 (by simp))⟩
        clear hK K
        try simp only [Act.put, List.getElem_toArray, List.getElem_cons_zero, List.getElem_cons_succ, List.setIfInBounds_toArray, List.set_cons_zero, List.set_cons_succ]
        refine wpAnyH_take (i := 13) (v := ?_) rfl (by kernel_rfl) (by kernel_rfl) (by kernel_rfl) (fun _ _ _ h => h) (Or.inl ⟨by rfl, ?_⟩) (by assumption) ?_
        rotate_left
        · (intro w hSw; (try dsimp only at hSw); go_simp; try with_reducible rfl)
        simp only [Act.put, List.getElem_toArray, List.getElem_cons_zero, List.getElem_cons_succ, List.setIfInBounds_toArray, List.set_cons_zero, List.set_cons_succ]
        refine wpAnyH_take (i := 14) (v := ?_) rfl (by kernel_rfl) (by kernel_rfl) (by kernel_rfl) (fun _ _ _ h => h) (Or.inl ⟨by rfl, ?_⟩) (by assumption) ?_
        rotate_left
        · (intro w hSw; (try dsimp only at hSw); go_simp; try with_reducible rfl)
        simp only [Act.put, List.getElem_toArray, List.getElem_cons_zero, List.getElem_cons_succ, List.setIfInBounds_toArray, List.set_cons_zero, List.set_cons_succ]
        refine wpAnyH_ready (rs := [15]) (by kernel_rfl) (by simp) ?_
        refine AllReadyH.cons rfl (fun K hK => ?_) AllReadyH.nil
        simp only [List.getElem_toArray, List.getElem_cons_zero, List.getElem_cons_succ]
        go_simp
        refine hK.out _ _ ?_ (fun hHeld => ?_)
        · exact hHeld
        clear hK K
        try simp only [Act.put, List.getElem_toArray, List.getElem_cons_zero, List.getElem_cons_succ, List.setIfInBounds_toArray, List.set_cons_zero, List.set_cons_succ]
        refine wpAnyH_done (by kernel_rfl) ?_ _
        go_wp2
        go_roundw
        case rel => exact ⟨T ++ (ln ++ [10]), k + 2, by simp, by go_num, by omega, by simp; omega, HP2, hHeld.2.2⟩
        case measure => simp [intOf]; omega
    · obtain rfl : k = L.length := by omega
      have HP2 := toHid (show printP L = some T from (show printP L = _ from HP).trans (by simp [printP]))
      clear HP
      go_wp2
      refine bodyPost_ret (v := .tuple #[.string ⟨T.toArray⟩, .bool true]) (by simp [results, Tryz.results9, go_sem]) rfl ⟨HT, ?_⟩
      rw [show printP L = _ from HP2]
end Go.Proofs.YthlfnmjefpdjgaaGreatDoor
