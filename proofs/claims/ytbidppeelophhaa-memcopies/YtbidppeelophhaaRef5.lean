/-
  The reference memory: Read.
-/
import Derived.Test.YtbidppeelophhaaRef4
namespace Go.Proofs.Ytbidppeelophhaa
open Go.RowKit

def rlookE (all : List RReg) (addr n : Int) : Int := match accI all addr n canR with
  | none => 10
  | some i => if ((((all.getD i RReg.zero).set.drop (addr - (all.getD i RReg.zero).base).toNat).take n.toNat).all (fun x => x)) = true then 0 else 11
def rtell (all : List RReg) (addr n : Int) : List Int := match accI all addr n canR with
  | none => []
  | some i => if ((((all.getD i RReg.zero).set.drop (addr - (all.getD i RReg.zero).base).toNat).take n.toNat).all (fun x => x)) = true then ((all.getD i RReg.zero).bytes.drop (addr - (all.getD i RReg.zero).base).toNat).take n.toNat else []
def rreadE (all : List RReg) (addr n : Int) : Int := if n < 0 then 2 else if n = 0 then 0 else rlookE all addr n
def rreadV (all : List RReg) (addr n : Int) : List Int := if n ≤ 0 then [] else rtell all addr n
/-- Behind the reference's Read. -/
def RReadPost (w : World) (s : RS) (addr n : Int) (e : Ending) (w' : World) : Prop := ∃ v, e = .returned (.tuple #[v, .int .i64 (rreadE s.all addr n)]) ∧ OwnAt w w' v (rreadV s.all addr n) ∧ Touch [] w w'

theorem all_take_succ (l : List Bool) (k : Nat) (h : k < l.length) : (l.take (k + 1)).all (fun x => x) = ((l.take k).all (fun x => x) && l[k]) := by
  rw [List.take_succ_eq_append_getElem h, List.all_append]
  simp

theorem all_take_mono (l : List Bool) (j k : Nat) (h : j ≤ k) (hf : (l.take j).all (fun x => x) = false) : (l.take k).all (fun x => x) = false := by
  have e : l.take j = (l.take k).take j := by rw [List.take_take, Nat.min_eq_left h]
  rw [e] at hf
  rw [List.all_eq_false] at hf ⊢
  obtain ⟨x, hx, hb⟩ := hf
  exact ⟨x, List.mem_of_mem_take hx, hb⟩

set_option maxHeartbeats 4000000 in
set_option maxRecDepth 100000 in
theorem rread_any {w : World} {s : RS} (h : RefAt w s) (addr n : Int) (ha0 : 0 ≤ addr) (ha1 : addr ≤ 18446744073709551615) (hn : n ≤ 9223372036854775807) :
    Calls Try.prog 31 #[.pointer (some ⟨s.m, 0, none⟩), .int .u64 addr, .int .i64 n] w (RReadPost w s addr n) := by
  by_cases hneg : n < 0
  · have HF : Hid (RReadPost w s addr n (.returned (.tuple #[.slice none 0 0, .int .i64 2])) w) := ⟨_, by unfold rreadE; rw [if_pos hneg], by unfold rreadV; rw [if_pos (by omega)]; exact OwnAt.nil _ _, Touch.refl _ _⟩
    clear h
    go_enter Try.func31, Try.ntmps31
    go_wp2
    go_ret2
    exact HF.out
  by_cases h0 : n = 0
  · subst h0
    have HF : Hid (RReadPost w s addr 0 (.returned (.tuple #[.slice none 0 0, .int .i64 0])) w) := ⟨_, rfl, OwnAt.nil _ _, Touch.refl _ _⟩
    clear h
    go_enter Try.func31, Try.ntmps31
    go_wp2
    go_ret2
    exact HF.out
  obtain ⟨z, rfl⟩ : ∃ z : Nat, n = z := ⟨n.toNat, by omega⟩
  have hb0 : ((z : Int) == 0) = false := by simpa using h0
  have HEV : Hid (rreadE s.all addr z = rlookE s.all addr z ∧ rreadV s.all addr z = rtell s.all addr z) := ⟨by unfold rreadE; rw [if_neg hneg, if_neg h0], by unfold rreadV; rw [if_neg (by omega)]⟩
  have HO := toHid (of_any h addr ha0 ha1)
  have hz1 : 1 ≤ z := by omega
  clear h0
  have HERR : accI s.all addr z canR = none → ∀ w', Touch [] w w' → Hid (RReadPost w s addr z (.returned (.tuple #[.slice none 0 0, .int .i64 10])) w') := fun he w' ht => by
    refine ⟨.slice none 0 0, ?_, ?_, ht⟩
    · rw [HEV.out.1]; unfold rlookE; rw [he]
    · rw [HEV.out.2]; unfold rtell; rw [he]; exact OwnAt.nil _ _
  rcases ofV_cases s.all addr with ⟨hf, hov⟩ | ⟨i, r, hi, hr, hrd, hrh, hf, hov⟩
  · rw [hov] at HO
    have HFF := toHid (HERR (by unfold accI; rw [hf]))
    clear h HERR hov hf
    go_enter Try.func31, Try.ntmps31
    go_wp2_with (go_at_call 34; refine HO.out.mono ?_; rintro e w1 ⟨rfl, ht1⟩; have H1 := HFF.out w1 ht1; clear ht1)
    go_ret2
    exact H1.out
  · rw [hov] at HO
    have hok := h.ok r (List.mem_of_getElem? hr)
    have hin : r.base ≤ addr ∧ addr < r.base + (r.bytes.length : Int) := by
      unfold rhasB at hrh
      simp only [Bool.and_eq_true, decide_eq_true_eq] at hrh
      exact hrh.2
    obtain ⟨at_, hat⟩ : ∃ at_ : Nat, addr - r.base = at_ := ⟨(addr - r.base).toNat, by omega⟩
    rw [hat] at HO
    obtain ⟨b, hg⟩ := h.some_g hi
    have hmany := h.many
    have hsz := hok.size2
    have hsl := hok.setLen
    have hp0 := hok.perm0
    have hp1 := hok.perm1
    have HM := toHid h
    have HG := toHid hg
    have HR := toHid hr
    by_cases hfit : (z : Int) ≤ (r.bytes.length : Int) - at_
    · by_cases hp : r.perm % 2 = 0
      · have HFF := toHid (HERR (by unfold accI; rw [hf]; simp only [hrd]; rw [if_neg]; simp [canR, hp]))
        have hpb : (r.perm % 2 == 0) = true := by simpa using hp
        clear h HERR hov hf hok hg hr hrd hrh
        go_enter Try.func31, Try.ntmps31
        go_wp2_with fail
        refine HO.out.mono ?_
        rintro e w1 ⟨rfl, ht1⟩
        have hM := HM.out.touch ht1 (by simp)
        have hc0 := hM.c0
        rw [HG.out] at hc0
        simp only [slV_some] at hc0
        have c2 := hM.at HG.out HR.out (j := 2) (by omega) rfl
        have c3 := hM.at HG.out HR.out (j := 3) (by omega) rfl
        have H1 := HFF.out w1 ht1
        clear ht1 hM HFF HO
        go_wp2
        go_ret2
        exact H1.out
      · have hpb : (r.perm % 2 == 0) = false := by simpa using hp
        have e : accI s.all addr z canR = some i := by unfold accI; rw [hf]; simp only [hrd]; rw [if_pos ⟨by omega, by simp [canR, hp]⟩]
        have HE : Hid (rlookE s.all addr z = (if ((r.set.drop at_).take z).all (fun x => x) = true then 0 else 11) ∧ rtell s.all addr z = if ((r.set.drop at_).take z).all (fun x => x) = true then (r.bytes.drop at_).take z else []) := by
          refine ⟨?_, ?_⟩
          · unfold rlookE; rw [e]; simp only [hrd, hat, Int.toNat_natCast]
          · unfold rtell; rw [e]; simp only [hrd, hat, Int.toNat_natCast]
        clear h hov hf hok hg hr hrd hrh e hp HERR
        go_enter Try.func31, Try.ntmps31
        go_wp2_with fail
        refine HO.out.mono ?_
        rintro e w1 ⟨rfl, ht1⟩
        have hM := HM.out.touch ht1 (by simp)
        have hc0 := hM.c0
        rw [HG.out] at hc0
        simp only [slV_some] at hc0
        have c2 := hM.at HG.out HR.out (j := 2) (by omega) rfl
        have c3 := hM.at HG.out HR.out (j := 3) (by omega) rfl
        have HT := toHid ht1
        clear ht1 hM HO
        go_wp2_with fail
        go_loopw [10, 11] (fun o t w' => ∃ k : Nat, k ≤ z ∧ t = .int .i64 ((at_ + k : Nat) : Int) ∧ Hid (OwnAt w w' o ((r.bytes.drop at_).take k) ∧ Touch [] w w' ∧ ((r.set.drop at_).take k).all (fun x => x) = true)) (fun _ t _ => at_ + z - (intOf t).toNat)
        case atStart => exact ⟨0, by omega, by first | rfl | go_num, OwnAt.nil _ _, HT.out, rfl⟩
        case round =>
          rename_i wr
          obtain ⟨k, hk, rfl, HI⟩ := hrel
          clear hc0 c2 c3
          have hM := HM.out.touch HI.out.2.1 (by simp)
          have hc0 := hM.c0
          rw [HG.out] at hc0
          simp only [slV_some] at hc0
          have c3 := hM.at HG.out HR.out (j := 3) (by omega) rfl
          have c4 := hM.at HG.out HR.out (j := 4) (by omega) rfl
          by_cases hlt : k < z
          · obtain ⟨rest1, hB1⟩ := (hM.regs r (List.mem_of_getElem? HR.out)).bytes
            obtain ⟨rest2, hB2⟩ := (hM.regs r (List.mem_of_getElem? HR.out)).set
            obtain ⟨sv, hsv⟩ : ∃ sv, r.set[at_ + k]? = some sv := ⟨_, List.getElem?_eq_getElem (by omega)⟩
            obtain ⟨bv, hbv⟩ : ∃ bv, r.bytes[at_ + k]? = some bv := ⟨_, List.getElem?_eq_getElem (by omega)⟩
            have d1 : wr.cell? ⟨r.bb, at_ + k, none⟩ = some (.int .u8 bv) := hB1.cell (by rw [List.getElem?_append_left (by simp; omega), List.getElem?_map, hbv]; rfl)
            have d2 : wr.cell? ⟨r.sb, at_ + k, none⟩ = some (.bool sv) := hB2.cell (by rw [List.getElem?_append_left (by simp; omega), List.getElem?_map, hsv]; rfl)
            have hall : ((r.set.drop at_).take (k + 1)).all (fun x => x) = (((r.set.drop at_).take k).all (fun x => x) && sv) := by
              rw [all_take_succ _ _ (by simp; omega), List.getElem_drop]
              congr 1
              exact (List.getElem?_eq_some_iff.1 hsv).2
            have htk : (r.bytes.drop at_).take (k + 1) = (r.bytes.drop at_).take k ++ [bv] := by
              rw [List.take_succ_eq_append_getElem (by simp; omega), List.getElem_drop]
              congr 2
              exact (List.getElem?_eq_some_iff.1 hbv).2
            obtain ⟨v', w', hrr, ho, ht⟩ := HI.out.1.push HI.out.2.1 bv (by simp; omega)
            have HRR := toHid hrr
            have HO2 := toHid (And.intro ho (And.intro ht (And.intro hall htk)))
            clear hrr ho ht hall htk hB1 hB2 hM hsv hbv
            cases sv with
            | true =>
              go_wp2_with (at_builtin; refine Lib.wpList_append_run _ rfl _ _ _ _ rfl _ _ rfl rfl _ _ HRR.out ?_)
              refine ⟨⟨k + 1, by omega, by go_num, by rw [HO2.out.2.2.2]; exact HO2.out.1, HO2.out.2.1, by rw [HO2.out.2.2.1, HI.out.2.2]; rfl⟩, by simp [intOf]; omega⟩
            | false =>
              have HF : Hid (RReadPost w s addr z (.returned (.tuple #[.slice none 0 0, .int .i64 11])) wr) := by
                have hno : ((r.set.drop at_).take z).all (fun x => x) = false := all_take_mono _ (k + 1) z (by omega) (by rw [HO2.out.2.2.1, HI.out.2.2]; rfl)
                refine ⟨.slice none 0 0, ?_, ?_, HI.out.2.1⟩
                · rw [HEV.out.1, HE.out.1, hno]; rfl
                · rw [HEV.out.2, HE.out.2, hno]; exact OwnAt.nil _ _
              go_wp2
              go_ret2
              exact HF.out
          · have hkz : k = z := by omega
            rw [hkz] at HI
            clear hkz
            have HF : ∀ o, OwnAt w wr o ((r.bytes.drop at_).take z) → Hid (RReadPost w s addr z (.returned (.tuple #[o, .int .i64 0])) wr) := fun o ho => by
              refine ⟨o, ?_, ?_, HI.out.2.1⟩
              · rw [HEV.out.1, HE.out.1, HI.out.2.2]; rfl
              · rw [HEV.out.2, HE.out.2, HI.out.2.2]; exact ho
            have H9 := HF _ HI.out.1
            clear HF
            go_wp2
            go_ret2
            exact H9.out
    · have HFF := toHid (HERR (by unfold accI; rw [hf]; simp only [hrd]; rw [if_neg]; rw [hat]; exact fun hh => hfit hh.1))
      clear h HERR hov hf hok hg hr hrd hrh
      go_enter Try.func31, Try.ntmps31
      go_wp2_with fail
      refine HO.out.mono ?_
      rintro e w1 ⟨rfl, ht1⟩
      have hM := HM.out.touch ht1 (by simp)
      have hc0 := hM.c0
      rw [HG.out] at hc0
      simp only [slV_some] at hc0
      have c2 := hM.at HG.out HR.out (j := 2) (by omega) rfl
      have c3 := hM.at HG.out HR.out (j := 3) (by omega) rfl
      have H1 := HFF.out w1 ht1
      clear ht1 hM HFF HO
      go_wp2
      go_ret2
      exact H1.out
end Go.Proofs.Ytbidppeelophhaa
