/-
  The reference memory: Load, Store, Poke.
-/
import Derived.Test.YtkfmhabplcikiaaMRef5
namespace Go.Proofs.Ytkfmhabplcikiaa.Mem
open Go.RowKit

theorem accI_some {w : World} {s : RS} (h : RefAt w s) {addr n : Int} {p : Int → Bool} {i : Nat} (he : accI s.all addr n p = some i) :
    ∃ r, s.all[i]? = some r ∧ s.all.getD i RReg.zero = r ∧ RRegOk r ∧ r.base ≤ addr ∧ n ≤ (r.bytes.length : Int) - (addr - r.base) ∧ p r.perm = true := by
  unfold accI at he
  cases hf : s.all.findIdx? (rhasB · addr) with
  | none => rw [hf] at he; cases he
  | some j =>
    rw [hf] at he
    simp only at he
    have hf2 := hf
    rw [List.findIdx?_eq_some_iff_getElem] at hf2
    obtain ⟨hi, h1, _⟩ := hf2
    split at he
    · rename_i hc
      injection he with he
      subst he
      refine ⟨_, rgetD_of hi, rfl, h.ok _ (rgetD_mem hi), ?_, hc.1, hc.2⟩
      have h2 : rhasB (s.all.getD j RReg.zero) addr = true := by
        rw [List.getD_eq_getElem?_getD, List.getElem?_eq_getElem hi]
        simpa using h1
      unfold rhasB at h2
      simp only [Bool.and_eq_true, decide_eq_true_eq] at h2
      exact h2.2.1
    · cases he

theorem rtell_ok {w : World} {s : RS} (h : RefAt w s) {addr : Int} {z : Nat} (he : rlookE s.all addr z = 0) : (rtell s.all addr z).length = z ∧ ∀ x ∈ rtell s.all addr z, 0 ≤ x ∧ x ≤ 255 := by
  unfold rlookE at he
  unfold rtell
  cases ha : accI s.all addr z canR with
  | none => rw [ha] at he; simp at he
  | some i =>
    rw [ha] at he
    simp only at he ⊢
    obtain ⟨r, hr, hrd, hok, hb, hn, _⟩ := accI_some h ha
    rw [hrd] at he ⊢
    split at he
    · rename_i hall
      rw [if_pos hall]
      refine ⟨by simp; omega, fun x hx => hok.byte x (List.mem_of_mem_drop (List.mem_of_mem_take hx))⟩
    · exact absurd he (by decide)

def rloadE (all : List RReg) (addr n : Int) : Int := if wordB n = true then rlookE all addr n else 2
def rloadV (all : List RReg) (addr n : Int) : Int := if wordB n = true ∧ rlookE all addr n = 0 then num (fun j => (rtell all addr n).getD j 0) n.toNat else 0

def rstoreE (all : List RReg) (addr n : Int) : Int := if wordB n = true then (match accI all addr n canW with
  | none => 10
  | some _ => 0) else 2
def rstoreAll (all : List RReg) (addr n v : Int) : List RReg := if wordB n = true then rwriteAll all addr ((List.range n.toNat).map (byteOf v)) else all

set_option maxHeartbeats 2000000 in
set_option maxRecDepth 100000 in
theorem rstore_any {w : World} {s : RS} (h : RefAt w s) (addr n v : Int) (ha0 : 0 ≤ addr) (ha1 : addr ≤ 18446744073709551615) (hv0 : 0 ≤ v) (hv1 : v ≤ 18446744073709551615) :
    Calls Try.prog 19 #[.pointer (some ⟨s.m, 0, none⟩), .int .u64 addr, .int .i64 n, .int .u64 v] w fun e w' => e = .returned (.int .i64 (rstoreE s.all addr n)) ∧ RefStep w s (rstoreAll s.all addr n v) w' := by
  cases hw : wordB n with
  | false =>
    have HV : Hid (rstoreE s.all addr n = 2 ∧ RefStep w s (rstoreAll s.all addr n v) w) := by
      refine ⟨by unfold rstoreE; rw [hw]; rfl, ?_⟩
      unfold rstoreAll
      rw [hw]
      exact RefStep.same h (Touch.refl _ _)
    have q : ¬ n = 1 ∧ ¬ n = 2 ∧ ¬ n = 4 ∧ ¬ n = 8 := by
      refine ⟨?_, ?_, ?_, ?_⟩ <;> (intro e; subst e; exact absurd hw (by decide))
    have q1 : (n != 1) = true := by simpa using q.1
    have q2 : (n != 2) = true := by simpa using q.2.1
    have q4 : (n != 4) = true := by simpa using q.2.2.1
    have q8 : (n != 8) = true := by simpa using q.2.2.2
    clear h hw q
    go_enter Try.func19, Try.ntmps19
    go_wp2
    go_ret
    exact ⟨by rw [HV.out.1]; rfl, HV.out.2⟩
  | true =>
    rcases word_of hw with rfl | rfl | rfl | rfl
    · have HB := toHid (rbytes_any v 1 w hv0 hv1 (by decide))
      have HM := toHid h
      clear h hw
      go_enter Try.func19, Try.ntmps19
      go_wp2_with fail
      refine HB.out.mono ?_
      rintro e w1 ⟨⟨x1, rfl, hx1⟩, ht1⟩
      have hM := HM.out.touch ht1 (by simp)
      have hArg : ArgOut w1 s.blocks x1 ((List.range 1).map (byteOf v)) := by
        obtain ⟨g, cap, rfl, hrow, hg⟩ := hx1
        refine ⟨_, cap, rfl, fun y hy => ?_, by simp, fun _ => ?_⟩
        · obtain ⟨j, _, rfl⟩ := List.mem_map.1 hy
          exact byteOf_bd v j
        · cases g with
          | none => have h1 : cap = 0 := hrow.2.2.2; have h2 := hrow.2.1; simp at h2; omega
          | some b =>
            obtain ⟨_, _, _, rest, hB, _⟩ := hrow
            refine ⟨b, 0, rfl, fun hb => ?_, fun j u hj => ?_⟩
            · have := HM.out.lt b hb
              have := hg b rfl
              omega
            · rw [Nat.zero_add]
              refine hB.cell ?_
              rw [List.getElem?_append_left (List.getElem?_eq_some_iff.1 hj).1]
              exact hj
      have HW := toHid (rwrite_any hM addr x1 ((List.range 1).map (byteOf v)) ha0 ha1 hArg)
      have HT := toHid ht1
      have HE : Hid (rwriteE s.all addr ((List.range 1).map (byteOf v)) = rstoreE s.all addr 1) := rfl
      clear hM hArg ht1 HB hx1
      go_wp2_with fail
      refine HW.out.mono ?_
      rintro e w2 ⟨rfl, q1, q2, q3⟩
      have H9 : Hid (RefStep w s (rstoreAll s.all addr 1 v) w2) := ⟨q1, q2, HT.out.nil.trans q3 (fun x hx => Or.inl hx)⟩
      rw [HE.out]
      clear q1 q2 q3 HW
      generalize hx : rstoreE s.all addr 1 = x
      have HX := toHid hx
      clear hx
      go_wp2
      go_ret
      exact ⟨by rw [HX.out]; rfl, H9.out⟩
    · have HB := toHid (rbytes_any v 2 w hv0 hv1 (by decide))
      have HM := toHid h
      clear h hw
      go_enter Try.func19, Try.ntmps19
      go_wp2_with fail
      refine HB.out.mono ?_
      rintro e w1 ⟨⟨x1, rfl, hx1⟩, ht1⟩
      have hM := HM.out.touch ht1 (by simp)
      have hArg : ArgOut w1 s.blocks x1 ((List.range 2).map (byteOf v)) := by
        obtain ⟨g, cap, rfl, hrow, hg⟩ := hx1
        refine ⟨_, cap, rfl, fun y hy => ?_, by simp, fun _ => ?_⟩
        · obtain ⟨j, _, rfl⟩ := List.mem_map.1 hy
          exact byteOf_bd v j
        · cases g with
          | none => have h1 : cap = 0 := hrow.2.2.2; have h2 := hrow.2.1; simp at h2; omega
          | some b =>
            obtain ⟨_, _, _, rest, hB, _⟩ := hrow
            refine ⟨b, 0, rfl, fun hb => ?_, fun j u hj => ?_⟩
            · have := HM.out.lt b hb
              have := hg b rfl
              omega
            · rw [Nat.zero_add]
              refine hB.cell ?_
              rw [List.getElem?_append_left (List.getElem?_eq_some_iff.1 hj).1]
              exact hj
      have HW := toHid (rwrite_any hM addr x1 ((List.range 2).map (byteOf v)) ha0 ha1 hArg)
      have HT := toHid ht1
      have HE : Hid (rwriteE s.all addr ((List.range 2).map (byteOf v)) = rstoreE s.all addr 2) := rfl
      clear hM hArg ht1 HB hx1
      go_wp2_with fail
      refine HW.out.mono ?_
      rintro e w2 ⟨rfl, q1, q2, q3⟩
      have H9 : Hid (RefStep w s (rstoreAll s.all addr 2 v) w2) := ⟨q1, q2, HT.out.nil.trans q3 (fun x hx => Or.inl hx)⟩
      rw [HE.out]
      clear q1 q2 q3 HW
      generalize hx : rstoreE s.all addr 2 = x
      have HX := toHid hx
      clear hx
      go_wp2
      go_ret
      exact ⟨by rw [HX.out]; rfl, H9.out⟩
    · have HB := toHid (rbytes_any v 4 w hv0 hv1 (by decide))
      have HM := toHid h
      clear h hw
      go_enter Try.func19, Try.ntmps19
      go_wp2_with fail
      refine HB.out.mono ?_
      rintro e w1 ⟨⟨x1, rfl, hx1⟩, ht1⟩
      have hM := HM.out.touch ht1 (by simp)
      have hArg : ArgOut w1 s.blocks x1 ((List.range 4).map (byteOf v)) := by
        obtain ⟨g, cap, rfl, hrow, hg⟩ := hx1
        refine ⟨_, cap, rfl, fun y hy => ?_, by simp, fun _ => ?_⟩
        · obtain ⟨j, _, rfl⟩ := List.mem_map.1 hy
          exact byteOf_bd v j
        · cases g with
          | none => have h1 : cap = 0 := hrow.2.2.2; have h2 := hrow.2.1; simp at h2; omega
          | some b =>
            obtain ⟨_, _, _, rest, hB, _⟩ := hrow
            refine ⟨b, 0, rfl, fun hb => ?_, fun j u hj => ?_⟩
            · have := HM.out.lt b hb
              have := hg b rfl
              omega
            · rw [Nat.zero_add]
              refine hB.cell ?_
              rw [List.getElem?_append_left (List.getElem?_eq_some_iff.1 hj).1]
              exact hj
      have HW := toHid (rwrite_any hM addr x1 ((List.range 4).map (byteOf v)) ha0 ha1 hArg)
      have HT := toHid ht1
      have HE : Hid (rwriteE s.all addr ((List.range 4).map (byteOf v)) = rstoreE s.all addr 4) := rfl
      clear hM hArg ht1 HB hx1
      go_wp2_with fail
      refine HW.out.mono ?_
      rintro e w2 ⟨rfl, q1, q2, q3⟩
      have H9 : Hid (RefStep w s (rstoreAll s.all addr 4 v) w2) := ⟨q1, q2, HT.out.nil.trans q3 (fun x hx => Or.inl hx)⟩
      rw [HE.out]
      clear q1 q2 q3 HW
      generalize hx : rstoreE s.all addr 4 = x
      have HX := toHid hx
      clear hx
      go_wp2
      go_ret
      exact ⟨by rw [HX.out]; rfl, H9.out⟩
    · have HB := toHid (rbytes_any v 8 w hv0 hv1 (by decide))
      have HM := toHid h
      clear h hw
      go_enter Try.func19, Try.ntmps19
      go_wp2_with fail
      refine HB.out.mono ?_
      rintro e w1 ⟨⟨x1, rfl, hx1⟩, ht1⟩
      have hM := HM.out.touch ht1 (by simp)
      have hArg : ArgOut w1 s.blocks x1 ((List.range 8).map (byteOf v)) := by
        obtain ⟨g, cap, rfl, hrow, hg⟩ := hx1
        refine ⟨_, cap, rfl, fun y hy => ?_, by simp, fun _ => ?_⟩
        · obtain ⟨j, _, rfl⟩ := List.mem_map.1 hy
          exact byteOf_bd v j
        · cases g with
          | none => have h1 : cap = 0 := hrow.2.2.2; have h2 := hrow.2.1; simp at h2; omega
          | some b =>
            obtain ⟨_, _, _, rest, hB, _⟩ := hrow
            refine ⟨b, 0, rfl, fun hb => ?_, fun j u hj => ?_⟩
            · have := HM.out.lt b hb
              have := hg b rfl
              omega
            · rw [Nat.zero_add]
              refine hB.cell ?_
              rw [List.getElem?_append_left (List.getElem?_eq_some_iff.1 hj).1]
              exact hj
      have HW := toHid (rwrite_any hM addr x1 ((List.range 8).map (byteOf v)) ha0 ha1 hArg)
      have HT := toHid ht1
      have HE : Hid (rwriteE s.all addr ((List.range 8).map (byteOf v)) = rstoreE s.all addr 8) := rfl
      clear hM hArg ht1 HB hx1
      go_wp2_with fail
      refine HW.out.mono ?_
      rintro e w2 ⟨rfl, q1, q2, q3⟩
      have H9 : Hid (RefStep w s (rstoreAll s.all addr 8 v) w2) := ⟨q1, q2, HT.out.nil.trans q3 (fun x hx => Or.inl hx)⟩
      rw [HE.out]
      clear q1 q2 q3 HW
      generalize hx : rstoreE s.all addr 8 = x
      have HX := toHid hx
      clear hx
      go_wp2
      go_ret
      exact ⟨by rw [HX.out]; rfl, H9.out⟩
end Go.Proofs.Ytkfmhabplcikiaa.Mem
