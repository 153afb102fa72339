/-
  What must be answered ahead of everything else.
-/
import Derived.Test.YtkfmhabplcikiaaGSolo
import Derived.Test.YtkfmhabplcikiaaMNil
import Derived.Laws.BytesArg
namespace Go.Proofs.Ytkfmhabplcikiaa.Ring
open Go.RowKit
attribute [local go_sem ↓] Go.wp_at_zero Go.wp_at_succ

theorem KR.At.conv {w : World} {k : KR} (h : k.At w) : (convert 60 9 (.slice (some ⟨k.b, 0, none⟩) k.bs.length k.cap)).run Try.prog w = .ok (.string (strOfNums k.bs)) w :=
  run_convert_bytes_arg w 60 5 Try.underlying60 Try.underlying5 k.b 0 k.bs.length k.cap k.bs rfl (fun i hi => by rw [Nat.zero_add]; exact h.cell i hi) 9 Try.underlying9
theorem GSolo.submit {w0 w : World} {x : RG} {s : Mem.MS} (h : GSolo w0 w x s) (hl : x.l.length ≤ 1000) {n i : Nat} (hn : x.recs[n]? = some (some i)) :
    Calls Try.prog 14 #[.pointer (some ⟨x.r, 0, none⟩), .int .u64 (placeI n)] w fun e w' => e = .returned (.int .i64 0) ∧ ∃ (r : Mem.Reg) (s' : Mem.MS) (g' : Option Nat) (cap' : Nat) (k : KR), r ∈ s.rs ∧ r.id = i ∧ k.bs = r.bytes ∧ s'.rs = Mem.killRs s.rs i ∧ s'.next = s.next ∧ s'.m = s.m ∧ GStep w w' x { x with recs := x.recs.set n none, g := g', cap := cap', l := x.l ++ [k] } s s' ∧ GSolo w0 w' { x with recs := x.recs.set n none, g := g', cap := cap', l := x.l ++ [k] } s' := by
  refine (gsubmit_any h.b hl (placeI n)).mono ?_
  rintro e w' ⟨he, hst⟩
  have hf := numI_some hn (addr := placeI n) rfl
  rw [if_neg (by rw [hf]; omega)] at he
  rcases hst with ⟨hne, _⟩ | ⟨n', i', r, s', g', cap', k, _, hf', hn', hr, hid, hk, hrs, hnx, hst⟩
  · rw [hf] at hne; omega
  · obtain rfl : n' = n := by rw [hf] at hf'; omega
    obtain rfl : i' = i := by rw [hn] at hn'; injection hn' with hn'; injection hn' with hn'; exact hn'.symm
    exact ⟨he, r, s', g', cap', k, hr, hid, hk, hrs, hnx, hst.m, hst, h.killed hn hrs rfl hst⟩
theorem GSolo.discard {w0 w : World} {x : RG} {s : Mem.MS} (h : GSolo w0 w x s) {n i : Nat} (hn : x.recs[n]? = some (some i)) :
    Calls Try.prog 17 #[.pointer (some ⟨x.r, 0, none⟩), .int .u64 (placeI n)] w fun e w' => e = .returned (.int .i64 0) ∧ ∃ s' : Mem.MS, s'.rs = Mem.killRs s.rs i ∧ s'.next = s.next ∧ s'.m = s.m ∧ GStep w w' x { x with recs := x.recs.set n none } s s' ∧ GSolo w0 w' { x with recs := x.recs.set n none } s' := by
  refine (gdiscard_any h.b (placeI n)).mono ?_
  rintro e w' ⟨he, hst⟩
  have hf := numI_some hn (addr := placeI n) rfl
  rw [if_neg (by rw [hf]; omega)] at he
  rcases hst with ⟨hne, _⟩ | ⟨n', i', s', _, hf', hn', hrs, hnx, hst⟩
  · rw [hf] at hne; omega
  · obtain rfl : n' = n := by rw [hf] at hf'; omega
    obtain rfl : i' = i := by rw [hn] at hn'; injection hn' with hn'; injection hn' with hn'; exact hn'.symm
    exact ⟨he, s', hrs, hnx, hst.m, hst, h.killed hn hrs rfl hst⟩
/-- All closed. -/
def closed : List (Option Nat) := [none, none, none, none, none, none, none, none]
theorem closed_none (n i : Nat) : closed[n]? ≠ some (some i) := by
  match n with
  | 0 | 1 | 2 | 3 | 4 | 5 | 6 | 7 => simp [closed]
  | n + 8 => simp [closed]
theorem closed_num (addr : Int) : numI closed addr = -1 := by
  rcases numI_cases closed addr with ⟨h, _⟩ | ⟨n, i, _, _, h, _⟩
  · exact h
  · exact absurd h (closed_none n i)
theorem GSolo.submit_no {w0 w : World} {x : RG} {s : Mem.MS} (h : GSolo w0 w x s) (hl : x.l.length ≤ 1000) (hc : x.recs = closed) (addr : Int) :
    Calls Try.prog 14 #[.pointer (some ⟨x.r, 0, none⟩), .int .u64 addr] w fun e w' => e = .returned (.int .i64 14) ∧ GStep w w' x x s s ∧ GSolo w0 w' x s := by
  refine (gsubmit_any h.b hl addr).mono ?_
  rintro e w' ⟨he, hst⟩
  have hf := closed_num addr
  rw [← hc] at hf
  rw [if_pos hf] at he
  rcases hst with ⟨_, hst⟩ | ⟨n', i', r, s', g', cap', k, _, hf', _⟩
  · exact ⟨he, hst, h.step hst h.only⟩
  · rw [hf] at hf'; omega
theorem GSolo.discard_no {w0 w : World} {x : RG} {s : Mem.MS} (h : GSolo w0 w x s) (hc : x.recs = closed) (addr : Int) :
    Calls Try.prog 17 #[.pointer (some ⟨x.r, 0, none⟩), .int .u64 addr] w fun e w' => e = .returned (.int .i64 14) ∧ GStep w w' x x s s ∧ GSolo w0 w' x s := by
  refine (gdiscard_any h.b addr).mono ?_
  rintro e w' ⟨he, hst⟩
  have hf := closed_num addr
  rw [← hc] at hf
  rw [if_pos hf] at he
  rcases hst with ⟨_, hst⟩ | ⟨n', i', s', _, hf', _⟩
  · exact ⟨he, hst, h.step hst h.only⟩
  · rw [hf] at hf'; omega
theorem kill_one (r : Mem.Reg) : Mem.killRs [r] r.id = [] := by
  unfold Mem.killRs
  simp
theorem str5 : strOfNums [5, 0, 0, 0] = ⟨#[5, 0, 0, 0]⟩ := by decide
set_option maxHeartbeats 4000000 in
set_option maxRecDepth 100000 in
theorem first_any (w : World) : Calls Try.prog 6 #[] w fun e w' => e = .returned (.bool true) ∧ Touch [] w w' := by
  go_enter Try.func6, Try.ntmps6
  go_wp2_with fail
  refine (Mem.newM_any _).mono ?_
  rintro e w1 ⟨rfl, hM, ht1⟩
  have H1 := toHid (gnew_any hM)
  have HM := toHid (And.intro hM ht1)
  clear hM ht1
  go_wp2_with fail
  refine Calls.mono H1.out ?_
  rintro e w2 ⟨rfl, hB, ht2⟩
  have hS : GSolo w w2 (RG.new w1.heap.size w.heap.size) (Mem.MS.new w.heap.size) := GSolo.new hB rfl HM.out.2 ht2 (fun b hb => by
    have : b = w.heap.size := by simpa [Mem.MS.blocks, Mem.MS.new] using hb
    omega)
  have hp0 : placeI ((0 : Nat) : Int) = 68719476736 := rfl
  have H2 := toHid (hS.reserve (n := 0) (by omega) rfl rfl (size := 4) (by omega) (by omega) (by simp [Mem.MS.new]) (by simp [Mem.MS.new]))
  rw [hp0] at H2
  clear hB ht2 hS H1
  go_wp2_with fail
  refine Calls.mono H2.out ?_
  rintro e w3 ⟨rfl, s3, r, i, hi, hrs, hnx, hnr, hm, _, hS⟩
  have hrs1 : s3.rs = [r] := by rw [hrs]; simp [Mem.MS.new]
  have H3 := toHid (Mem.store_any hS.b.mem 68719476736 1 5 (by omega) (by omega) (by omega))
  have hm3 : s3.m = w.heap.size := hm
  rw [hm3] at H3
  have HS := toHid (And.intro hS (And.intro hrs1 hnr))
  clear hS hrs hrs1 hnx hnr hm hm3 H2
  go_wp2_with fail
  refine Calls.mono H3.out ?_
  rintro e w4 hp
  have hv := hp.1
  subst hv
  have hS4 := HS.out.1.store hp
  obtain ⟨_, hrs1, hnr⟩ := HS.out
  have hb : r.base = 68719476736 := hnr.hbase
  have hbs : r.bytes = [0, 0, 0, 0] := hnr.hbytes
  have hst := store_one (r := r) (off := 0) hnr.hperm (by rw [hbs]; simp) 5
  rw [hb] at hst
  have hrs4 : Mem.storeRs s3.rs 68719476736 1 5 = [Mem.layR r 0 [Mem.byteOf 5 0]] := by rw [hrs1]; exact hst.2
  rw [hrs4] at hS4
  have hid : r.id = ((0 : Nat) : Int) := hnr.hid
  have H4 := toHid (hS4.submit (by simp [RG.new]) (n := 0) (i := 0) rfl)
  rw [hp0] at H4
  have HB : Hid ((Mem.layR r 0 [Mem.byteOf 5 0]).bytes = [5, 0, 0, 0] ∧ (Mem.layR r 0 [Mem.byteOf 5 0]).id = ((0 : Nat) : Int)) := ⟨by
    unfold Mem.layR
    rw [hbs]
    rfl, hid⟩
  clear hS4 hp hrs1 hnr hb hbs hst hrs4 hid H3 HS
  go_wp2_with fail
  refine Calls.mono H4.out ?_
  rintro e w5 ⟨rfl, r5, s5, g5, cap5, k5, hr5, _, hk5, _, _, _, _, hS5⟩
  simp only [List.mem_singleton] at hr5
  subst hr5
  rw [HB.out.1] at hk5
  have H5 := toHid (gout_any hS5.b.ring (by simp [RG.new]))
  have HS5 := toHid (And.intro hS5 hk5)
  clear hS5 hk5 H4
  go_wp2_with fail
  refine Calls.mono H5.out ?_
  rintro e w6 ⟨g6, cap6, l6, rfl, hR, hbs, ht6, _⟩
  have hl1 : ∃ k6, l6 = [k6] ∧ k6.bs = [5, 0, 0, 0] := by
    have h1 : l6.map KR.bs = [k5.bs] := hbs
    have h2 : l6.length = 1 := by simpa using congrArg List.length h1
    obtain ⟨k6, rfl⟩ := List.length_eq_one_iff.1 h2
    simp at h1
    exact ⟨k6, rfl, by rw [h1, HS5.out.2]⟩
  obtain ⟨k6, rfl, hk6⟩ := hl1
  obtain ⟨b6, rfl, hc6⟩ := hR.cell (j := 0) rfl
  have hA := (hR.keys k6 (by simp)).1
  have hcv : (convert 60 9 (.slice (some ⟨k6.b, 0, none⟩) 4 k6.cap)).run Try.prog w6 = .ok (.string ⟨#[5, 0, 0, 0]⟩) w6 := by
    have h9 := hA.conv
    rw [hk6, str5] at h9
    exact h9
  unfold KR.v at hc6
  rw [hk6] at hc6
  have H6 := toHid (gopen_any (HS5.out.1.b.ring.still ht6))
  have HT := toHid (HS5.out.1.touch.trans ht6 (by simp))
  have ho : openN ((RG.new w1.heap.size w.heap.size).recs.set 0 (some (Mem.MS.new w.heap.size).next) |>.set 0 none) = 0 := rfl
  have hst : ((⟨#[5, 0, 0, 0]⟩ : ByteArray) == ⟨#[5, 0, 0, 0]⟩) = true := by decide
  clear hR hbs ht6 hA hk6 H5 HS5 HB
  unfold slV
  simp only [Option.map_some, List.length_singleton] at *
  go_wp2_with fail
  refine Calls.mono H6.out ?_
  rintro e w7 ⟨rfl, ht7⟩
  have HF := toHid (HT.out.trans ht7 (by simp))
  clear ht7 H6 HT
  rw [ho]
  go_wp2
  go_ret
  exact ⟨rfl, HF.out⟩
end Go.Proofs.Ytkfmhabplcikiaa.Ring
