/-
  What line answers.
-/
import Derived.Test.YthlfnmjefpdjgaaGreatDoorPrintF
import Derived.Lib.ItoaLen
namespace Go.Proofs.YthlfnmjefpdjgaaGreatDoor
open Go.RowKit

/-- A plain instruction, as its line wants it: known, its registers below 11. -/
structure In.Pl (i : In) : Prop where
  ok : i.Ok
  known : knownB i.op = true
  dst : i.dst ≤ 10
  src : i.src ≤ 10
def tailP (i nx : In) (fs : List Nat) : Bs := fs.flatMap fun f => 32 :: printF f i nx
/-- The line of a plain instruction. -/
def lineP (i nx : In) : Bs := nameOfP i ++ tailP i nx (fieldsP i.op)

theorem nDigits_le20 (u : Nat) (h : u < 18446744073709551616) : Lib.nDigits u ≤ 20 := by
  rcases (by omega : u = 0 ∨ 1 ≤ u) with rfl | h1
  · rw [Lib.nDigits_small (by omega)]; omega
  · have := Lib.numDigits_eq u h1 h
    split at this <;> omega
theorem printF_len (f : Nat) (i nx : In) (p : i.Pl) : (printF f i nx).length ≤ 22 := by
  have hr : ∀ r : Int, 0 ≤ r → r ≤ 10 → (regT r).length ≤ 22 := fun r h0 h1 => by
    unfold regT
    rw [List.length_cons, Lib.decDigits_length]
    have := nDigits_le20 r.toNat (by omega)
    omega
  have h1 := hr i.dst p.ok.dst0 p.dst
  have h2 := hr i.src p.ok.src0 p.src
  have h3 := Lib.itoa_length_le i.imm (by have := p.ok.imm0; omega) (by have := p.ok.imm1; omega)
  have h4 := Lib.itoa_length_le i.off (by have := p.ok.off0; omega) (by have := p.ok.off1; omega)
  unfold printF
  repeat' split
  all_goals first | omega | skip
  rw [Lib.decDigits_length]
  have := nDigits_le20 (longI i nx).toNat (by unfold longI; omega)
  omega
theorem at0_len (l : List Bs) (hl : ∀ s ∈ l, s.length ≤ 4) (k : Int) : (at0 l k).length ≤ 4 := by
  unfold at0
  cases h : l[k.toNat]? with
  | none => simp
  | some s => exact hl s (List.mem_of_getElem? h)
theorem nameOfP_len (i : In) : (nameOfP i).length ≤ 8 := by
  have h1 := at0_len _ names_len.1 (i.op % 8 - 1)
  have h2 := at0_len _ names_len.2.1 (i.op / 8 % 4)
  have h3 := at0_len _ names_len.2.2.1 (i.op / 16)
  have h4 := at0_len _ names_len.2.2.2 (i.op / 16)
  unfold nameOfP
  repeat' split
  all_goals ((try simp only [List.length_append, List.length_cons, List.length_nil]); omega)
theorem tailP_len (i nx : In) (p : i.Pl) : ∀ fs : List Nat, (tailP i nx fs).length ≤ 23 * fs.length
  | [] => by simp [tailP]
  | f :: fs => by
    have := tailP_len i nx p fs
    have := printF_len f i nx p
    unfold tailP at *
    simp only [List.flatMap_cons, List.length_append, List.length_cons]
    omega
theorem tailP_take (i nx : In) (fs : List Nat) (k f : Nat) (h : fs[k]? = some f) : tailP i nx (fs.take (k + 1)) = tailP i nx (fs.take k) ++ (32 :: printF f i nx) := by
  unfold tailP
  rw [List.take_add_one, h]
  simp [List.flatMap_append]
theorem fields_long (op : Int) (h : 5 ∈ fieldsP op) : op % 8 = 0 := by
  revert h
  unfold fieldsP jumpF
  repeat' split
  all_goals first | (intro; assumption) | (intro h; simp at h)
theorem fields_le3 (op : Int) : (fieldsP op).length ≤ 3 := by
  unfold fieldsP jumpF
  repeat' split
  all_goals simp

theorem print_any (f : Nat) (hf : f ≤ 5) (b off n c : Nat) (i nx : In) (w : World) (hE : Env w) (hn : 1 ≤ n) (hi : InC w b off i) (p : i.Pl) (hbw : b < w.heap.size) (h5 : f = 5 → 2 ≤ n ∧ InC w b (off + 5) nx) :
    Calls Tryz.prog 32 #[.int .i64 (f : Int), .slice (some ⟨b, off, none⟩) n c] w fun e w' => e = .returned (.string ⟨(printF f i nx).toArray⟩) ∧ Touch [] w w' := by
  rcases (by omega : f = 0 ∨ f = 1 ∨ f = 2 ∨ f = 3 ∨ f = 4 ∨ f = 5) with rfl | rfl | rfl | rfl | rfl | rfl
  · exact print_0 b off n c i w hE hn hi p.ok p.dst
  · exact print_1 b off n c i w hE hn hi p.ok p.src
  · cases hb : regB i.op with
    | true =>
      have : printF 2 i nx = regT i.src := by simp [printF, hb]
      rw [this]
      exact print_2r b off n c i w hE hn hi p.ok p.src hb
    | false =>
      have : printF 2 i nx = Lib.itoa i.imm := by simp [printF, hb]
      rw [this]
      exact print_2i b off n c i w hE hn hi p.ok hb
  · exact print_3 b off n c i w hE hn hi p.ok
  · exact print_4 b off n c i w hE hn hi p.ok
  · exact print_5 b off n c i nx w hE (h5 rfl).1 hi (h5 rfl).2 hbw

set_option maxRecDepth 100000 in
set_option maxHeartbeats 8000000 in
theorem line_any (b off n c : Nat) (i nx : In) (w : World) (hE : Env w) (hn : 1 ≤ n) (hi : InC w b off i) (p : i.Pl) (hbw : b < w.heap.size) (h5 : i.op % 8 = 0 → 2 ≤ n ∧ InC w b (off + 5) nx) :
    Calls Tryz.prog 15 #[.slice (some ⟨b, off, none⟩) n c] w fun e w' => e = .returned (.string ⟨(lineP i nx).toArray⟩) ∧ Touch [] w w' := by
  have hn0 : (0 : Int) < (n : Int) := by omega
  have HI := toHid hi
  have H5 := toHid h5
  have HNM := toHid (nameOf_any i p.ok p.known w hE)
  obtain ⟨c0, c1, c2, c3, c4⟩ := hi
  simp only [In.v] at HNM
  clear h5
  go_enter Tryz.func15, Tryz.ntmps15
  go_wp2_with fail
  refine Calls.mono HNM ?_
  rintro e w1 ⟨rfl, ht1⟩
  clear c0 c1 c2 c3 c4
  have c0 := ((show InC w b off i from HI).touch ht1 (by simp)).c0
  have HT1 := toHid ht1
  clear ht1
  go_wp2_with fail
  refine (fieldsOf_any i.op w1 p.ok.op0 p.ok.op1).mono ?_
  rintro e w2 ⟨a, rfl, hF, ht2, hNa⟩
  have HT2 := toHid ((show Touch [] w w1 from HT1).trans ht2 (by simp))
  have HF := toHid hF
  clear ht2 hF hNa c0 HT1
  have HFS : Hid (∀ f ∈ fieldsP i.op, f ≤ 5) := toHid (fields_bd i.op)
  have HFL : Hid (5 ∈ fieldsP i.op → i.op % 8 = 0) := toHid (fields_long i.op)
  have hfl := fields_le3 i.op
  have HLP : Hid (lineP i nx = nameOfP i ++ tailP i nx (fieldsP i.op)) := toHid rfl
  have hnl := nameOfP_len i
  generalize fieldsP i.op = fs at *
  go_wp2_with fail
  go_loopw [3, 16] (fun t k' w' => ∃ k : Nat, k ≤ fs.length ∧ t = .string ⟨(nameOfP i ++ tailP i nx (fs.take k)).toArray⟩ ∧ k' = .int .i64 (k : Int) ∧ Hid (FldAt w' a fs) ∧ Hid (Touch [] w w')) (fun _ t _ => fs.length - (intOf t).toNat)
  case atStart => exact ⟨0, by omega, by simp [tailP], rfl, HF, HT2⟩
  case round =>
    obtain ⟨k, hk, rfl, rfl, HF, HT⟩ := hrel
    by_cases hlt : k < fs.length
    · obtain ⟨f, hf⟩ : ∃ f, fs[k]? = some f := ⟨_, List.getElem?_eq_getElem hlt⟩
      have hmem := List.mem_of_getElem? hf
      have hf5 := (show ∀ f ∈ fs, f ≤ 5 from HFS) f hmem
      obtain ⟨N, rfl, hBN⟩ : ∃ N, a = some ⟨N, 0, none⟩ ∧ Blk wr N (fs.map fun f : Nat => .int .i64 (f : Int)) 70 := by
        rcases (show FldAt wr a fs from HF) with ⟨h, _⟩ | h
        · rw [h] at hlt; simp at hlt
        · exact h
      have cN := hBN.cell (i := k) (v := .int .i64 (f : Int)) (by simp [hf])
      have hTk := (show Touch [] w wr from HT)
      have HP := toHid (print_any f hf5 b off n c i nx wr (hE.touch0 HT) hn ((show InC w b off i from HI).touch HT (by simp)) p (Nat.lt_of_lt_of_le hbw hTk.size) (fun e => by
        subst e
        have := (show i.op % 8 = 0 → _ from H5) ((show 5 ∈ fs → i.op % 8 = 0 from HFL) hmem)
        exact ⟨this.1, this.2.touch hTk (by simp)⟩))
      have hpl := printF_len f i nx p
      have htl := tailP_len i nx p (fs.take k)
      have hsl : (nameOfP i ++ tailP i nx (fs.take k)).length ≤ 100 := by
        rw [List.length_append]
        rw [List.length_take] at htl
        omega
      have HTK := toHid (tailP_take i nx fs k f hf)
      clear hTk hBN hf hmem htl
      generalize hTx : nameOfP i ++ tailP i nx (fs.take k) = T at *
      generalize hPx : printF f i nx = pf at *
      have l1 : ¬ 9223372036854775807 < 1 + List.length pf := by omega
      have l2 : ¬ 9223372036854775807 < List.length T + (1 + List.length pf) := by omega
      have HTX := toHid hTx
      clear hTx hPx
      go_wp2_with fail
      refine Calls.mono HP ?_
      rintro e w3 ⟨rfl, ht3⟩
      go_wp2
      go_roundw
      case rel =>
        refine ⟨k + 1, by omega, ?_, by go_num, toHid ((show FldAt wr _ fs from HF).touch ht3 (by simp)), toHid ((show Touch [] w wr from HT).trans ht3 (by simp))⟩
        rw [show tailP i nx (fs.take (k + 1)) = _ from HTK, ← List.append_assoc, show nameOfP i ++ tailP i nx (fs.take k) = T from HTX]
        exact congrArg Value.string ((congrArg ((⟨T.toArray⟩ : ByteArray) ++ ·) (ba_append [32] pf)).trans (ba_append T (32 :: pf)))
      case measure => simp [intOf]; omega
    · obtain rfl : k = fs.length := by omega
      have HLP2 := toHid (show lineP i nx = nameOfP i ++ tailP i nx (fs.take fs.length) by rw [List.take_length]; exact HLP)
      generalize nameOfP i ++ tailP i nx (fs.take fs.length) = T at *
      go_wp2
      go_ret
      exact ⟨by rw [show lineP i nx = T from HLP2]; rfl, HT⟩
end Go.Proofs.YthlfnmjefpdjgaaGreatDoor
