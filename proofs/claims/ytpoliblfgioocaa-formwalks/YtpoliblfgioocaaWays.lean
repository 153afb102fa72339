/-
  Where an instruction leads (the reference's To), and which numbers are in a list (In), pure and walked.
-/
import Derived.Test.YtpoliblfgioocaaKinds
namespace Go.Proofs.Ytpoliblfgioocaa
open Go.RowKit

/-- Where the instruction at a slot leads. -/
def toP (i : In) (k : Int) : Option Int :=
  if i.op = 133 ∧ i.src = 1 then some (k + 1 + i.imm) else if i.op = 133 ∨ i.op = 149 ∨ (i.op % 8 ≠ 5 ∧ i.op % 8 ≠ 6) then none else some (k + 1 + i.off)
def ToPost (w : World) (r : Option Int) (e : Ending) (w' : World) : Prop := Touch [] w w' ∧ match r with
  | none => e = .returned (.tuple #[.int .i64 0, .bool false])
  | some t => e = .returned (.tuple #[.int .i64 t, .bool true])

/-- A list of numbers in memory. -/
def NumsAt (w : World) (g : Option Nat) (cap : Nat) (l : List Nat) : Prop := RowAt w 3 1 g l.length cap (l.map fun x : Nat => Value.int .i64 (x : Int))
theorem NumsAt.touch {S : List Nat} {w w' : World} {g : Option Nat} {cap : Nat} {l : List Nat} (h : NumsAt w g cap l) (ht : Touch S w w') (hg : ∀ b, g = some b → b ∉ S) : NumsAt w' g cap l := RowAt.touch h ht hg
theorem NumsAt.cell {w : World} {b cap : Nat} {l : List Nat} (h : NumsAt w (some b) cap l) {k x : Nat} (hk : l[k]? = some x) : w.cell? ⟨b, k, none⟩ = some (.int .i64 (x : Int)) := by
  obtain ⟨_, _, _, rest, hb, _⟩ := h
  refine hb.cell ?_
  have hl := (List.getElem?_eq_some_iff.1 hk).1
  rw [List.getElem?_append_left (by simpa using hl), List.getElem?_map, hk]
  rfl
theorem NumsAt.none {w : World} {cap : Nat} {l : List Nat} (h : NumsAt w none cap l) : l = [] := by
  obtain ⟨_, h2, _, h4⟩ := h
  have : cap = 0 := h4
  exact List.eq_nil_of_length_eq_zero (by omega)

set_option maxRecDepth 100000 in
set_option maxHeartbeats 1600000 in
theorem in_any (g : Option Nat) (cap : Nat) (l : List Nat) (x : Int) (w : World) (hl : l.length ≤ 4611686018427387904) (h : NumsAt w g cap l) :
    Calls Try.prog 14 #[slV g l.length cap, .int .i64 x] w fun e w' => e = .returned (.bool (decide (∃ y ∈ l, (y : Int) = x))) ∧ w' = w := by
  have HN := toHid h
  obtain ⟨r, hr⟩ : ∃ r, r = decide (∃ y ∈ l, (y : Int) = x) := ⟨_, rfl⟩
  rw [← hr]
  have HR := toHid hr
  clear hr h
  simp only [slV]
  go_enter Try.func14, Try.ntmps14
  go_wp2_with fail
  go_loopw [9] (fun kv w' => ∃ k : Nat, kv = .int .i64 (k : Int) ∧ k ≤ l.length ∧ Hid (∀ y ∈ l.take k, (y : Int) ≠ x) ∧ w' = w) (fun kv _ => l.length - (intOf kv).toNat)
  case atStart => exact ⟨0, rfl, by omega, toHid (by simp), rfl⟩
  case round =>
    obtain ⟨k, rfl, hk, HK, rfl⟩ := hrel
    by_cases hkl : k < l.length
    · obtain ⟨y, hy⟩ : ∃ y, l[k]? = some y := ⟨_, List.getElem?_eq_getElem hkl⟩
      cases g with
      | none =>
        have := (show NumsAt wr none cap l from HN).none
        rw [this] at hkl
        simp at hkl
      | some b =>
        have hc := (show NumsAt wr (some b) cap l from HN).cell hy
        have k1 : (k : Int) < (l.length : Int) := by omega
        simp only [Option.map_some]
        by_cases he : (y : Int) = x
        · have b1 : ((y : Int) == x) = true := by simpa using he
          have hrt : r = true := (show r = _ from HR).trans (decide_eq_true ⟨y, List.mem_of_getElem? hy, he⟩)
          clear he
          go_wp2
          go_ret
          exact ⟨ret_bool hrt.symm, rfl⟩
        · have b1 : ((y : Int) == x) = false := by simpa using he
          have HK2 : Hid (∀ z ∈ l.take (k + 1), (z : Int) ≠ x) := toHid (by
            rw [List.take_add_one, hy]
            intro z hz
            simp only [Option.toList_some, List.mem_append, List.mem_singleton] at hz
            rcases hz with hz | rfl
            · exact (show ∀ y ∈ l.take k, (y : Int) ≠ x from HK) z hz
            · exact he)
          clear he HK
          go_wp2
          go_roundw
          case rel => exact ⟨k + 1, by go_num, by omega, HK2, trivial⟩
          case measure => simp [intOf]; try omega
    · have k1 : ¬ (k : Int) < (l.length : Int) := by omega
      have hrf : r = false := (show r = _ from HR).trans (decide_eq_false (by
        rintro ⟨y, hy, he⟩
        exact (show ∀ y ∈ l.take k, (y : Int) ≠ x from HK) y (by rw [List.take_of_length_le (by omega)]; exact hy) he))
      clear HK
      go_wp2
      go_ret
      exact ⟨ret_bool rfl, rfl⟩

theorem to_call (i : In) (k : Int) (h : i.op = 133) (h1 : i.src = 1) : toP i k = some (k + 1 + i.imm) := by rw [toP, if_pos ⟨h, h1⟩]
theorem to_not (i : In) (k : Int) (h0 : ¬ (i.op = 133 ∧ i.src = 1)) (h : i.op = 133 ∨ i.op = 149 ∨ (i.op % 8 ≠ 5 ∧ i.op % 8 ≠ 6)) : toP i k = none := by rw [toP, if_neg h0, if_pos h]
theorem to_jump (i : In) (k : Int) (h : ¬ i.op = 133) (h1 : ¬ i.op = 149) (h2 : i.op % 8 = 5 ∨ i.op % 8 = 6) : toP i k = some (k + 1 + i.off) := by
  rw [toP, if_neg (fun e => h e.1), if_neg (fun e => by omega)]
set_option maxRecDepth 100000 in
set_option maxHeartbeats 3200000 in
theorem to_in (b off n c k : Nat) (i : In) (w : World) (hk : k < n) (hn : n ≤ 4611686018427387904) (ok : i.Ok)
    (c0 : w.cell? ⟨b, off + k * 5, none⟩ = some (.int .u8 i.op)) (c1 : w.cell? ⟨b, off + k * 5 + 1, none⟩ = some (.int .u8 i.dst)) (c2 : w.cell? ⟨b, off + k * 5 + 2, none⟩ = some (.int .u8 i.src))
    (c3 : w.cell? ⟨b, off + k * 5 + 3, none⟩ = some (.int .i16 i.off)) (c4 : w.cell? ⟨b, off + k * 5 + 4, none⟩ = some (.int .i32 i.imm)) :
    Calls Try.prog 16 #[.slice (some ⟨b, off, none⟩) n c, .int .i64 (k : Int)] w (ToPost w (toP i k)) := by
  have q0 := ok.op0
  have q1 := ok.op1
  have m0 := ok.imm0
  have m1 := ok.imm1
  have f0 := ok.off0
  have f1 := ok.off1
  clear ok
  obtain ⟨op, dst, src, of, im⟩ := i
  simp only at *
  have z1 : (k : Int) < (n : Int) := by omega
  have hT := toHid ((Touch.refl [] w).alloc (.cells #[.int .u8 op, .int .u8 dst, .int .u8 src, .int .i16 of, .int .i32 im] 31))
  by_cases h1 : op = 133
  · subst h1
    by_cases h2 : src = 1
    · subst h2
      have hp := toHid (to_call ⟨133, dst, 1, of, im⟩ k rfl rfl)
      generalize toP ⟨133, dst, 1, of, im⟩ k = r at *
      go_enter Try.func16, Try.ntmps16
      go_wp2
      refine bodyPost_ret (v := .tuple #[.int .i64 ((k : Int) + 1 + im), .bool true]) (by simp [results, Try.results16, go_sem]) rfl ⟨hT, ?_⟩
      rw [show r = _ from hp]
    · have b2 : (src == 1) = false := by simpa using h2
      have hp := toHid (to_not ⟨133, dst, src, of, im⟩ k (fun e => h2 e.2) (Or.inl rfl))
      generalize toP ⟨133, dst, src, of, im⟩ k = r at *
      clear h2
      go_enter Try.func16, Try.ntmps16
      go_wp2
      refine bodyPost_ret (v := .tuple #[.int .i64 0, .bool false]) (by simp [results, Try.results16, go_sem]) rfl ⟨hT, ?_⟩
      rw [show r = _ from hp]
  · have b1 : (op == 133) = false := by simpa using h1
    by_cases h2 : op = 149
    · subst h2
      have hp := toHid (to_not ⟨149, dst, src, of, im⟩ k (fun e => h1 e.1) (Or.inr (Or.inl rfl)))
      generalize toP ⟨149, dst, src, of, im⟩ k = r at *
      go_enter Try.func16, Try.ntmps16
      go_wp2
      refine bodyPost_ret (v := .tuple #[.int .i64 0, .bool false]) (by simp [results, Try.results16, go_sem]) rfl ⟨hT, ?_⟩
      rw [show r = _ from hp]
    · have b2 : (op == 149) = false := by simpa using h2
      by_cases h5 : op % 8 = 5
      · have hp := toHid (to_jump ⟨op, dst, src, of, im⟩ k h1 h2 (Or.inl h5))
        generalize toP ⟨op, dst, src, of, im⟩ k = r at *
        go_enter Try.func16, Try.ntmps16
        go_wp2
        refine bodyPost_ret (v := .tuple #[.int .i64 ((k : Int) + 1 + of), .bool true]) (by simp [results, Try.results16, go_sem]) rfl ⟨hT, ?_⟩
        rw [show r = _ from hp]
      · by_cases h6 : op % 8 = 6
        · have hp := toHid (to_jump ⟨op, dst, src, of, im⟩ k h1 h2 (Or.inr h6))
          generalize toP ⟨op, dst, src, of, im⟩ k = r at *
          go_enter Try.func16, Try.ntmps16
          go_wp2
          refine bodyPost_ret (v := .tuple #[.int .i64 ((k : Int) + 1 + of), .bool true]) (by simp [results, Try.results16, go_sem]) rfl ⟨hT, ?_⟩
          rw [show r = _ from hp]
        · have hp := toHid (to_not ⟨op, dst, src, of, im⟩ k (fun e => h1 e.1) (Or.inr (Or.inr ⟨h5, h6⟩)))
          have b5 : (op % 8 != 5) = true := by simpa using h5
          have b6 : (op % 8 != 6) = true := by simpa using h6
          generalize toP ⟨op, dst, src, of, im⟩ k = r at *
          go_enter Try.func16, Try.ntmps16
          go_wp2
          refine bodyPost_ret (v := .tuple #[.int .i64 0, .bool false]) (by simp [results, Try.results16, go_sem]) rfl ⟨hT, ?_⟩
          rw [show r = _ from hp]
end Go.Proofs.Ytpoliblfgioocaa
