/-
  What the package-level variables hold, and what the words of a line are in memory; what next, regNext, natural, reg, signed and unsigned answer.
-/
import Derived.Test.YthlfnmjefpdjgaaGreatDoorNums
import Derived.Test.YthlfnmjefpdjgaaGreatDoorDecode
namespace Go.Proofs.YthlfnmjefpdjgaaGreatDoor
open Go.RowKit

def accN : List Bs := [[108, 100, 120], [115, 116], [115, 116, 120]]
def sizN : List Bs := [[119], [104], [98], [100, 119]]
def aluN : List Bs := [[97, 100, 100], [115, 117, 98], [109, 117, 108], [100, 105, 118], [111, 114], [97, 110, 100], [108, 115, 104], [114, 115, 104], [110, 101, 103], [109, 111, 100], [120, 111, 114], [109, 111, 118], [97, 114, 115, 104]]
def jmpN : List Bs := [[106, 97], [106, 101, 113], [106, 103, 116], [106, 103, 101], [106, 115, 101, 116], [106, 110, 101], [106, 115, 103, 116], [106, 115, 103, 101], [99, 97, 108, 108], [101, 120, 105, 116], [106, 108, 116], [106, 108, 101], [106, 115, 108, 116], [106, 115, 108, 101]]

/-- What the package-level variables hold. -/
structure Env (w : World) : Prop where
  acc : ∀ (i : Nat) (s : Bs), accN[i]? = some s → w.cell? ⟨0, i, none⟩ = some (str s)
  siz : ∀ (i : Nat) (s : Bs), sizN[i]? = some s → w.cell? ⟨1, i, none⟩ = some (str s)
  alu : ∀ (i : Nat) (s : Bs), aluN[i]? = some s → w.cell? ⟨2, i, none⟩ = some (str s)
  jmp : ∀ (i : Nat) (s : Bs), jmpN[i]? = some s → w.cell? ⟨3, i, none⟩ = some (str s)
  mx : ∃ m, w.cell? ⟨4, 0, none⟩ = some (.int .i64 m)
  pow : Lib.TabIs Tryz.prog w "internal/strconv.uint64pow10" .u64 Lib.pow10Tab
  syn : ∃ tp p, w.var? Tryz.prog "strconv.ErrSyntax" = some #[.iface tp p]
  ran : ∃ tp p, w.var? Tryz.prog "strconv.ErrRange" = some #[.iface tp p]
  size : 12 ≤ w.heap.size
theorem var_touch {S : List Nat} {w w' : World} (h : Touch S w w') (hS : ∀ x ∈ S, 12 ≤ x) (hz : 12 ≤ w.heap.size) (n : String) (g : Nat) (hg : Tryz.prog.globalNamed n = some g) (h12 : g < 12) : w'.var? Tryz.prog n = w.var? Tryz.prog n := by
  unfold World.var?
  rw [hg]
  have := h.block g (by omega) (fun m => by have := hS g m; omega)
  simp [this]
theorem Env.touch {S : List Nat} {w w' : World} (e : Env w) (h : Touch S w w') (hS : ∀ x ∈ S, 12 ≤ x) : Env w' where
  acc := fun i s hi => h.cell (e.acc i s hi) (fun m => by have := hS _ m; simp at this)
  siz := fun i s hi => h.cell (e.siz i s hi) (fun m => by have := hS _ m; simp at this)
  alu := fun i s hi => h.cell (e.alu i s hi) (fun m => by have := hS _ m; simp at this)
  jmp := fun i s hi => h.cell (e.jmp i s hi) (fun m => by have := hS _ m; simp at this)
  mx := let ⟨m, hm⟩ := e.mx; ⟨m, h.cell hm (fun m => by have := hS _ m; simp at this)⟩
  pow := (var_touch h hS e.size _ 5 (by kernel_rfl) (by omega)).trans e.pow
  syn := let ⟨tp, p, hp⟩ := e.syn; ⟨tp, p, (var_touch h hS e.size _ 8 (by kernel_rfl) (by omega)).trans hp⟩
  ran := let ⟨tp, p, hp⟩ := e.ran; ⟨tp, p, (var_touch h hS e.size _ 9 (by kernel_rfl) (by omega)).trans hp⟩
  size := Nat.le_trans e.size h.size
theorem Env.touch0 {w w' : World} (e : Env w) (h : Touch [] w w') : Env w' := e.touch h (by simp)

/-- The first word, or the empty one. -/
def hd (ws : List Bs) : Bs := ws.headD []
def tl (ws : List Bs) : List Bs := ws.tail
/-- The words of a line, as the struct at block b holds what is left of it. -/
def WS (w : World) (b : Nat) (ws : List Bs) (bad : Bool) : Prop := 12 ≤ b ∧ ∃ rest : Bs, Blk w b [str rest, .bool bad] 81 ∧ words rest = ws ∧ rest.length ≤ 1073741824
theorem WS.touch {S : List Nat} {w w' : World} {b : Nat} {ws : List Bs} {bad : Bool} (h : WS w b ws bad) (ht : Touch S w w') (hb : b ∉ S) : WS w' b ws bad := by
  obtain ⟨h12, rest, h1, h2, h3⟩ := h
  exact ⟨h12, rest, ht.blk h1 hb, h2, h3⟩
theorem str_def (l : Bs) : str l = .string ⟨l.toArray⟩ := rfl
theorem below_touch {w w' : World} (h : Below w.heap.size w w') : Touch [] w w' := Below.touch h

theorem mk_size (t : Bs) : (ByteArray.mk t.toArray).size = t.length := by simp [ByteArray.size]
theorem cut_call (c : UInt8) (t : Bs) (w : World) (hE : Env w) (ht : t.length ≤ 1073741824) :
    Calls Tryz.prog 20 #[.string ⟨t.toArray⟩, .string ⟨#[c]⟩] w fun e w' => e = .returned (.tuple #[.string ⟨(upTo c t).toArray⟩, .string ⟨(past c t).toArray⟩, .bool (decide (c ∈ t))]) ∧ ∃ n, w' = w.drewN n := by
  obtain ⟨m, hm⟩ := hE.mx
  have h := Tryz.strings_Cut ⟨t.toArray⟩ ⟨#[c]⟩ m w (by rw [mk_size]; omega) hm
  simpa only [cut_one, cutC] using h
theorem nextW_eq (l : Bs) : nextW l = (upTo 32 (Lib.trimLeftB l 32), past 32 (Lib.trimLeftB l 32)) := by
  unfold nextW
  rw [cut_one]
  rfl

set_option maxHeartbeats 400000 in
theorem next_any (b : Nat) (ws : List Bs) (bad : Bool) (w : World) (hE : Env w) (h : WS w b ws bad) :
    Calls Tryz.prog 40 #[.pointer (some ⟨b, 0, none⟩)] w fun e w' => e = .returned (.string ⟨(hd ws).toArray⟩) ∧ WS w' b (tl ws) bad ∧ Touch [b] w w' ∧ (hd ws).length ≤ 1073741824 := by
  obtain ⟨h12, rest, hb, rfl, hl⟩ := h
  have hn := next_words rest
  have hnl := next_length rest
  have htl := trim_length rest 32
  rw [nextW_eq] at hn hnl
  have HN := toHid hn
  clear hn
  have c0 := hb.cell (i := 0) (v := str rest) rfl
  have f0 := hb.frozen 0
  unfold str at c0
  go_enter Tryz.func40, Tryz.ntmps40
  go_wp2_with (first | (go_at_call 65; refine (Tryz.strings_TrimLeft_one _ 32 (by decide) _).mono ?_; rintro e w1 ⟨rfl, rfl⟩) | fail)
  refine (cut_call 32 _ _ hE (by omega)).mono ?_
  rintro e w1 ⟨rfl, n, rfl⟩
  go_wp2
  go_ret
  have hn : upTo 32 (Lib.trimLeftB rest 32) = hd (words rest) ∧ words (past 32 (Lib.trimLeftB rest 32)) = tl (words rest) := HN
  refine ⟨by rw [← hn.1]; rfl, ⟨h12, past 32 (Lib.trimLeftB rest 32), (hb.drewN n).setCell 0 _, hn.2, by omega⟩, ((Touch.refl _ _).drewN n).setCell _ _ (Or.inl (by simp)), by rw [← hn.1]; omega⟩

set_option maxHeartbeats 400000 in
theorem regNext_any (b : Nat) (ws : List Bs) (bad : Bool) (w : World) (h : WS w b ws bad) :
    Calls Tryz.prog 69 #[.pointer (some ⟨b, 0, none⟩)] w fun e w' => e = .returned (.bool (Lib.hasPrefix (hd ws) [114])) ∧ w' = w := by
  obtain ⟨h12, rest, hb, rfl, hl⟩ := h
  have HP := toHid (prefix_next rest 114)
  have c0 := hb.cell (i := 0) (v := str rest) rfl
  unfold str at c0
  go_enter Tryz.func69, Tryz.ntmps69
  go_wp2_with (first | (go_at_call 65; refine (Tryz.strings_TrimLeft_one _ 32 (by decide) _).mono ?_; rintro e w1 ⟨rfl, rfl⟩) | (go_at_call 87; refine (Tryz.strings_HasPrefix _ _ _).mono ?_; rintro e w1 ⟨rfl, rfl⟩) | fail)
  go_ret
  exact ⟨ret_bool HP, rfl⟩
end Go.Proofs.YthlfnmjefpdjgaaGreatDoor
