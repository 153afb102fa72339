/-
  lay: an instruction's eight bytes.
-/
import Derived.Test.YtjioemkapmchpaaDecode
namespace Go.Proofs.Ytjioemkapmchpaa
open Go.RowKit

/-- Byte j of a slot. -/
def In.byte (i : In) (j : Nat) : Int := match j with
  | 0 => i.op
  | 1 => i.src % 16 * 16 + i.dst % 16
  | 2 => i.off % 65536 % 256
  | 3 => i.off % 65536 / 256
  | 4 => i.imm % 4294967296 % 256
  | 5 => i.imm % 4294967296 / 256 % 256
  | 6 => i.imm % 4294967296 / 65536 % 256
  | _ => i.imm % 4294967296 / 16777216
def In.bytes (i : In) : List Value := [.int .u8 (i.byte 0), .int .u8 (i.byte 1), .int .u8 (i.byte 2), .int .u8 (i.byte 3), .int .u8 (i.byte 4), .int .u8 (i.byte 5), .int .u8 (i.byte 6), .int .u8 (i.byte 7)]
theorem In.bytes_length (i : In) : i.bytes.length = 8 := rfl

theorem set8 (cs : List Value) (o : Nat) (h : o + 8 ≤ cs.length) (v0 v1 v2 v3 v4 v5 v6 v7 : Value) :
    (((((((cs.set o v0).set (o + 1) v1).set (o + 2) v2).set (o + 3) v3).set (o + 4) v4).set (o + 5) v5).set (o + 6) v6).set (o + 7) v7 = cs.take o ++ [v0, v1, v2, v3, v4, v5, v6, v7] ++ cs.drop (o + 8) := by
  rw [Ytjioemkapmchpaa.set5 cs o (by omega)]
  have hl : (cs.take o).length = o := by simp; omega
  obtain ⟨a0, a1, a2, rest, hd⟩ : ∃ a0 a1 a2 rest, cs.drop (o + 5) = a0 :: a1 :: a2 :: rest := by
    have : 3 ≤ (cs.drop (o + 5)).length := by rw [List.length_drop]; omega
    match cs.drop (o + 5), this with
    | a0 :: a1 :: a2 :: rest, _ => exact ⟨a0, a1, a2, rest, rfl⟩
  have hr : cs.drop (o + 8) = rest := by rw [show o + 8 = o + 5 + 3 by omega, ← List.drop_drop, hd]; rfl
  rw [hr, hd]
  generalize cs.take o = pre at *
  rw [set_at (pre ++ [v0, v1, v2, v3, v4]) _ a0 v5 _ (by simp; omega)]
  rw [show (pre ++ [v0, v1, v2, v3, v4]) ++ v5 :: a1 :: a2 :: rest = (pre ++ [v0, v1, v2, v3, v4, v5]) ++ a1 :: a2 :: rest by simp, set_at (pre ++ [v0, v1, v2, v3, v4, v5]) _ a1 v6 _ (by simp; omega)]
  rw [show (pre ++ [v0, v1, v2, v3, v4, v5]) ++ v6 :: a2 :: rest = (pre ++ [v0, v1, v2, v3, v4, v5, v6]) ++ a2 :: rest by simp, set_at (pre ++ [v0, v1, v2, v3, v4, v5, v6]) _ a2 v7 _ (by simp; omega)]
  simp

theorem Blk.set8 {w : World} {b : Nat} {cs : List Value} {t : TypeId} (h : Blk w b cs t) (o : Nat) (ho : o + 8 ≤ cs.length) (v0 v1 v2 v3 v4 v5 v6 v7 : Value) :
    Blk ((((((((w.setCell ⟨b, o, none⟩ v0).setCell ⟨b, o + 1, none⟩ v1).setCell ⟨b, o + 2, none⟩ v2).setCell ⟨b, o + 3, none⟩ v3).setCell ⟨b, o + 4, none⟩ v4).setCell ⟨b, o + 5, none⟩ v5).setCell ⟨b, o + 6, none⟩ v6).setCell ⟨b, o + 7, none⟩ v7) b
      (cs.take o ++ [v0, v1, v2, v3, v4, v5, v6, v7] ++ cs.drop (o + 8)) t := by
  rw [← Ytjioemkapmchpaa.set8 cs o ho]
  exact (((((((h.setCell o v0).setCell (o + 1) v1).setCell (o + 2) v2).setCell (o + 3) v3).setCell (o + 4) v4).setCell (o + 5) v5).setCell (o + 6) v6).setCell (o + 7) v7
theorem Touch.set8 {S : List Nat} {a w : World} (h : Touch S a w) (b o : Nat) (v0 v1 v2 v3 v4 v5 v6 v7 : Value) (hp : b ∈ S ∨ a.heap.size ≤ b) :
    Touch S a ((((((((w.setCell ⟨b, o, none⟩ v0).setCell ⟨b, o + 1, none⟩ v1).setCell ⟨b, o + 2, none⟩ v2).setCell ⟨b, o + 3, none⟩ v3).setCell ⟨b, o + 4, none⟩ v4).setCell ⟨b, o + 5, none⟩ v5).setCell ⟨b, o + 6, none⟩ v6).setCell ⟨b, o + 7, none⟩ v7) :=
  (((((((h.setCell _ _ hp).setCell _ _ hp).setCell _ _ hp).setCell _ _ hp).setCell _ _ hp).setCell _ _ hp).setCell _ _ hp).setCell _ _ hp

theorem pack_all : ∀ s d : Fin 256, bits .or .u8 (IntKind.u8.wrap ((s.val : Int) * 16)) ((d.val : Int) % 16) = (s.val : Int) % 16 * 16 + (d.val : Int) % 16 := by decide +kernel
theorem pack (s d : Int) (s0 : 0 ≤ s) (s1 : s ≤ 255) (d0 : 0 ≤ d) (d1 : d ≤ 255) : bits .or .u8 (IntKind.u8.wrap (s * 16)) (d % 16) = s % 16 * 16 + d % 16 := by
  obtain ⟨x, rfl⟩ := Int.eq_ofNat_of_zero_le s0
  obtain ⟨y, rfl⟩ := Int.eq_ofNat_of_zero_le d0
  exact pack_all ⟨x, by omega⟩ ⟨y, by omega⟩

theorem lay_vals (i : In) (ok : i.Ok) : i.bytes = [.int .u8 i.op, .int .u8 (bits .or .u8 (i.src * 16 % 256) (i.dst % 16)), .int .u8 (IntKind.u16.wrap i.off % 256), .int .u8 (IntKind.u16.wrap i.off / 256 % 256), .int .u8 (i.imm % 256),
    .int .u8 (i.imm % 4294967296 / 256 % 256), .int .u8 (i.imm % 4294967296 / 65536 % 256), .int .u8 (i.imm % 4294967296 / 16777216)] := by
  have h1 := pack i.src i.dst ok.src0 ok.src1 ok.dst0 ok.dst1
  rw [IntKind.wrap_u8] at h1
  rw [h1, IntKind.wrap_u16]
  have e3 : i.off % 65536 / 256 % 256 = i.off % 65536 / 256 := by omega
  have e4 : i.imm % 4294967296 % 256 = i.imm % 256 := by omega
  rw [e3, ← e4]
  rfl

def LayPost (w : World) (b off : Nat) (i : In) (cs : List Value) (e : Ending) (w' : World) : Prop := e = .returned (.tuple #[]) ∧ Touch [b] w w' ∧ Blk w' b (cs.take off ++ i.bytes ++ cs.drop (off + 8)) 5

set_option maxHeartbeats 1000000 in
set_option maxRecDepth 100000 in
theorem lay_any (b off n c : Nat) (i : In) (cs : List Value) (w : World) (ok : i.Ok) (hn : 8 ≤ n) (hn2 : n ≤ 9223372036854775807) (hB : Blk w b cs 5) (hl : off + 8 ≤ cs.length) :
    Calls Try.prog 28 #[.slice (some ⟨b, off, none⟩) n c, i.v] w (LayPost w b off i cs) := by
  have hlt := hB.lt
  have hB1 := hB.alloc (.cells #[.int .u8 i.op, .int .u8 i.dst, .int .u8 i.src, .int .i16 i.off, .int .i32 i.imm] 30)
  have hx : ∀ j, j < 8 → ∃ v, (w.alloc (.cells #[.int .u8 i.op, .int .u8 i.dst, .int .u8 i.src, .int .i16 i.off, .int .i32 i.imm] 30)).cell? ⟨b, off + j, none⟩ = some v := fun j hj => ⟨_, hB1.cellN (by omega)⟩
  obtain ⟨x0, c0⟩ := hx 0 (by omega)
  obtain ⟨x1, c1⟩ := hx 1 (by omega)
  obtain ⟨x2, c2⟩ := hx 2 (by omega)
  obtain ⟨x3, c3⟩ := hx 3 (by omega)
  obtain ⟨x4, c4⟩ := hx 4 (by omega)
  obtain ⟨x5, c5⟩ := hx 5 (by omega)
  obtain ⟨x6, c6⟩ := hx 6 (by omega)
  obtain ⟨x7, c7⟩ := hx 7 (by omega)
  simp only [Nat.add_zero] at c0
  have fz := hB1.frozen
  have hm := (masks i.dst ok.dst0 ok.dst1).2.2.2.2.2
  have HB := toHid hB1
  have hN := Blk.newA w #[.int .u8 i.op, .int .u8 i.dst, .int .u8 i.src, .int .i16 i.off, .int .i32 i.imm] _ 30 rfl
  have d0 := hN.cell (i := 0) rfl
  have d1 := hN.cell (i := 1) rfl
  have d2 := hN.cell (i := 2) rfl
  have d3 := hN.cell (i := 3) rfl
  have d4 := hN.cell (i := 4) rfl
  have HT := toHid ((Touch.refl [b] w).alloc (.cells #[.int .u8 i.op, .int .u8 i.dst, .int .u8 i.src, .int .i16 i.off, .int .i32 i.imm] 30))
  have a1 := ok.src0
  have a2 := ok.src1
  have a3 := ok.dst0
  have a4 := ok.dst1
  clear hB hB1 hx hN
  have q0 : 0 < n := by omega
  have q1 : (1 : Int) < n := by omega
  have q2 : (2 : Int) < n := by omega
  have q3 : (3 : Int) < n := by omega
  have q4 : (4 : Int) < n := by omega
  have q5 : (5 : Int) < n := by omega
  have q6 : (6 : Int) < n := by omega
  have q7 : (7 : Int) < n := by omega
  simp only [In.v]
  go_enter Try.func28, Try.ntmps28
  go_wp2_with fail
  have hbN : b ≠ w.heap.size := by omega
  generalize w.alloc (.cells #[.int .u8 i.op, .int .u8 i.dst, .int .u8 i.src, .int .i16 i.off, .int .i32 i.imm] 30) = W at *
  generalize w.heap.size = N at *
  have hbN' : N ≠ b := by omega
  go_quiet (fail)
  go_wp2
  have hW := ((HB.out.drewN nq).set8 off hl (.int .u8 i.op) (.int .u8 (bits .or .u8 (i.src * 16 % 256) (i.dst % 16))) (.int .u8 (IntKind.u16.wrap i.off % 256)) (.int .u8 (IntKind.u16.wrap i.off / 256 % 256)) (.int .u8 (i.imm % 256))
    (.int .u8 (i.imm % 4294967296 / 256 % 256)) (.int .u8 (i.imm % 4294967296 / 65536 % 256)) (.int .u8 (i.imm % 4294967296 / 16777216)))
  rw [← lay_vals i ok] at hW
  go_end0
  exact ⟨rfl, (HT.out.drewN nq).set8 b off _ _ _ _ _ _ _ _ (Or.inl (by simp)), hW⟩
end Go.Proofs.Ytjioemkapmchpaa
