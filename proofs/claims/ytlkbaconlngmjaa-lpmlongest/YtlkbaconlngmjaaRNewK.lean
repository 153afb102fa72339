/-
  The document's own New, of the kinds that begin with no key.
-/
import Derived.Test.YtlkbaconlngmjaaRDel
namespace Go.Proofs.Ytlkbaconlngmjaa
open Go.RowKit
attribute [local go_sem ↓] Go.wp_at_zero Go.wp_at_succ

/-- An index that holds nothing. -/
def RX.fresh (R sb wb : Nat) (kind size : Int) (m : Nat) : RX := ⟨R, kind, size, m, 0, some sb, m, some wb, m, List.replicate m none, List.replicate m 0⟩
structure FreshAt (w w' : World) (R sb wb : Nat) (kind size : Int) (m : Nat) : Prop where
  at_ : RAt w' (RX.fresh R sb wb kind size m)
  own : ∀ b ∈ (RX.fresh R sb wb kind size m).blocks, w.heap.size ≤ b
  touch : Touch [] w w'
theorem fresh_zero {w w' : World} {R sb wb m : Nat} {kind size : Int} (hR : Blk w' R [.int .i64 kind, .int .i64 size, .int .i64 m, .slice (some ⟨sb, 0, none⟩) m m, .slice (some ⟨wb, 0, none⟩) m m, .int .i64 0] 61)
    (hs : Blk w' sb (List.replicate m (.slice none 0 0)) 32) (hw : Blk w' wb (List.replicate m (.int .i64 0)) 3) (h1 : w.heap.size ≤ R) (h2 : w.heap.size ≤ sb) (h3 : w.heap.size ≤ wb) (n1 : R ≠ sb) (n2 : R ≠ wb) (n3 : sb ≠ wb)
    (hm : m ≤ 64) (ht : Touch [] w w') : FreshAt w w' R sb wb kind size m where
  at_ :=
    { self := by simpa [RX.fresh, slV] using hR
      row := ⟨by simp [RX.fresh], by simp [RX.fresh], by show m ≤ maxLen; unfold maxLen; omega, [], by simpa [RX.fresh, slotV] using hs, by simp [RX.fresh]⟩
      wrow := ⟨by simp [RX.fresh], by simp [RX.fresh], by show m ≤ maxLen; unfold maxLen; omega, [], by simpa [RX.fresh] using hw, by simp [RX.fresh]⟩
      keys := fun k hk => absurd hk (by simp [RX.fresh])
      apart := by simp [RX.top, RX.fresh, n1, n2, n3]
      apartK := fun k hk => absurd hk (by simp [RX.fresh]) }
  own := fun b hb => by
    simp [RX.blocks, RX.top, RX.fresh] at hb
    rcases hb with rfl | rfl | rfl
    · exact h1
    · exact h2
    · exact h3
  touch := ht

def FreshPost (w : World) (kind size : Int) (m : Nat) (e : Ending) (w' : World) : Prop := ∃ R sb wb, e = .returned (.tuple #[.pointer (some ⟨R, 0, none⟩), .bool true]) ∧ FreshAt w w' R sb wb kind size m
set_option maxHeartbeats 4000000 in
set_option maxRecDepth 100000 in
theorem rnewK_any (w : World) (kind size : Int) (m : Nat) (hk0 : kind ≠ 0) (hk3 : kind ≠ 3) (s1 : 1 ≤ size) (s2 : size ≤ 16) (h1 : 1 ≤ m) (h2 : m ≤ 64) : Calls Try.prog 9 #[.int .i64 kind, .int .i64 size, .int .i64 (m : Int)] w (FreshPost w kind size m) := by
  have hmk := run_make_blk (P := Try.prog) Try.underlying38 info32 rfl m (by omega) (by omega) .i64
  have hmk2 := run_make_blk (P := Try.prog) Try.underlying59 info3 rfl m (by omega) (by omega) .i64
  have k0 : (kind == 0) = false := by simpa using hk0
  have k3 : (kind == 3) = false := by simpa using hk3
  clear hk0 hk3
  go_enter Try.func9, Try.ntmps9
  go_upto_region 8 with fail
  go_cut [10] from 10 to 40 (fun p wx => ∃ R sb wb, p = .pointer (some ⟨R, 0, none⟩) ∧ Hid (FreshAt w wx R sb wb kind size m))
  case first =>
    go_region
    · go_wp2
      go_meet
      have b1 := Blk.newA w (Array.replicate m (Value.slice none 0 0)) (List.replicate m (.slice none 0 0)) 32 (by simp)
      have b2 := Blk.newA (w.alloc (Obj.cells (Array.replicate m (Value.slice none 0 0)) 32)) (Array.replicate m (Value.int .i64 0)) (List.replicate m (.int .i64 0)) 3 (by simp)
      have b3 := Blk.newA ((w.alloc (Obj.cells (Array.replicate m (Value.slice none 0 0)) 32)).alloc (Obj.cells (Array.replicate m (Value.int .i64 0)) 3)) #[.int .i64 kind, .int .i64 size, .int .i64 (m : Int), .slice (some ⟨w.heap.size, 0, none⟩) m m, .slice (some ⟨w.heap.size + 1, 0, none⟩) m m, .int .i64 0] _ 61 rfl
      simp only [World.size_alloc] at b2 b3
      exact ⟨w.heap.size + 1 + 1, w.heap.size, w.heap.size + 1, rfl, fresh_zero b3.drew ((b1.alloc _).alloc _).drew (b2.alloc _).drew (by omega) (by omega) (by omega) (by omega) (by omega) (by omega) h2 ((((Touch.refl [] w).alloc _).alloc _).alloc _).drew⟩
    · go_wp2
      go_meet
      have b1 := Blk.newA w (Array.replicate m (Value.int .i64 0)) (List.replicate m (.int .i64 0)) 3 (by simp)
      have b2 := Blk.newA (w.alloc (Obj.cells (Array.replicate m (Value.int .i64 0)) 3)) (Array.replicate m (Value.slice none 0 0)) (List.replicate m (.slice none 0 0)) 32 (by simp)
      have b3 := Blk.newA ((w.alloc (Obj.cells (Array.replicate m (Value.int .i64 0)) 3)).alloc (Obj.cells (Array.replicate m (Value.slice none 0 0)) 32)) #[.int .i64 kind, .int .i64 size, .int .i64 (m : Int), .slice (some ⟨w.heap.size + 1, 0, none⟩) m m, .slice (some ⟨w.heap.size, 0, none⟩) m m, .int .i64 0] _ 61 rfl
      simp only [World.size_alloc] at b2 b3
      exact ⟨w.heap.size + 1 + 1, w.heap.size + 1, w.heap.size, rfl, fresh_zero b3.drew (b2.alloc _).drew ((b1.alloc _).alloc _).drew (by omega) (by omega) (by omega) (by omega) (by omega) (by omega) h2 ((((Touch.refl [] w).alloc _).alloc _).alloc _).drew⟩
  case rest =>
    obtain ⟨R, sb, wb, rfl, HZ⟩ := hcut
    clear hmk hmk2
    go_wp2_with fail
    go_loopw [11] (fun t w' => t = .int .i64 0 ∧ Hid (FreshAt w w' R sb wb kind size m)) (fun _ _ => 0)
    case atStart => exact ⟨rfl, HZ.out⟩
    case round =>
      clear HZ
      obtain ⟨rfl, HI⟩ := hrel
      go_wp2
      go_ret2
      exact ⟨R, sb, wb, rfl, HI.out⟩
theorem rnewK_bad (w : World) (kind size m : Int) (hk0 : kind ≠ 0) (hk3 : kind ≠ 3) (h1 : ¬ (1 ≤ m ∧ m ≤ 64 ∧ 1 ≤ size ∧ size ≤ 16)) : Calls Try.prog 9 #[.int .i64 kind, .int .i64 size, .int .i64 m] w fun e w' => e = .returned (.tuple #[.pointer none, .bool false]) ∧ w' = w := by
  have k0 : (kind == 0) = false := by simpa using hk0
  have k3 : (kind == 3) = false := by simpa using hk3
  clear hk0 hk3
  by_cases a1 : m < 1
  · go_enter Try.func9, Try.ntmps9
    go_wp2
    go_ret2
    exact ⟨rfl, rfl⟩
  · by_cases a2 : 64 < m
    · go_enter Try.func9, Try.ntmps9
      go_wp2
      go_ret2
      exact ⟨rfl, rfl⟩
    · by_cases a3 : size < 1
      · clear h1
        go_enter Try.func9, Try.ntmps9
        go_wp2
        go_ret2
        exact ⟨rfl, rfl⟩
      · have a4 : 16 < size := by omega
        clear h1
        go_enter Try.func9, Try.ntmps9
        go_wp2
        go_ret2
        exact ⟨rfl, rfl⟩
end Go.Proofs.Ytlkbaconlngmjaa
