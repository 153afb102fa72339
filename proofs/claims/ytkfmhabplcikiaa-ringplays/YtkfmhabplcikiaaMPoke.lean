/-
  Poke, of the memory and of the reference.
-/
import Derived.Test.YtkfmhabplcikiaaMRef3
import Derived.Test.YtkfmhabplcikiaaMApi3
namespace Go.Proofs.Ytkfmhabplcikiaa.Mem
open Go.RowKit

/-- May n bytes be laid at the place? -/
def pokeB (len at_ n : Int) : Bool := decide (0 ≤ at_ ∧ at_ ≤ len - n)

def rpokeE (all : List RReg) (id at_ : Int) (bs : List Int) : Int := if hasB' all id = true then (if pokeB (all.getD id.toNat RReg.zero).bytes.length at_ bs.length = true then 0 else 2) else 14
def rpokeAll (all : List RReg) (id at_ : Int) (bs : List Int) : List RReg := if hasB' all id = true ∧ pokeB (all.getD id.toNat RReg.zero).bytes.length at_ bs.length = true then all.set id.toNat (rlayR (all.getD id.toNat RReg.zero) at_.toNat bs) else all

theorem layR_nil {r : Reg} {a : Nat} (ho : RegOk r) (ha : a ≤ r.bytes.length) : layR r a [] = r := by
  have h1 : r.bytes.take a ++ [] ++ r.bytes.drop (a + ([] : List Int).length) = r.bytes := by simp
  obtain ⟨p, id, base, perm, bb, bytes, sb, set⟩ := r
  unfold layR
  cases sb with
  | none => simp
  | some s => simp

set_option maxHeartbeats 1000000 in
set_option maxRecDepth 100000 in
theorem rlay_none {w : World} {r : Reg} (h : RegAt w r) (ho : RegOk r) (a c : Nat) (sa : Option Addr) (ha : a ≤ r.bytes.length) :
    Calls Try.prog 50 #[.pointer (some ⟨r.p, 0, none⟩), .int .i64 a, .slice sa 0 c] w fun e w' => e = .returned (.tuple #[]) ∧ w' = w := by
  have hsz := ho.size2
  have hcp : ∀ ty d dl dc, (Builtin.copy_ #[60, 60] ty #[.slice d dl dc, .slice sa 0 c]).run Try.prog w = .ok (goInt 0) w := fun ty d dl dc => run_copy_none w 60 60 ty 5 d sa dl dc 0 c Try.underlying60 (size_of_info info5) (Nat.zero_min _)
  have hc3 := h.c3
  have hc4 := h.c4
  unfold Reg.setV at hc4
  have q2 : (a : Int) ≤ r.bytes.length := by omega
  cases hsb : r.sb with
  | none =>
    rw [hsb] at hc4
    simp only at hc4
    have hnil := nil42
    clear h ho
    by_cases q1 : r.bytes.length = a
    · have HQ := toHid q1
      go_enter Try.func50, Try.ntmps50
      go_wp2
      exact bodyPost_ret (v := .tuple #[]) (by simp [results, Try.results50]) rfl ⟨rfl, rfl⟩
    · go_enter Try.func50, Try.ntmps50
      go_wp2
      exact bodyPost_ret (v := .tuple #[]) (by simp [results, Try.results50]) rfl ⟨rfl, rfl⟩
  | some sb =>
    rw [hsb] at hc4
    simp only at hc4
    have hnil := some42
    clear h ho
    by_cases q1 : r.bytes.length = a
    · go_enter Try.func50, Try.ntmps50
      go_wp2
      go_loop [22] (fun t => t = .int .i64 0) (fun _ => 0)
      case atStart => rfl
      case round =>
        subst hrel
        go_wp2
        go_end0
        exact ⟨rfl, rfl⟩
    · go_enter Try.func50, Try.ntmps50
      go_wp2
      go_loop [22] (fun t => t = .int .i64 0) (fun _ => 0)
      case atStart => rfl
      case round =>
        subst hrel
        go_wp2
        go_end0
        exact ⟨rfl, rfl⟩

def pokeE (rs : List Reg) (id at_ : Int) (bs : List Int) : Int := match regOf rs id with
  | none => 14
  | some r => if pokeB r.bytes.length at_ bs.length = true then 0 else 2
def pokeRs (rs : List Reg) (id at_ : Int) (bs : List Int) : List Reg := match regOf rs id with
  | none => rs
  | some r => if pokeB r.bytes.length at_ bs.length = true then updR rs r.id (layR · at_.toNat bs) else rs
def PokePost (w : World) (s : MS) (id at_ : Int) (bs : List Int) (e : Ending) (w' : World) : Prop :=
  e = .returned (.int .i64 (pokeE s.rs id at_ bs)) ∧ Touch s.blocks w w' ∧ MemAt w' { s with rs := pokeRs s.rs id at_ bs } ∧ ({ s with rs := pokeRs s.rs id at_ bs } : MS).blocks = s.blocks

theorem updR_nil {w : World} {s : MS} (h : MemAt w s) {r : Reg} (hr : r ∈ s.rs) {a : Nat} (ha : a ≤ r.bytes.length) : updR s.rs r.id (layR · a []) = s.rs := by
  unfold updR
  conv => rhs; rw [← List.map_id s.rs]
  refine List.map_congr_left (fun x hx => ?_)
  split
  · rename_i he
    rw [id_inj h.ids hx hr he]
    exact layR_nil (h.ok r hr) ha
  · rfl

end Go.Proofs.Ytkfmhabplcikiaa.Mem
