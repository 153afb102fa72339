/-
  Poke, of the memory and of the reference.
-/
import Derived.Test.YtbidppeelophhaaRef3
import Derived.Test.YtbidppeelophhaaApi3
namespace Go.Proofs.Ytbidppeelophhaa
open Go.RowKit

/-- May n bytes be laid at the place? -/
def pokeB (len at_ n : Int) : Bool := decide (0 ≤ at_ ∧ at_ ≤ len - n)

def rpokeE (all : List RReg) (id at_ : Int) (bs : List Int) : Int := if hasB' all id = true then (if pokeB (all.getD id.toNat RReg.zero).bytes.length at_ bs.length = true then 0 else 2) else 14
def rpokeAll (all : List RReg) (id at_ : Int) (bs : List Int) : List RReg := if hasB' all id = true ∧ pokeB (all.getD id.toNat RReg.zero).bytes.length at_ bs.length = true then all.set id.toNat (rlayR (all.getD id.toNat RReg.zero) at_.toNat bs) else all

set_option maxHeartbeats 4000000 in
set_option maxRecDepth 100000 in
theorem rpoke_any {w : World} {s : RS} (h : RefAt w s) (id at_ : Int) (v : Value) (bs : List Int) (hv : ArgOut w s.blocks v bs) :
    Calls Try.prog 33 #[.pointer (some ⟨s.m, 0, none⟩), .int .i64 id, .int .i64 at_, v] w fun e w' => e = .returned (.int .i64 (rpokeE s.all id at_ bs)) ∧ RefStep w s (rpokeAll s.all id at_ bs) w' := by
  obtain ⟨a, c, rfl, hbb, hn2, hb⟩ := hv
  have HH := toHid (has_any h id)
  rcases hasB'_cases s.all id with hx | ⟨i, r, rfl, hr, hrd, hl, hi, hx⟩
  · rw [hx] at HH
    have HF : Hid (rpokeE s.all id at_ bs = 14 ∧ RefStep w s (rpokeAll s.all id at_ bs) w) := by
      refine ⟨by unfold rpokeE; rw [hx]; rfl, ?_⟩
      unfold rpokeAll
      rw [hx]
      exact RefStep.same h (Touch.refl _ _)
    clear h hb hx
    go_enter Try.func33, Try.ntmps33
    go_wp2_with (go_at_call 17; refine HH.out.mono ?_; rintro e w ⟨rfl, rfl⟩)
    go_ret
    exact ⟨by rw [HF.out.1]; rfl, HF.out.2⟩
  · rw [hx] at HH
    obtain ⟨b, hg⟩ := h.some_g hi
    have hmany := h.many
    have hok := h.ok r (List.mem_of_getElem? hr)
    have hsz := hok.size2
    have hc0 := h.c0
    rw [hg] at hc0
    simp only [slV_some] at hc0
    have c3 := h.at hg hr (j := 3) (by omega) rfl
    cases hp : pokeB r.bytes.length at_ bs.length with
    | false =>
      have hp2 := of_decide_eq_false hp
      have HF : Hid (rpokeE s.all i at_ bs = 2 ∧ RefStep w s (rpokeAll s.all i at_ bs) w) := by
        refine ⟨by unfold rpokeE; rw [hx, Int.toNat_natCast, hrd, hp]; rfl, ?_⟩
        unfold rpokeAll
        rw [if_neg (fun hh => by rw [Int.toNat_natCast, hrd, hp] at hh; exact absurd hh.2 (by decide))]
        exact RefStep.same h (Touch.refl _ _)
      clear h hb hx hok hg hr hrd hp
      by_cases hneg : at_ < 0
      · go_enter Try.func33, Try.ntmps33
        go_wp2_with (go_at_call 17; refine HH.out.mono ?_; rintro e w ⟨rfl, rfl⟩)
        go_ret
        exact ⟨by rw [HF.out.1]; rfl, HF.out.2⟩
      · by_cases hgt : (r.bytes.length : Int) < at_
        · go_enter Try.func33, Try.ntmps33
          go_wp2_with (go_at_call 17; refine HH.out.mono ?_; rintro e w ⟨rfl, rfl⟩)
          go_ret
          exact ⟨by rw [HF.out.1]; rfl, HF.out.2⟩
        · have hlt : (r.bytes.length : Int) - at_ < bs.length := by omega
          go_enter Try.func33, Try.ntmps33
          go_wp2_with (go_at_call 17; refine HH.out.mono ?_; rintro e w ⟨rfl, rfl⟩)
          go_ret
          exact ⟨by rw [HF.out.1]; rfl, HF.out.2⟩
    | true =>
      have hp2 := of_decide_eq_true hp
      obtain ⟨q, rfl⟩ : ∃ q : Nat, at_ = q := ⟨at_.toNat, by omega⟩
      have HL := toHid (rlay2_any h i q bs.length c r a bs hr rfl (by omega) hbb hb)
      have HE : Hid (rpokeE s.all i q bs = 0 ∧ rpokeAll s.all i q bs = s.all.set i (rlayR r q bs)) := by
        refine ⟨by unfold rpokeE; rw [hx, Int.toNat_natCast, hrd, hp]; rfl, ?_⟩
        unfold rpokeAll
        rw [if_pos ⟨hx, by rw [Int.toNat_natCast, hrd]; exact hp⟩, Int.toNat_natCast, Int.toNat_natCast, hrd]
      have h3 : ¬ (r.bytes.length : Int) < q := by omega
      have h4 : ¬ (r.bytes.length : Int) - q < bs.length := by omega
      clear h hb hx hok hg hr hrd hp hbb
      go_enter Try.func33, Try.ntmps33
      go_wp2_with (first | (go_at_call 17; refine HH.out.mono ?_; rintro e w ⟨rfl, rfl⟩) | (go_at_call 53; refine HL.out.mono ?_; rintro e w2 ⟨rfl, ⟨q1, q2⟩, q3⟩; have H9 := toHid (And.intro q1 (And.intro q2 q3)); clear q1 q2 q3))
      go_ret
      refine ⟨by rw [HE.out.1]; rfl, ?_⟩
      rw [HE.out.2]
      exact H9.out

theorem layR_nil {r : Reg} {a : Nat} (ho : RegOk r) (ha : a ≤ r.bytes.length) : layR r a [] = r := by
  have h1 : r.bytes.take a ++ [] ++ r.bytes.drop (a + ([] : List Int).length) = r.bytes := by simp
  obtain ⟨p, id, base, perm, bb, bytes, sb, set⟩ := r
  unfold layR
  cases sb with
  | none => simp
  | some s => simp

set_option maxHeartbeats 1000000 in
set_option maxRecDepth 100000 in
theorem rlay_none {w : World} {r : Reg} (h : RegAt w r) (ho : RegOk r) (a c : Nat) (sa : Option Addr) (ha : a ≤ r.bytes.length) :
    Calls Try.prog 50 #[.pointer (some ⟨r.p, 0, none⟩), .int .i64 a, .slice sa 0 c] w fun e w' => e = .returned (.tuple #[]) ∧ w' = w := by
  have hsz := ho.size2
  have hcp : ∀ ty d dl dc, (Builtin.copy_ #[31, 31] ty #[.slice d dl dc, .slice sa 0 c]).run Try.prog w = .ok (goInt 0) w := fun ty d dl dc => run_copy_none w 31 31 ty 5 d sa dl dc 0 c Try.underlying31 (size_of_info info5) (Nat.zero_min _)
  have hc3 := h.c3
  have hc4 := h.c4
  unfold Reg.setV at hc4
  have q2 : (a : Int) ≤ r.bytes.length := by omega
  cases hsb : r.sb with
  | none =>
    rw [hsb] at hc4
    simp only at hc4
    have hnil := nil42
    clear h ho
    by_cases q1 : r.bytes.length = a
    · have HQ := toHid q1
      go_enter Try.func50, Try.ntmps50
      go_wp2
      exact bodyPost_ret (v := .tuple #[]) (by simp [results, Try.results50]) rfl ⟨rfl, rfl⟩
    · go_enter Try.func50, Try.ntmps50
      go_wp2
      exact bodyPost_ret (v := .tuple #[]) (by simp [results, Try.results50]) rfl ⟨rfl, rfl⟩
  | some sb =>
    rw [hsb] at hc4
    simp only at hc4
    have hnil := some42
    clear h ho
    by_cases q1 : r.bytes.length = a
    · go_enter Try.func50, Try.ntmps50
      go_wp2
      go_loop [22] (fun t => t = .int .i64 0) (fun _ => 0)
      case atStart => rfl
      case round =>
        subst hrel
        go_wp2
        go_end0
        exact ⟨rfl, rfl⟩
    · go_enter Try.func50, Try.ntmps50
      go_wp2
      go_loop [22] (fun t => t = .int .i64 0) (fun _ => 0)
      case atStart => rfl
      case round =>
        subst hrel
        go_wp2
        go_end0
        exact ⟨rfl, rfl⟩

def pokeE (rs : List Reg) (id at_ : Int) (bs : List Int) : Int := match regOf rs id with
  | none => 14
  | some r => if pokeB r.bytes.length at_ bs.length = true then 0 else 2
def pokeRs (rs : List Reg) (id at_ : Int) (bs : List Int) : List Reg := match regOf rs id with
  | none => rs
  | some r => if pokeB r.bytes.length at_ bs.length = true then updR rs r.id (layR · at_.toNat bs) else rs
def PokePost (w : World) (s : MS) (id at_ : Int) (bs : List Int) (e : Ending) (w' : World) : Prop :=
  e = .returned (.int .i64 (pokeE s.rs id at_ bs)) ∧ Touch s.blocks w w' ∧ MemAt w' { s with rs := pokeRs s.rs id at_ bs } ∧ ({ s with rs := pokeRs s.rs id at_ bs } : MS).blocks = s.blocks

theorem updR_nil {w : World} {s : MS} (h : MemAt w s) {r : Reg} (hr : r ∈ s.rs) {a : Nat} (ha : a ≤ r.bytes.length) : updR s.rs r.id (layR · a []) = s.rs := by
  unfold updR
  conv => rhs; rw [← List.map_id s.rs]
  refine List.map_congr_left (fun x hx => ?_)
  split
  · rename_i he
    rw [id_inj h.ids hx hr he]
    exact layR_nil (h.ok r hr) ha
  · rfl

set_option maxHeartbeats 4000000 in
set_option maxRecDepth 100000 in
theorem poke_any {w : World} {s : MS} (h : MemAt w s) (id at_ : Int) (v : Value) (bs : List Int) (hv : ArgAt w v bs) :
    Calls Try.prog 26 #[.pointer (some ⟨s.m, 0, none⟩), .int .i64 id, .int .i64 at_, v] w (PokePost w s id at_ bs) := by
  obtain ⟨a, c, rfl, hbb, hn2, hb⟩ := hv
  have HI := toHid (index_any h id)
  rcases idxR_cases h id with ⟨h1, h2⟩ | ⟨i, r, h1, hi, h2, h3, rfl⟩
  · rw [h1] at HI
    have HF : ∀ w', Touch [] w w' → Hid (PokePost w s id at_ bs (.returned (.int .i64 14)) w') := fun w' ht => by
      have e : regOf s.rs id = none := regOf_none h2
      refine ⟨by unfold pokeE; rw [e], ht.nil, ?_, ?_⟩
      · simp only [pokeRs, e]; exact h.touch ht (by simp)
      · simp only [pokeRs, e]
    have HFF := toHid HF
    clear h h1 h2 HF hb
    go_enter Try.func26, Try.ntmps26
    go_wp2_with (go_at_call 36; refine HI.out.mono ?_; rintro e w' ⟨rfl, ht⟩; have HT := toHid ht; clear ht)
    go_ret
    exact (HFF.out _ HT.out).out
  · rw [h1] at HI
    have hr := List.mem_of_getElem? h2
    have hreg := regOf_some h hr
    have HM := toHid h
    have hmany := h.many
    have hok := h.ok r hr
    obtain ⟨b, hg⟩ : ∃ b, s.g = some b := by
      cases hg : s.g with
      | none => have := (h.nil hg).1; rw [this] at hi; simp at hi
      | some b => exact ⟨b, rfl⟩
    have HP := toHid (And.intro hg (And.intro hr h3))
    have hsz := hok.size2
    cases hp : pokeB r.bytes.length at_ bs.length with
    | false =>
      have hp2 := of_decide_eq_false hp
      have HF : ∀ w', Touch [] w w' → Hid (PokePost w s r.id at_ bs (.returned (.int .i64 2)) w') := fun w' ht => by
        have e : pokeRs s.rs r.id at_ bs = s.rs := by simp [pokeRs, hreg, hp]
        refine ⟨by simp [pokeE, hreg, hp], ht.nil, ?_, ?_⟩
        · rw [e]; exact h.touch ht (by simp)
        · rw [e]
      have HFF := toHid HF
      clear h h1 h2 h3 hg hr hok HF hb hreg hp
      go_enter Try.func26, Try.ntmps26
      go_wp2_with fail
      refine HI.out.mono ?_
      rintro e w1 ⟨rfl, ht⟩
      have hM := HM.out.touch ht (by simp)
      have hc0 := hM.c0
      rw [HP.out.1] at hc0
      simp only [slV_some] at hc0
      have hpt := hM.ptrAt HP.out.1 hi
      rw [HP.out.2.2] at hpt
      have hc3 := (hM.regs r HP.out.2.1).c3
      have H9 := HFF.out w1 ht
      have HRE := toHid (reaches_any r.p r.bb r.bytes.length r.bytes.length at_ bs.length w1 hsz (by omega) (by omega) hc3)
      clear ht hM HI HFF
      by_cases hneg : at_ < 0
      · go_wp2_with (go_at_call 49; refine HRE.out.mono ?_; rintro e w1 ⟨rfl, rfl⟩)
        go_ret
        exact H9.out
      · have hlt : ¬ at_ ≤ (r.bytes.length : Int) - bs.length := fun hh => hp2 ⟨by omega, hh⟩
        rw [decide_eq_false hlt] at HRE
        go_wp2_with (go_at_call 49; refine HRE.out.mono ?_; rintro e w1 ⟨rfl, rfl⟩)
        go_ret
        exact H9.out
    | true =>
      have hp2 := of_decide_eq_true hp
      obtain ⟨q, rfl⟩ : ∃ q : Nat, at_ = q := ⟨at_.toNat, by omega⟩
      have eRs : pokeRs s.rs r.id q bs = updR s.rs r.id (layR · q bs) := by simp [pokeRs, hreg, hp]
      have eE : pokeE s.rs r.id q bs = 0 := by simp [pokeE, hreg, hp]
      have HF : ∀ w1 w', Touch [] w w1 → RegAt w' (layR r q bs) → Touch (r.bb :: r.sb.toList) w1 w' → Hid (PokePost w s r.id q bs (.returned (.int .i64 0)) w') := fun w1 w' t1 q1 q2 => by
        have hu := (h.touch t1 (by simp)).upd hr (a := q) (bs := bs) (by omega) hbb q1 q2
        refine ⟨by rw [eE], (t1.nil).trans q2 (fun x hx => Or.inl (s.mem_r hr (by unfold Reg.blocks; exact List.mem_cons_of_mem _ hx))), ?_⟩
        rw [eRs]
        exact hu
      have HFF := toHid HF
      have HB := toHid hb
      have HOK := toHid hok
      clear h h1 h2 h3 hg hr hok HF hreg hp eRs eE hb
      go_enter Try.func26, Try.ntmps26
      go_wp2_with fail
      refine HI.out.mono ?_
      rintro e w1 ⟨rfl, ht⟩
      have hM := HM.out.touch ht (by simp)
      have hc0 := hM.c0
      rw [HP.out.1] at hc0
      simp only [slV_some] at hc0
      have hpt := hM.ptrAt HP.out.1 hi
      rw [HP.out.2.2] at hpt
      have hc3 := (hM.regs r HP.out.2.1).c3
      have HRE := toHid (reaches_any r.p r.bb r.bytes.length r.bytes.length (q : Int) bs.length w1 hsz (by omega) (by omega) hc3)
      have HT := toHid ht
      by_cases h0 : bs.length = 0
      · obtain rfl : bs = [] := List.eq_nil_of_length_eq_zero h0
        have HL := toHid (rlay_none (hM.regs r HP.out.2.1) HOK.out q c a (by omega))
        have H9 := HFF.out w1 w1 ht (by rw [layR_nil HOK.out (by omega)]; exact hM.regs r HP.out.2.1) (Touch.refl _ _)
        clear ht hM HI HFF
        rw [decide_eq_true hp2.2] at HRE
        simp only [List.length_nil] at *
        go_wp2_with (first | (go_at_call 49; refine HRE.out.mono ?_; rintro e w1 ⟨rfl, rfl⟩) | (go_at_call 50; refine HL.out.mono ?_; rintro e w1 ⟨rfl, rfl⟩))
        go_ret
        exact H9.out
      · obtain ⟨k, off, rfl, hby⟩ := HB.out (by omega)
        have HL := toHid (rlay_any (hM.regs r HP.out.2.1) HOK.out q k off bs.length c bs (by omega) rfl (by omega) (hby.touch ht (by simp)))
        clear ht hM HI hby
        rw [decide_eq_true hp2.2] at HRE
        go_wp2_with (first | (go_at_call 49; refine HRE.out.mono ?_; rintro e w1 ⟨rfl, rfl⟩) | (go_at_call 50; refine HL.out.mono ?_; rintro e w2 ⟨rfl, q1, q2⟩; have H9 := HFF.out _ w2 HT.out q1 q2; clear q1 q2))
        go_ret
        exact H9.out
end Go.Proofs.Ytbidppeelophhaa
