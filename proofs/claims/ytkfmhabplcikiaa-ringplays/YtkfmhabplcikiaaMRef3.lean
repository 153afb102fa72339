/-
  The reference memory: Kill, Write, Poke.
-/
import Derived.Test.YtkfmhabplcikiaaMRef2
import Derived.Test.YtkfmhabplcikiaaMApi2
namespace Go.Proofs.Ytkfmhabplcikiaa.Mem
open Go.RowKit

/-- The reference memory behind a call. -/
def RefStep (w : World) (s : RS) (all : List RReg) (w' : World) : Prop := RefAt w' { s with all := all } ∧ ({ s with all := all } : RS).blocks = s.blocks ∧ Touch s.blocks w w'

theorem RefStep.same {w w' : World} {s : RS} (h : RefAt w s) (ht : Touch [] w w') : RefStep w s s.all w' := ⟨h.touch ht (by simp), rfl, ht.nil⟩

theorem RefAt.kill {w : World} {s : RS} (h : RefAt w s) {b i : Nat} {r : RReg} (hg : s.g = some b) (hr : s.all[i]? = some r) :
    RefStep w s (s.all.set i { r with live := false }) (w.setCell ⟨b, i * 5, none⟩ (.bool false)) := by
  have hap := h.apart
  simp only [RS.blocks, List.cons_append, List.nodup_cons, List.mem_append, List.nodup_append] at hap
  have hlen : (s.all.set i { r with live := false }).length = s.all.length := by simp
  have hb2 := flat_blocks s.all i r { r with live := false } hr rfl
  have hi : i < s.all.length := (List.getElem?_eq_some_iff.1 hr).1
  have ht : Touch [b] w (w.setCell ⟨b, i * 5, none⟩ (.bool false)) := (Touch.refl _ w).setCell _ _ (Or.inl (by simp))
  have hmem : ∀ x ∈ s.all.set i { r with live := false }, x = { r with live := false } ∨ x ∈ s.all := fun x hx => by
    rcases List.mem_or_eq_of_mem_set hx with h | h
    · exact Or.inr h
    · exact Or.inl h
  have hrm := List.mem_of_getElem? hr
  have hnb : ∀ x ∈ s.all, ∀ y ∈ x.blocks, y ∉ [b] := fun x hx y hy hh => by
    simp at hh
    subst hh
    exact hap.2.2.2 y (by simp [hg]) y (List.mem_flatMap.2 ⟨x, hx, hy⟩) rfl
  refine ⟨⟨?_, ?_, ?_, ?_, ?_, ?_⟩, ?_, ht.mono (fun x hx => Or.inl (by simp at hx; subst hx; exact s.mem_g hg))⟩
  · show Blk _ s.m [slV s.g (s.all.set i { r with live := false }).length s.cap] 29
    rw [hlen]
    exact ht.blk h.self (fun hh => hap.1 (Or.inl (by simp at hh; rw [hh]; simp [hg])))
  · show RowAt _ 77 5 s.g (s.all.set i { r with live := false }).length s.cap _
    obtain ⟨h1, h2, h3, h4⟩ := h.row
    rw [hg] at h4 ⊢
    obtain ⟨rest, hb, hc⟩ := h4
    refine ⟨by rw [flat_len], by rw [hlen]; exact h2, h3, rest, ?_, by rw [List.length_append, flat_len, hlen, ← flat_len, ← List.length_append]; exact hc⟩
    have := hb.setCell (i * 5) (.bool false)
    rw [List.set_append_left _ _ (by rw [flat_len]; omega), flat_kill s.all i r hr] at this
    exact this
  · intro x hx
    rcases hmem x hx with rfl | hx
    · have := (h.regs r hrm).touch ht (hnb r hrm)
      exact ⟨this.bytes, this.set⟩
    · exact (h.regs x hx).touch ht (hnb x hx)
  · intro x hx
    rcases hmem x hx with rfl | hx
    · have := h.ok r hrm
      exact ⟨this.base0, this.size1, this.size2, this.fits, this.perm0, this.perm1, this.setLen, this.byte⟩
    · exact h.ok x hx
  · show (s.m :: s.g.toList ++ (s.all.set i { r with live := false }).flatMap RReg.blocks).Nodup
    rw [hb2]
    exact h.apart
  · show (s.all.set i { r with live := false }).length ≤ 1000
    rw [hlen]
    exact h.many
  · show s.m :: s.g.toList ++ (s.all.set i { r with live := false }).flatMap RReg.blocks = _
    rw [hb2]
    rfl

def rkillE (all : List RReg) (id : Int) : Int := if hasB' all id = true then 0 else 14
def rkillAll (all : List RReg) (id : Int) : List RReg := if hasB' all id = true then all.set id.toNat { all.getD id.toNat RReg.zero with live := false } else all

theorem hasB'_cases (all : List RReg) (id : Int) : hasB' all id = false ∨ ∃ i : Nat, ∃ r, id = i ∧ all[i]? = some r ∧ all.getD i RReg.zero = r ∧ r.live = true ∧ i < all.length ∧ hasB' all id = true := by
  cases hh : hasB' all id with
  | false => exact Or.inl rfl
  | true =>
    right
    have h2 := hh
    unfold hasB' at h2
    simp only [Bool.and_eq_true, decide_eq_true_eq] at h2
    refine ⟨id.toNat, all.getD id.toNat RReg.zero, by omega, rgetD_of (by omega), rfl, h2.2, by omega, rfl⟩

theorem RefAt.some_g {w : World} {s : RS} (h : RefAt w s) {i : Nat} (hi : i < s.all.length) : ∃ b, s.g = some b := by
  cases hg : s.g with
  | none => have := (h.nil hg).1; rw [this] at hi; simp at hi
  | some b => exact ⟨b, rfl⟩

set_option maxHeartbeats 2000000 in
set_option maxRecDepth 100000 in
theorem rkill_any {w : World} {s : RS} (h : RefAt w s) (id : Int) :
    Calls Try.prog 35 #[.pointer (some ⟨s.m, 0, none⟩), .int .i64 id] w fun e w' => e = .returned (.int .i64 (rkillE s.all id)) ∧ RefStep w s (rkillAll s.all id) w' := by
  have HH := toHid (has_any h id)
  rcases hasB'_cases s.all id with hb | ⟨i, r, rfl, hr, hrd, hl, hi, hb⟩
  · rw [hb] at HH
    have HF : Hid (rkillE s.all id = 14 ∧ RefStep w s (rkillAll s.all id) w) := by
      refine ⟨by unfold rkillE; rw [hb]; rfl, ?_⟩
      unfold rkillAll
      rw [hb]
      exact RefStep.same h (Touch.refl _ _)
    clear h hb
    go_enter Try.func35, Try.ntmps35
    go_wp2_with (go_at_call 48; refine HH.out.mono ?_; rintro e w ⟨rfl, rfl⟩)
    go_ret
    exact ⟨by rw [HF.out.1]; rfl, HF.out.2⟩
  · rw [hb] at HH
    obtain ⟨b, hg⟩ := h.some_g hi
    have hmany := h.many
    have hk := h.kill hg hr
    have HF : Hid (rkillE s.all i = 0 ∧ RefStep w s (rkillAll s.all i) (w.setCell ⟨b, i * 5, none⟩ (.bool false))) := by
      refine ⟨by unfold rkillE; rw [hb]; rfl, ?_⟩
      unfold rkillAll
      rw [hb, Int.toNat_natCast, hrd]
      exact hk
    have hc0 := h.c0
    rw [hg] at hc0
    simp only [slV_some] at hc0
    have c0 := h.at hg hr (j := 0) (by omega) rfl
    rw [Nat.add_zero] at c0
    have f0 : w.frozen? ⟨b, i * 5, none⟩ = false := by
      have h4 := h.row.2.2.2
      rw [hg] at h4
      obtain ⟨rest, hbb, _⟩ := h4
      exact hbb.frozen _
    clear h hb hk hg hr hrd
    go_enter Try.func35, Try.ntmps35
    go_wp2_with (go_at_call 48; refine HH.out.mono ?_; rintro e w ⟨rfl, rfl⟩)
    go_ret
    exact ⟨by rw [HF.out.1]; rfl, HF.out.2⟩

/-- The region that n bytes at the address reach, by a permission. -/
def accI (all : List RReg) (addr n : Int) (p : Int → Bool) : Option Nat := match all.findIdx? (rhasB · addr) with
  | none => none
  | some i => if n ≤ ((all.getD i RReg.zero).bytes.length : Int) - (addr - (all.getD i RReg.zero).base) ∧ p (all.getD i RReg.zero).perm = true then some i else none

theorem ofV_cases (all : List RReg) (addr : Int) : (all.findIdx? (rhasB · addr) = none ∧ ofV all addr = .tuple #[.int .i64 (-1), .int .i64 0]) ∨
    ∃ i : Nat, ∃ r, i < all.length ∧ all[i]? = some r ∧ all.getD i RReg.zero = r ∧ rhasB r addr = true ∧ all.findIdx? (rhasB · addr) = some i ∧ ofV all addr = .tuple #[.int .i64 i, .int .i64 (addr - r.base)] := by
  unfold ofV
  cases hf : all.findIdx? (rhasB · addr) with
  | none => exact Or.inl ⟨rfl, rfl⟩
  | some i =>
    have hf2 := hf
    rw [List.findIdx?_eq_some_iff_getElem] at hf2
    obtain ⟨hi, h1, _⟩ := hf2
    refine Or.inr ⟨i, all.getD i RReg.zero, hi, rgetD_of hi, rfl, ?_, rfl, rfl⟩
    rw [List.getD_eq_getElem?_getD, List.getElem?_eq_getElem hi]
    simpa using h1

def canW (p : Int) : Bool := !(p / 2 % 2 == 0)
def canR (p : Int) : Bool := !(p % 2 == 0)

def rwriteE (all : List RReg) (addr : Int) (bs : List Int) : Int := if bs.length = 0 then 0 else match accI all addr bs.length canW with
  | none => 10
  | some _ => 0
def rwriteAll (all : List RReg) (addr : Int) (bs : List Int) : List RReg := if bs.length = 0 then all else match accI all addr bs.length canW with
  | none => all
  | some i => all.set i (rlayR (all.getD i RReg.zero) (addr - (all.getD i RReg.zero).base).toNat bs)

/-- An argument that lies outside a memory's blocks. -/
def ArgOut (w : World) (bl : List Nat) (v : Value) (bs : List Int) : Prop := ∃ a c, v = .slice a bs.length c ∧ (∀ x ∈ bs, 0 ≤ x ∧ x ≤ 255) ∧ bs.length ≤ 9223372036854775807 ∧ (1 ≤ bs.length → ∃ k off, a = some ⟨k, off, none⟩ ∧ k ∉ bl ∧ BytesAt w k off bs)

set_option maxHeartbeats 4000000 in
set_option maxRecDepth 100000 in
theorem rwrite_any {w : World} {s : RS} (h : RefAt w s) (addr : Int) (v : Value) (bs : List Int) (ha0 : 0 ≤ addr) (ha1 : addr ≤ 18446744073709551615) (hv : ArgOut w s.blocks v bs) :
    Calls Try.prog 39 #[.pointer (some ⟨s.m, 0, none⟩), .int .u64 addr, v] w fun e w' => e = .returned (.int .i64 (rwriteE s.all addr bs)) ∧ RefStep w s (rwriteAll s.all addr bs) w' := by
  obtain ⟨a, c, rfl, hbb, hn2, hb⟩ := hv
  by_cases h0 : bs.length = 0
  · have HF : Hid (rwriteE s.all addr bs = 0 ∧ RefStep w s (rwriteAll s.all addr bs) w) := by
      refine ⟨by unfold rwriteE; rw [if_pos h0], ?_⟩
      unfold rwriteAll
      rw [if_pos h0]
      exact RefStep.same h (Touch.refl _ _)
    have h0' : ((bs.length : Int) == 0) = true := by simpa using h0
    clear h hb
    go_enter Try.func39, Try.ntmps39
    go_wp2
    go_ret
    exact ⟨by rw [HF.out.1]; rfl, HF.out.2⟩
  · have h0' : ((bs.length : Int) == 0) = false := by simpa using h0
    have HO := toHid (of_any h addr ha0 ha1)
    rcases ofV_cases s.all addr with ⟨hf, hov⟩ | ⟨i, r, hi, hr, hrd, hrh, hf, hov⟩
    · rw [hov] at HO
      have HF : ∀ w', Touch [] w w' → Hid (rwriteE s.all addr bs = 10 ∧ RefStep w s (rwriteAll s.all addr bs) w') := fun w' ht => by
        have e : accI s.all addr bs.length canW = none := by unfold accI; rw [hf]
        refine ⟨by unfold rwriteE; rw [if_neg h0, e], ?_⟩
        unfold rwriteAll
        rw [if_neg h0, e]
        exact RefStep.same h ht
      have HFF := toHid HF
      clear h hb HF hov hf
      go_enter Try.func39, Try.ntmps39
      go_wp2_with (go_at_call 51; refine HO.out.mono ?_; rintro e w1 ⟨rfl, ht1⟩; have H1 := HFF.out w1 ht1; clear ht1)
      go_ret
      exact ⟨by rw [H1.out.1]; rfl, H1.out.2⟩
    · rw [hov] at HO
      have hok := h.ok r (List.mem_of_getElem? hr)
      have hin : r.base ≤ addr ∧ addr < r.base + (r.bytes.length : Int) := by
        unfold rhasB at hrh
        simp only [Bool.and_eq_true, decide_eq_true_eq] at hrh
        exact hrh.2
      obtain ⟨at_, hat⟩ : ∃ at_ : Nat, addr - r.base = at_ := ⟨(addr - r.base).toNat, by omega⟩
      rw [hat] at HO
      obtain ⟨b, hg⟩ := h.some_g hi
      have hmany := h.many
      have hsz := hok.size2
      have hp0 := hok.perm0
      have hp1 := hok.perm1
      have HM := toHid h
      have HG := toHid hg
      have HR := toHid hr
      by_cases hfit : (bs.length : Int) ≤ (r.bytes.length : Int) - at_
      · by_cases hp : r.perm / 2 % 2 = 0
        · have HF : ∀ w', Touch [] w w' → Hid (rwriteE s.all addr bs = 10 ∧ RefStep w s (rwriteAll s.all addr bs) w') := fun w' ht => by
            have e : accI s.all addr bs.length canW = none := by unfold accI; rw [hf]; simp only [hrd]; rw [if_neg]; simp [canW, hp]
            refine ⟨by unfold rwriteE; rw [if_neg h0, e], ?_⟩
            unfold rwriteAll
            rw [if_neg h0, e]
            exact RefStep.same h ht
          have HFF := toHid HF
          have hpb : (r.perm / 2 % 2 == 0) = true := by simpa using hp
          clear h hb HF hov hf hok hg hr hrd hrh
          go_enter Try.func39, Try.ntmps39
          go_wp2_with fail
          refine HO.out.mono ?_
          rintro e w1 ⟨rfl, ht1⟩
          have hM := HM.out.touch ht1 (by simp)
          have hc0 := hM.c0
          rw [HG.out] at hc0
          simp only [slV_some] at hc0
          have c2 := hM.at HG.out HR.out (j := 2) (by omega) rfl
          have c3 := hM.at HG.out HR.out (j := 3) (by omega) rfl
          have H1 := HFF.out w1 ht1
          clear ht1 hM HFF HO
          go_wp2
          go_ret
          exact ⟨by rw [H1.out.1]; rfl, H1.out.2⟩
        · have hpb : (r.perm / 2 % 2 == 0) = false := by simpa using hp
          have e : accI s.all addr bs.length canW = some i := by unfold accI; rw [hf]; simp only [hrd]; rw [if_pos ⟨by omega, by simp [canW, hp]⟩]
          have HE : Hid (rwriteE s.all addr bs = 0 ∧ rwriteAll s.all addr bs = s.all.set i (rlayR r at_ bs)) := by
            refine ⟨by unfold rwriteE; rw [if_neg h0, e], ?_⟩
            unfold rwriteAll
            rw [if_neg h0, e]
            simp only [hrd, hat, Int.toNat_natCast]
          clear h hov hf hok hg hr hrd hrh e hp
          go_enter Try.func39, Try.ntmps39
          go_wp2_with fail
          refine HO.out.mono ?_
          rintro e w1 ⟨rfl, ht1⟩
          have hM := HM.out.touch ht1 (by simp)
          have hc0 := hM.c0
          rw [HG.out] at hc0
          simp only [slV_some] at hc0
          have c2 := hM.at HG.out HR.out (j := 2) (by omega) rfl
          have c3 := hM.at HG.out HR.out (j := 3) (by omega) rfl
          have HL := toHid (rlay2_any hM i at_ bs.length c r a bs HR.out rfl (by omega) hbb (fun hn => by
            obtain ⟨k, off, e, hk, hby⟩ := hb hn
            exact ⟨k, off, e, hk, hby.touch ht1 (by simp)⟩))
          have HT := toHid ht1
          clear ht1 hM HO hb hbb
          go_wp2_with fail
          refine HL.out.mono ?_
          rintro e w2 ⟨rfl, ⟨q1, q2⟩, q3⟩
          have H9 : Hid (RefStep w s (rwriteAll s.all addr bs) w2) := by
            rw [HE.out.2]
            exact ⟨q1, q2, HT.out.nil.trans q3 (fun x hx => Or.inl hx)⟩
          clear q1 q2 q3 HL
          go_wp2
          go_ret
          exact ⟨by rw [HE.out.1]; rfl, H9.out⟩
      · have HF : ∀ w', Touch [] w w' → Hid (rwriteE s.all addr bs = 10 ∧ RefStep w s (rwriteAll s.all addr bs) w') := fun w' ht => by
          have e : accI s.all addr bs.length canW = none := by unfold accI; rw [hf]; simp only [hrd]; rw [if_neg]; rw [hat]; exact fun hh => hfit hh.1
          refine ⟨by unfold rwriteE; rw [if_neg h0, e], ?_⟩
          unfold rwriteAll
          rw [if_neg h0, e]
          exact RefStep.same h ht
        have HFF := toHid HF
        clear h hb HF hov hf hok hg hr hrd hrh
        go_enter Try.func39, Try.ntmps39
        go_wp2_with fail
        refine HO.out.mono ?_
        rintro e w1 ⟨rfl, ht1⟩
        have hM := HM.out.touch ht1 (by simp)
        have hc0 := hM.c0
        rw [HG.out] at hc0
        simp only [slV_some] at hc0
        have c2 := hM.at HG.out HR.out (j := 2) (by omega) rfl
        have c3 := hM.at HG.out HR.out (j := 3) (by omega) rfl
        have H1 := HFF.out w1 ht1
        clear ht1 hM HFF HO
        go_wp2
        go_ret
        exact ⟨by rw [H1.out.1]; rfl, H1.out.2⟩
end Go.Proofs.Ytkfmhabplcikiaa.Mem
