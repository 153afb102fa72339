/-
  first: what must be answered ahead of everything else is answered.
-/
import Derived.Test.YtbidppeelophhaaNil
namespace Go.Proofs.Ytbidppeelophhaa
open Go.RowKit

/-- A new memory. -/
def MS.new (m : Nat) : MS := ⟨m, none, 0, [], 0⟩
theorem memAt_new (w : World) : MemAt (w.alloc (.cells #[.slice none 0 0, .int .i64 0] 67)) (MS.new w.heap.size) where
  self := Blk.newA w #[.slice none 0 0, .int .i64 0] _ 67 rfl
  row := ⟨rfl, by simp [MS.new], by simp [MS.new], rfl⟩
  regs := fun r hr => by cases hr
  ok := fun r hr => by cases hr
  apart := by simp [MS.blocks, MS.new]
  sorted := List.Pairwise.nil
  ids := List.Pairwise.nil
  idlt := fun r hr => by cases hr
  many := by simp [MS.new]

theorem newM_any (w : World) : Calls Try.prog 10 #[] w fun e w' => e = .returned (.pointer (some ⟨w.heap.size, 0, none⟩)) ∧ MemAt w' (MS.new w.heap.size) ∧ Touch [] w w' :=
  (new_any w).mono (fun e w' ⟨h1, h2⟩ => ⟨h1, by rw [h2]; exact memAt_new w, by rw [h2]; exact (Touch.refl _ w).alloc _⟩)

theorem findR_one (r : Reg) (addr : Int) : findR [r] addr = if hasB r addr = true then some r else none := by
  unfold findR
  rw [List.find?_cons]
  cases hasB r addr <;> rfl

/-- The whole of a good Add on an empty memory. -/
theorem addNew_any {w : World} {m : Nat} (h : MemAt w (MS.new m)) (base size perm : Int) (hb0 : 0 ≤ base) (hb1 : base ≤ 18446744073709551615) (hm : mayBeB base size perm = true) :
    Calls Try.prog 18 #[.pointer (some ⟨m, 0, none⟩), .int .u64 base, .int .i64 size, .int .i64 perm] w fun e w' => e = .returned (.tuple #[.int .i64 0, .int .i64 0]) ∧ Touch [m] w w' ∧ ∃ s', MemAt w' s' ∧ s'.m = m ∧ s'.next = 1 ∧
      (∀ x ∈ s'.blocks, x = m ∨ w.heap.size ≤ x) ∧ ∃ r, s'.rs = [r] ∧ NewReg r 0 base size perm := by
  have he : addE (MS.new m).rs base size perm = 0 := by
    unfold addE
    rw [if_neg (by rw [hm]; decide), if_neg (by simp [busyB, MS.new]), if_neg (by simp [MS.new])]
  refine (add_any h base size perm hb0 hb1 (by simp [MS.new])).mono ?_
  rintro e w' ⟨rfl, ht, s', hs', hown, _, h0⟩
  obtain ⟨hn, i, r, hi, hrs, hr⟩ := h0 he
  refine ⟨by rw [he]; rfl, by simpa [MS.blocks, MS.new] using ht, s', hs', hown.1, hn, fun x hx => ?_, r, ?_, hr⟩
  · have := hown.2 x hx
    simpa [MS.blocks, MS.new] using this
  · rw [hrs]
    simp [MS.new]

theorem first_nums (r : Reg) (h : NewReg r 0 100 4 3) (ho : RegOk r) : storeE [r] 100 4 = 0 ∧ loadE (storeRs [r] 100 4 67305985) 101 2 = 0 ∧ loadV (storeRs [r] 100 4 67305985) 101 2 = 770 := by
  have hb : r.base = 100 := h.hbase
  have hp : r.perm = 3 := h.hperm
  have hby : r.bytes = [0, 0, 0, 0] := h.hbytes
  have hsb : r.sb = none := ho.plain.2 (by rw [hp]; decide)
  have hf : findR [r] 100 = some r := by rw [findR_one, if_pos (by simp [hasB, hb, hby])]
  have hm : mayB r 100 4 2 = true := by
    unfold mayB
    rw [hb, hby, hp]
    decide
  have hrs : storeRs [r] 100 4 67305985 = [layR r 0 [1, 2, 3, 4]] := by
    show (if wordB 4 = true then layRs [r] 100 ((List.range 4).map (byteOf 67305985)) else [r]) = _
    rw [if_pos (show wordB 4 = true from rfl), show (List.range 4).map (byteOf 67305985) = [1, 2, 3, 4] from rfl]
    unfold layRs
    rw [hf]
    show (if mayB r 100 4 2 = true then _ else _) = _
    rw [if_pos hm, hb]
    unfold updR
    simp
  have hby2 : (layR r 0 [1, 2, 3, 4]).bytes = [1, 2, 3, 4] := by simp [layR, hby]
  have hf2 : findR [layR r 0 [1, 2, 3, 4]] 101 = some (layR r 0 [1, 2, 3, 4]) := by
    rw [findR_one, if_pos]
    unfold hasB
    rw [hby2, show (layR r 0 [1, 2, 3, 4]).base = 100 from hb]
    decide
  have hm2 : mayB (layR r 0 [1, 2, 3, 4]) 101 2 1 = true := by
    unfold mayB
    rw [hby2, show (layR r 0 [1, 2, 3, 4]).base = 100 from hb, show (layR r 0 [1, 2, 3, 4]).perm = 3 from hp]
    decide
  have hset : ∀ a n, allSetB (layR r 0 [1, 2, 3, 4]) a n = true := fun a n => by
    unfold allSetB
    rw [show (layR r 0 [1, 2, 3, 4]).sb = none from hsb]
  have hl : lookE [layR r 0 [1, 2, 3, 4]] 101 2 = 0 := by
    unfold lookE
    rw [hf2]
    simp [hm2, hset]
  have ht : tellR [layR r 0 [1, 2, 3, 4]] 101 2 = [2, 3] := by
    unfold tellR
    rw [hf2]
    simp [hm2, hset, hby2, show (layR r 0 [1, 2, 3, 4]).base = 100 from hb]
  refine ⟨?_, ?_, ?_⟩
  · unfold storeE layE
    rw [hf]
    simp [hm, show wordB 4 = true from rfl]
  · rw [hrs]
    unfold loadE
    rw [hl]
    rfl
  · rw [hrs]
    unfold loadV
    rw [hl, ht]
    rfl

set_option maxHeartbeats 1000000 in
set_option maxRecDepth 100000 in
theorem first_any (w : World) : Calls Try.prog 9 #[] w fun e w' => e = .returned (.bool true) ∧ Touch [] w w' := by
  go_enter Try.func9, Try.ntmps9
  go_wp2_with fail
  refine (newM_any w).mono ?_
  rintro e w1 ⟨rfl, hM1, ht1⟩
  have H2 := toHid (addNew_any hM1 100 4 3 (by decide) (by decide) rfl)
  clear hM1
  go_wp2_with fail
  refine H2.out.mono ?_
  rintro e w2 ⟨rfl, ht2, s, hM2, hsm, hsn, hbl, r, hrs, hnr⟩
  have H3 := toHid (store_any hM2 100 4 67305985 (by decide) (by decide) (by decide))
  have hnum := first_nums r hnr (hM2.ok r (by rw [hrs]; simp))
  rw [← hrs] at hnum
  rw [hsm] at H3
  have HSM := toHid hsm
  have HRS := toHid hrs
  have HN := toHid hnum
  have HBL := toHid hbl
  have HT := toHid (And.intro ht1 ht2)
  clear ht1 ht2 hbl hnum hrs hsm hsn hM2 H2 hnr
  go_wp2_with fail
  refine H3.out.mono ?_
  rintro e w3 ⟨rfl, ht3, hM3, hb3⟩
  rw [HN.out.1]
  have H4 := toHid (load_any hM3 101 2 (by decide) (by decide))
  have H5 := fun k => toHid (count_any (hM3.touch ((Touch.refl [] w3).drewN k) (by simp)))
  rw [show ({ s with rs := storeRs s.rs 100 4 67305985 } : MS).m = s.m from rfl, HSM.out] at H4 H5
  have HT3 := toHid ht3
  have hlen : (storeRs s.rs 100 4 67305985).length = 1 := by
    unfold storeRs layRs
    rw [HRS.out]
    split
    · split
      · rfl
      · split
        · simp [updR]
        · rfl
    · rfl
  have HLEN := toHid hlen
  clear ht3 hM3 H3 hb3 hlen
  go_wp2_with fail
  refine H4.out.mono ?_
  rintro e w4 ⟨rfl, k4, rfl⟩
  rw [HN.out.2.1, HN.out.2.2]
  have H6 := H5 k4
  clear H5 H4
  go_wp2_with (go_at_call 12; refine H6.out.mono ?_; rintro e w' ⟨rfl, rfl⟩; rw [HLEN.out])
  go_ret
  refine ⟨rfl, ?_⟩
  have hsz := HT.out.1.size
  refine Touch.drewN ?_ _
  refine Touch.trans (b := w2) (HT.out.1.trans HT.out.2 (fun x hx => Or.inr (by simp at hx; omega))) HT3.out (fun x hx => Or.inr ?_)
  rcases HBL.out x hx with rfl | hx
  · exact Nat.le_refl _
  · omega
end Go.Proofs.Ytbidppeelophhaa
