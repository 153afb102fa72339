/-
  Kill of a memory's region.
-/
import Derived.Test.YtkfmhabplcikiaaMApi3
import Derived.Test.YtkfmhabplcikiaaMAdd
import Derived.Deep.RegionLaw
namespace Go.Proofs.Ytkfmhabplcikiaa.Mem
open Go.RowKit

theorem info79' : (Try.prog.info? 70).map (fun i => (i.zero, i.size, i.bytes)) = some (some (.pointer none), 1, 8) := by kernel_rfl

theorem step_append_known {P : Program} {ops : Array Oper} {o : Oper} {a : Act} {w : World} {K : Act → World → Prop} {Q : Exit → Act → World → Prop} {E : Prop}
    (hg : o.guard = none) (d x : Operand) (dT sT : TypeId) (hop : o.op = Op.call { callee := Callee.builtin Builtin.append, args := #[d, x], argTypes := #[dT, sT] })
    (v u : Value) (hd : a.eval d = v) (hx : a.eval x = u) {v' : Value} {w' : World} (hr : (Builtin.append_ #[dT, sT] o.type #[v, u]).run P w = .ok v' w') (hK : K (a.put o.dst v') w') :
    if Region.wanted o (yielded ops a.tmps) = true then Oper.wp P o a w K Q else E := by
  rw [if_pos (by simp [Region.wanted, hg])]
  unfold Oper.wp
  simp only [execOp, hop, resolve, invoke, builtin, Sem.run_bind, Sem.run_pure, Result.andThen_ok, List.map_toArray, List.map_cons, List.map_nil, hd, hx, hr]
  exact hK

def killE (rs : List Reg) (id : Int) : Int := if (regOf rs id).isSome = true then 0 else 14
def killRs (rs : List Reg) (id : Int) : List Reg := rs.filter (fun r => r.id != id)

def KillPost (w : World) (s : MS) (id : Int) (e : Ending) (w' : World) : Prop :=
  e = .returned (.int .i64 (killE s.rs id)) ∧ Touch s.blocks w w' ∧ ∃ s', MemAt w' s' ∧ Own w s s' ∧ s'.next = s.next ∧ s'.rs = killRs s.rs id

theorem killRs_idx {l : List Reg} (h : l.Pairwise (fun a b => a.id ≠ b.id)) {i : Nat} {r : Reg} (hr : l[i]? = some r) : killRs l r.id = l.take i ++ l.drop (i + 1) := by
  obtain ⟨hi, hri⟩ := List.getElem?_eq_some_iff.1 hr
  unfold killRs
  have e : l = l.take i ++ r :: l.drop (i + 1) := by rw [← hri, ← List.drop_eq_getElem_cons hi, List.take_append_drop]
  have hp := List.pairwise_iff_getElem.1 h
  conv => lhs; arg 2; rw [e]
  rw [List.filter_append, List.filter_cons]
  simp only [bne_self_eq_false, Bool.false_eq_true, ↓reduceIte]
  congr 1
  · rw [List.filter_eq_self]
    intro x hx
    obtain ⟨j, hj, rfl⟩ := List.getElem_of_mem hx
    rw [List.length_take] at hj
    rw [List.getElem_take]
    have := hp j i (by omega) hi (by omega)
    rw [hri] at this
    simpa using this
  · rw [List.filter_eq_self]
    intro x hx
    obtain ⟨j, hj, rfl⟩ := List.getElem_of_mem hx
    rw [List.length_drop] at hj
    rw [List.getElem_drop]
    have := hp i (i + 1 + j) hi (by omega) (by omega)
    rw [hri] at this
    simpa using Ne.symm this

theorem MemAt.killed {w w' : World} {s : MS} (h : MemAt w s) {b i : Nat} (hg : s.g = some b) (hi : i < s.rs.length) {g' : Option Nat} {cap' : Nat}
    (hm : Blk w' s.m [slV g' (i + (s.rs.length - (i + 1))) cap', .int .i64 s.next] 66) (hrow : RowAt w' 70 1 g' (i + (s.rs.length - (i + 1))) cap' ((s.rs.take i ++ s.rs.drop (i + 1)).map Reg.ptr))
    (ht : Touch [s.m, b] w w') (hg' : g' = some b ∨ ∃ x, g' = some x ∧ w.heap.size ≤ x) : MemAt w' ⟨s.m, g', cap', s.rs.take i ++ s.rs.drop (i + 1), s.next⟩ ∧ ∀ x ∈ (⟨s.m, g', cap', s.rs.take i ++ s.rs.drop (i + 1), s.next⟩ : MS).blocks, x ∈ s.blocks ∨ w.heap.size ≤ x := by
  have hl : (s.rs.take i ++ s.rs.drop (i + 1)).length = i + (s.rs.length - (i + 1)) := by simp; omega
  have hsub : (s.rs.take i ++ s.rs.drop (i + 1)).Sublist s.rs := by
    conv => rhs; rw [← List.take_append_drop i s.rs]
    exact List.Sublist.append (List.Sublist.refl _) (by
      have : s.rs.drop (i + 1) = (s.rs.drop i).drop 1 := by rw [List.drop_drop]
      rw [this]
      exact List.drop_sublist 1 _)
  have hmem : ∀ x ∈ s.rs.take i ++ s.rs.drop (i + 1), x ∈ s.rs := fun x hx => hsub.subset hx
  have hap := h.apart
  simp only [MS.blocks, List.cons_append, List.nodup_cons, List.mem_append, List.nodup_append] at hap
  have hlt := h.lt
  have hbl : ∀ x ∈ (s.rs.take i ++ s.rs.drop (i + 1)).flatMap Reg.blocks, x ∈ s.rs.flatMap Reg.blocks := fun x hx => by
    obtain ⟨y, hy, hx⟩ := List.mem_flatMap.1 hx
    exact List.mem_flatMap.2 ⟨y, hmem y hy, hx⟩
  have hbb : b ∈ s.g.toList := by simp [hg]
  refine ⟨⟨?_, ?_, ?_, fun x hx => h.ok x (hmem x hx), ?_, h.sorted.sublist hsub, h.ids.sublist hsub, fun x hx => h.idlt x (hmem x hx), ?_⟩, ?_⟩
  · show Blk w' s.m [slV g' (s.rs.take i ++ s.rs.drop (i + 1)).length cap', .int .i64 s.next] 66
    rw [hl]; exact hm
  · show RowAt w' 70 1 g' (s.rs.take i ++ s.rs.drop (i + 1)).length cap' _
    rw [hl]; exact hrow
  · intro x hx
    refine (h.regs x (hmem x hx)).touch ht (fun y hy hh => ?_)
    have hyb : y ∈ s.rs.flatMap Reg.blocks := List.mem_flatMap.2 ⟨x, hmem x hx, hy⟩
    simp at hh
    rcases hh with rfl | rfl
    · exact hap.1 (Or.inr hyb)
    · exact hap.2.2.2 y hbb y hyb rfl
  · show (s.m :: g'.toList ++ (s.rs.take i ++ s.rs.drop (i + 1)).flatMap Reg.blocks).Nodup
    have hmlt := hlt s.m s.mem_m
    rw [List.cons_append, List.nodup_cons, List.nodup_append]
    refine ⟨?_, ?_, List.Nodup.sublist ?_ hap.2.2.1, ?_⟩
    · intro hx
      rcases List.mem_append.1 hx with hx | hx
      · rcases hg' with rfl | ⟨y, rfl, hy⟩
        · exact hap.1 (Or.inl (by simp at hx; rw [hx]; exact hbb))
        · simp at hx; omega
      · exact hap.1 (Or.inr (hbl _ hx))
    · cases g' <;> simp
    · have e : s.rs = s.rs.take i ++ ([s.rs[i]] ++ s.rs.drop (i + 1)) := by rw [List.singleton_append, ← List.drop_eq_getElem_cons hi, List.take_append_drop]
      have e2 : s.rs.flatMap Reg.blocks = (s.rs.take i).flatMap Reg.blocks ++ (([s.rs[i]] : List Reg).flatMap Reg.blocks ++ (s.rs.drop (i + 1)).flatMap Reg.blocks) := by
        rw [← List.flatMap_append, ← List.flatMap_append, ← e]
      rw [e2, List.flatMap_append]
      exact List.Sublist.append (List.Sublist.refl _) (List.sublist_append_right _ _)
    · intro a ha c hc hac
      subst hac
      have h1 := hbl _ hc
      rcases hg' with rfl | ⟨y, rfl, hy⟩
      · simp at ha
        subst ha
        exact hap.2.2.2 a hbb a h1 rfl
      · simp at ha
        subst ha
        obtain ⟨z, hz, hx⟩ := List.mem_flatMap.1 h1
        have := hlt a (s.mem_r hz hx)
        omega
  · show (s.rs.take i ++ s.rs.drop (i + 1)).length ≤ 4096
    have := h.many
    omega
  · intro x hx
    simp only [MS.blocks, List.cons_append, List.mem_cons, List.mem_append] at hx ⊢
    rcases hx with hx | hx | hx
    · exact Or.inl (Or.inl hx)
    · rcases hg' with rfl | ⟨y, rfl, hy⟩
      · exact Or.inl (Or.inr (Or.inl (by simp at hx; rw [hx]; exact hbb)))
      · simp at hx
        exact Or.inr (by omega)
    · exact Or.inl (Or.inr (Or.inr (hbl _ hx)))

theorem set_mid (l rest : List Value) (i : Nat) (v : Value) (hi : i < l.length) : (l ++ rest).set i v = l.take i ++ (v :: (l.drop (i + 1) ++ rest)) := by
  rw [List.set_append_left _ _ hi, List.set_eq_take_append_cons_drop, if_pos hi]
  simp

set_option maxHeartbeats 2000000 in
set_option maxRecDepth 100000 in
theorem kill_any {w : World} {s : MS} (h : MemAt w s) (id : Int) :
    Calls Try.prog 47 #[.pointer (some ⟨s.m, 0, none⟩), .int .i64 id] w (KillPost w s id) := by
  have HI := toHid (index_any h id)
  rcases idxR_cases h id with ⟨h1, h2⟩ | ⟨i, r, h1, hi, h2, h3, rfl⟩
  · rw [h1] at HI
    have HF : ∀ w', Touch [] w w' → Hid (KillPost w s id (.returned (.int .i64 14)) w') := fun w' ht => by
      refine ⟨by unfold killE; rw [regOf_none h2]; rfl, ht.nil, s, h.touch ht (by simp), Own.refl w s, rfl, ?_⟩
      unfold killRs
      rw [List.filter_eq_self.2]
      intro x hx
      simpa using h2 x hx
    have HFF := toHid HF
    clear h h1 h2 HF
    go_enter Try.func47, Try.ntmps47
    go_wp2_with (go_at_call 45; refine HI.out.mono ?_; rintro e w' ⟨rfl, ht⟩; have HT := toHid ht; clear ht)
    go_ret
    exact (HFF.out _ HT.out).out
  · rw [h1] at HI
    have hr := List.mem_of_getElem? h2
    have HR := toHid (regOf_some h hr)
    have HK := toHid (killRs_idx h.ids h2)
    have HM := toHid h
    have hmany := h.many
    cases hg : s.g with
    | none => have := (h.nil hg).1; rw [this] at hi; simp at hi
    | some b =>
    have HG := toHid hg
    clear h h1 h2 h3 hg hr
    go_enter Try.func47, Try.ntmps47
    go_wp2_with fail
    refine HI.out.mono ?_
    rintro e w1 ⟨rfl, ht1⟩
    have hM := HM.out.touch ht1 (by simp)
    have hrow := hM.row
    rw [HG.out] at hrow
    obtain ⟨_, hnc, hcm, rest, hb, hcap⟩ := hrow
    have hap := hM.apart
    simp only [MS.blocks, List.cons_append, List.nodup_cons, List.mem_append, List.nodup_append] at hap
    have hmb : ¬ s.m = b := fun e => hap.1 (Or.inl (by rw [HG.out, e]; simp))
    have hbm : ¬ b = s.m := fun e => hmb e.symm
    have hpl : (s.rs.map Reg.ptr).length = s.rs.length := by simp
    simp only [Nat.mul_one, List.length_append, hpl] at hcap
    have hc0 := hM.c0
    rw [HG.out] at hc0
    simp only [slV_some] at hc0
    have hci := hb.cellN (i := i) (by rw [List.length_append, hpl]; omega)
    have hfi := hb.frozen i
    -- behind the store
    have hb2 := hb.setCell i (.pointer none)
    rw [set_mid _ _ _ _ (by rw [hpl]; exact hi)] at hb2
    have hm2 := hM.self.setCell_other ⟨b, i, none⟩ (.pointer none) hmb
    have ht2 : Touch [s.m, b] w (w1.setCell ⟨b, i, none⟩ (.pointer none)) := ht1.nil.setCell _ _ (Or.inl (by simp))
    obtain ⟨i0, hi0, hz0, hzs, hzb⟩ := info_of info79'
    have hap2 : ∀ (a : Addr) c, (s.rs.length - (i + 1) ≠ 0 → a = ⟨b, i + 1, none⟩) → ∃ g' cap' w', (Builtin.append_ #[64, 64] 64 #[slV (some b) i i, .slice (some a) (s.rs.length - (i + 1)) c]).run Try.prog (w1.setCell ⟨b, i, none⟩ (.pointer none)).drew = .ok (slV g' (i + (s.rs.length - (i + 1))) cap') w' ∧
        RowAt w' 70 1 g' (i + (s.rs.length - (i + 1))) cap' ((s.rs.map Reg.ptr).take i ++ (s.rs.map Reg.ptr).drop (i + 1)) ∧ Touch (some b).toList (w1.setCell ⟨b, i, none⟩ (.pointer none)).drew w' ∧ (g' = some b ∨ g' = some (w1.setCell ⟨b, i, none⟩ (.pointer none)).drew.heap.size) ∧
        (g' = some (w1.setCell ⟨b, i, none⟩ (.pointer none)).drew.heap.size → (w1.setCell ⟨b, i, none⟩ (.pointer none)).drew.heap.size < w'.heap.size) := fun a c ha =>
      run_append_row (P := Try.prog) _ 64 64 70 i0 (.pointer none) 1 Try.underlying64 hi0 hz0 hzs rfl (by omega) (some b) i i _
        ⟨by simp; omega, Nat.le_refl _, by unfold maxLen; omega, _, hb2.drew, by simp; omega⟩ a _ c ((s.rs.map Reg.ptr).drop (i + 1)) (by simp) (fun j v hj => by
          have hj2 := (List.getElem?_eq_some_iff.1 hj).1
          rw [List.length_drop, hpl] at hj2
          rw [ha (by omega), Addr.add_lit]
          refine hb2.drew.cell ?_
          rw [List.getElem?_append_right (by simp; omega)]
          simp only [List.length_take, hpl]
          rw [show i + 1 + j - min i s.rs.length = j + 1 by omega, List.getElem?_cons_succ, List.getElem?_append_left (by rw [List.length_drop, hpl]; omega)]
          exact hj) (fun u hu => by
            obtain ⟨x, _, rfl⟩ := List.mem_map.1 (List.mem_of_mem_drop hu)
            rfl) (by rw [hzb]; omega) (by omega)
    have HCL : ∀ g' cap' w', RowAt w' 70 1 g' (i + (s.rs.length - (i + 1))) cap' ((s.rs.map Reg.ptr).take i ++ (s.rs.map Reg.ptr).drop (i + 1)) → Touch (some b).toList (w1.setCell ⟨b, i, none⟩ (.pointer none)).drew w' →
        (g' = some b ∨ g' = some (w1.setCell ⟨b, i, none⟩ (.pointer none)).drew.heap.size) → Hid (w'.cell? ⟨s.m, 0, none⟩ = some (slV s.g s.rs.length s.cap) ∧ w'.frozen? ⟨s.m, 0, none⟩ = false ∧
        KillPost w s r.id (.returned (.int .i64 0)) (w'.setCell ⟨s.m, 0, none⟩ (slV g' (i + (s.rs.length - (i + 1))) cap'))) := fun g' cap' w' hr1 ht3 hg1 => by
      have hm3 := ht3.blk hm2.drew (by simp; exact hmb)
      refine ⟨hm3.cell rfl, hm3.frozen 0, ?_⟩
      have hm4 := hm3.setCell 0 (slV g' (i + (s.rs.length - (i + 1))) cap')
      have hgm : ∀ x, g' = some x → x ∉ [s.m] := fun x hx hh => by
        simp at hh
        subst hh
        rcases hg1 with rfl | rfl
        · injection hx with hx; exact hmb hx.symm
        · injection hx with hx
          have := hM.lt s.m s.mem_m
          simp at hx
          omega
      have ht34 : Touch [s.m] w' (w'.setCell ⟨s.m, 0, none⟩ (slV g' (i + (s.rs.length - (i + 1))) cap')) := (Touch.refl _ w').setCell _ _ (Or.inl (by simp))
      have ht4 : Touch [s.m, b] w (w'.setCell ⟨s.m, 0, none⟩ (slV g' (i + (s.rs.length - (i + 1))) cap')) :=
        (ht2.drew.trans ht3 (fun x hx => Or.inl (by simp at hx; simp [hx]))).setCell _ _ (Or.inl (by simp))
      have hk := HM.out.killed HG.out hi hm4 (by rw [List.map_append, List.map_take, List.map_drop]; exact hr1.touch ht34 hgm) ht4 (by
        rcases hg1 with rfl | rfl
        · exact Or.inl rfl
        · refine Or.inr ⟨_, rfl, ?_⟩
          have := ht1.size
          simpa using this)
      refine ⟨by unfold killE; rw [HR.out]; rfl, ht4.mono (fun x hx => Or.inl ?_), _, hk.1, ⟨rfl, hk.2⟩, rfl, by rw [HK.out]⟩
      simp at hx
      rcases hx with rfl | rfl
      · exact s.mem_m
      · exact s.mem_g HG.out
    have HA := toHid hap2
    have HCC := toHid HCL
    clear hap2 HCL hb2 hm2 ht2 hb hM ht1 HI
    have hbc : w1.cell? ⟨s.m, 0, none⟩ = some (.slice (some ⟨b, 0, none⟩) s.rs.length s.cap) := hc0
    unfold maxLen at hcm
    have q1 : (i : Int) < s.rs.length := by omega
    have q2 : (i : Int) + 1 ≤ s.rs.length := by omega
    have q3 : (0 : Int) ≤ (i : Int) + 1 := by omega
    have q4 : ((i : Int) + 1).toNat = i + 1 := by omega
    have q5 : IntKind.i64.wrap ((i : Int) + 1) = (i : Int) + 1 := by rw [IntKind.wrap_i64]; omega
    have q6 : (i : Int) ≤ s.cap := by omega
    have q7 : (0 : Int) ≤ (i : Int) := by omega
    by_cases hcc : s.cap = i + 1
    · obtain ⟨g', cap', w', hr, h2, h3, h4, _⟩ := HA.out ⟨b, 0, none⟩ 0 (fun hh => by omega)
      have q8 : (i : Int) ≤ (i : Int) + 1 := by omega
      have H9 := HCC.out g' cap' w' h2 h3 h4
      have HRR := toHid hr
      have e0 := H9.out.1
      have f0 := H9.out.2.1
      have HK9 := toHid H9.out.2.2
      simp only [slV] at HRR HK9 e0
      clear HA HCC hr h2 h3 h4 H9
      go_wp2_with fail
      go_region_law (refine step_append_known rfl _ _ 64 64 rfl (.slice (some ⟨b, 0, none⟩) i i) (.slice (some ⟨b, 0, none⟩) (s.rs.length - (i + 1)) 0) (by simp [Act.eval, Act.put]) (by simp [Act.eval, Act.put]) HRR.out ?_)
      all_goals
        go_wp2
        go_ret
        exact HK9.out
    · obtain ⟨g', cap', w', hr, h2, h3, h4, _⟩ := HA.out ⟨b, i + 1, none⟩ (s.cap - (i + 1)) (fun _ => rfl)
      have H9 := HCC.out g' cap' w' h2 h3 h4
      have HRR := toHid hr
      have e0 := H9.out.1
      have f0 := H9.out.2.1
      have HK9 := toHid H9.out.2.2
      simp only [slV] at HRR HK9 e0
      clear HA HCC hr h2 h3 h4 H9
      go_wp2_with fail
      go_region_law (refine step_append_known rfl _ _ 64 64 rfl (.slice (some ⟨b, 0, none⟩) i i) (.slice (some ⟨b, i + 1, none⟩) (s.rs.length - (i + 1)) (s.cap - (i + 1))) (by simp [Act.eval, Act.put]) (by simp [Act.eval, Act.put]) HRR.out ?_)
      all_goals
        go_wp2
        go_ret
        exact HK9.out
end Go.Proofs.Ytkfmhabplcikiaa.Mem
