/-
  What a row's list of variables gives: the environment of the walks; and a world in which they lie so.
-/
import Derived.Test.YthlfnmjefpdjgaaGreatDoorCards
import Derived.Test.YthlfnmjefpdjgaaGreatDoorTie
import Derived.Test.YthlfnmjefpdjgaaGreatDoorEnv
import Derived.WalkKit
import Derived.ProofKit
import Derived.OpenShut
import Derived.Deep.DeepHandedRow
import Derived.Deep.DeepWitnessRowRef
import Derived.Lib.LaidTab
import Derived.Stop.LaidErr
namespace Go.Proofs.YthlfnmjefpdjgaaGreatDoor
open Go.ChangeShapes Go.WideShapes Go.ChangeAt Go.RowKit

theorem laid_var {P : Program} {w : World} : ∀ {l : List (String × DataW Unit)} {ps : List MemPlace}, DataW.LaidVars P w l ps → ∀ n d, (n, d) ∈ l → ∃ g t cs fuel p, P.globalNamed n = some g ∧ (P.globals[g]?).map (·.type) = some t ∧ w.var? P n = some cs ∧ DataW.trod (fun _ => ()) P w 0 (fun _ => true) false fuel t cs.toList = some (d, p)
  | [], _, _, _, _, hm => by cases hm
  | (n', d') :: r, ps, h, n, d, hm => by
    obtain ⟨g, t, cs, fuel, p, q, h1, h2, h3, h4, h5, _⟩ := h
    rcases List.mem_cons.1 hm with e | e
    · cases e
      exact ⟨g, t, cs, fuel, p, h1, h2, h3, h4⟩
    · exact laid_var h5 n d e
def strData {H : Type} (ss : List Bs) : DataW H := .agg (ss.map fun s => .lit (.string s))
theorem strs_of_tab {H : Type} {enc : TypeId × Value → H} {P : Program} {w : World} {base : Nat} {sp : Nat → Bool} {held : Bool} {fuel : Nat} {t e : TypeId} {n : Nat} {cs : List Value} {ss : List Bs} {p : List MemPlace}
    (ht : P.underlying t = some (.array n e)) (he : P.underlying e = some .string) (hce : P.cellsOf e = 1) (hct : P.cellsOf t = n)
    (h : DataW.trod enc P w base sp held fuel t cs = some (strData ss, p)) : cs = ss.map fun s => str s := by
  cases fuel with
  | zero => simp [DataW.trod] at h
  | succ fuel =>
    simp only [DataW.trod, ht, hce, hct, Nat.mul_one] at h
    split at h
    · rename_i hl
      obtain ⟨xs, hm, hx⟩ := Option.map_eq_some_iff.1 h
      have hxs : xs.map (·.1) = ss.map fun s => (DataW.lit (.string s) : DataW H) := by
        have := congrArg Prod.fst hx
        simpa [strData] using this
      have hxl : xs.length = n := by simpa using Lib.mapM_length hm
      have hzl : ss.length = n := by
        have := congrArg List.length hxs
        simp at this
        omega
      apply List.ext_getElem?
      intro i
      by_cases hi : i < n
      · obtain ⟨b, hb, hf⟩ := Lib.mapM_at hm i i (by simp [hi])
        obtain ⟨s, hc, rfl, _⟩ := DataW.trod_string he hf
        have h1 : cs[i]? = some (.string s) := by
          have := congrArg (·[0]?) hc
          simpa [List.getElem?_take, List.getElem?_drop] using this
        have h2 : (xs.map (·.1))[i]? = some (DataW.lit (.string s.data.toList) : DataW H) := by simp [hb]
        rw [hxs] at h2
        simp only [List.getElem?_map, Option.map_eq_some_iff, DataW.lit.injEq, Lit.string.injEq] at h2
        obtain ⟨z', hz', he'⟩ := h2
        rw [h1, List.getElem?_map, hz']
        simp only [Option.map_some, Option.some.injEq, str, Value.string.injEq]
        rw [he']
      · rw [List.getElem?_eq_none (by omega), List.getElem?_eq_none (by simp; omega)]
    · cases h
theorem laidOut : laidOutB Tryz.prog = true := by kernel_rfl
theorem own : ownKnob Tryz.prog.godebug = none := by kernel_rfl
theorem star : "*" ++ "errors.errorString" = "*errors.errorString" := by decide
theorem row158 (u : TypeId) (h : Tryz.prog.typeName? 3 u = some "*errors.errorString") : u = 158 :=
  typeName_ptr_named (nm := "errors.errorString") (by rw [star]; kernel_rfl) (by kernel_rfl) (by decide) u (by rw [star]; exact h)
theorem strs_cell {P : Program} {W : World} {n : String} {g : Nat} {t : TypeId} {k : Nat} {ss : List Bs} {cs : Array Value} {fuel : Nat} {p : List MemPlace} {g' : Nat} {t' : TypeId} (hg : P.globalNamed n = some g) (hty : (P.globals[g]?).map (·.type) = some t) (hg' : P.globalNamed n = some g') (hty' : (P.globals[g']?).map (·.type) = some t') (hu : P.underlying t = some (.array k 9)) (he : P.underlying 9 = some .string) (hce : P.cellsOf 9 = 1) (hct : P.cellsOf t = k)
    (hv : W.var? P n = some cs) (hd : DataW.trod (fun _ => ()) P W 0 (fun _ => true) false fuel t' cs.toList = some (strData ss, p)) (i : Nat) (s : Bs) (hs : ss[i]? = some s) : W.cell? ⟨g, i, none⟩ = some (str s) := by
  obtain rfl := Option.some.inj (hg.symm.trans hg')
  obtain rfl := Option.some.inj (hty.symm.trans hty')
  have e := strs_of_tab hu he hce hct hd
  have := World.var?_cell hg hv i
  rw [this, ← Array.getElem?_toList, e, List.getElem?_map, hs]
  rfl
theorem cells9' : Tryz.prog.cellsOf 9 = 1 := by kernel_rfl

/-- What the list gives. -/
theorem env_of {W : World} (hL : laidMet Tryz.prog Rows.asmAgainRow.laid W) (hsh : W.ShapedOpen Tryz.prog) : Env W := by
  have hL0 := hL
  obtain ⟨ps, hv, _⟩ := hL0
  refine ⟨?_, ?_, ?_, ?_, Tryz.laysM145.s1_3 W hsh, ?_, ?_, ?_, ?_⟩
  · obtain ⟨g, t, cs, fuel, p, h1, h2, h3, h4⟩ := laid_var hv "postern/asm.accessNames" Rows.laid_postern_asm_accessNames (by simp [Rows.asmAgainRow])
    exact fun i s hs => strs_cell (g := 0) (t := 96) (ss := accN) (by kernel_rfl) (by kernel_rfl) h1 h2 Tryz.underlying96 Tryz.underlying9 cells9' (by kernel_rfl) h3 h4 i s hs
  · obtain ⟨g, t, cs, fuel, p, h1, h2, h3, h4⟩ := laid_var hv "postern/asm.sizeNames" Rows.laid_postern_asm_sizeNames (by simp [Rows.asmAgainRow])
    exact fun i s hs => strs_cell (g := 1) (t := 97) (ss := sizN) (by kernel_rfl) (by kernel_rfl) h1 h2 Tryz.underlying97 Tryz.underlying9 cells9' (by kernel_rfl) h3 h4 i s hs
  · obtain ⟨g, t, cs, fuel, p, h1, h2, h3, h4⟩ := laid_var hv "postern/asm.aluNames" Rows.laid_postern_asm_aluNames (by simp [Rows.asmAgainRow])
    exact fun i s hs => strs_cell (g := 2) (t := 98) (ss := aluN) (by kernel_rfl) (by kernel_rfl) h1 h2 Tryz.underlying98 Tryz.underlying9 cells9' (by kernel_rfl) h3 h4 i s hs
  · obtain ⟨g, t, cs, fuel, p, h1, h2, h3, h4⟩ := laid_var hv "postern/asm.jumpNames" Rows.laid_postern_asm_jumpNames (by simp [Rows.asmAgainRow])
    exact fun i s hs => strs_cell (g := 3) (t := 99) (ss := jmpN) (by kernel_rfl) (by kernel_rfl) h1 h2 Tryz.underlying99 Tryz.underlying9 cells9' (by kernel_rfl) h3 h4 i s hs
  · exact Lib.tabIs_of_head (g := 5) (t := 138) (e := 76) (n := 20) (by kernel_rfl) (by kernel_rfl) Tryz.underlying138 Tryz.underlying76 (by kernel_rfl) (by kernel_rfl) (hL.tail.tail : laidMet Tryz.prog (("internal/strconv.uint64pow10", Lib.tabData .u64 Lib.pow10Tab) :: _) W)
  · obtain ⟨a, s, h, _⟩ := laid_sentinel (g := 8) (ti := 48) (tp := 158) (te := 160) (ts := 9) hL.tail.tail.tail.tail.tail (by kernel_rfl) (by kernel_rfl) Tryz.underlying48 row158 Tryz.underlying158 Tryz.underlying160 rfl rfl Tryz.underlying9 (by kernel_rfl) cells9'
    exact ⟨_, _, h⟩
  · obtain ⟨a, s, h, _⟩ := laid_sentinel (g := 9) (ti := 48) (tp := 158) (te := 160) (ts := 9) hL.tail.tail.tail.tail (by kernel_rfl) (by kernel_rfl) Tryz.underlying48 row158 Tryz.underlying158 Tryz.underlying160 rfl rfl Tryz.underlying9 (by kernel_rfl) cells9'
    exact ⟨_, _, h⟩
  · obtain ⟨g, t, cs, fuel, p, h1, _, h3, _⟩ := laid_var hv "math/bits.deBruijn64tab" Rows.laid_math_bits_deBruijn64tab (by simp [Rows.asmAgainRow])
    have e : Tryz.prog.globalNamed "math/bits.deBruijn64tab" = some 11 := by kernel_rfl
    unfold World.var? at h3
    rw [e] at h3
    simp only [Option.bind_some] at h3
    split at h3
    · rename_i hh
      exact (Array.getElem?_eq_some_iff.1 hh).1
    · cases h3

/-- A world in which the variables lie as the program's text lays them. -/
noncomputable def laidWorld (os : Os) : World :=
  let N := (World.settled Tryz.prog os).heap.size
  let w0 := World.holding Tryz.prog os ⟨#[.cells #[.string ⟨#[118, 97, 108, 117, 101, 32, 111, 117, 116, 32, 111, 102, 32, 114, 97, 110, 103, 101]⟩] 160, .cells #[.string ⟨#[105, 110, 118, 97, 108, 105, 100, 32, 115, 121, 110, 116, 97, 120]⟩] 160], #[], []⟩
  let put (h : Array Obj) (g : Nat) (cs : Array Value) : Array Obj := h.modify g fun
    | .cells _ t frozen => .cells cs t frozen
    | o => o
  let h0 := put w0.heap 0 (accN.map str).toArray
  let h1 := put h0 1 (sizN.map str).toArray
  let h2 := put h1 2 (aluN.map str).toArray
  let h3 := put h2 3 (jmpN.map str).toArray
  let h5 := put h3 5 (Lib.pow10Tab.map fun z => Value.int .u64 z).toArray
  let h6 := put h5 6 (Go.Pinned.utf8FirstZ.map fun z : Nat => Value.int .u8 (z : Int)).toArray
  let h7 := put h6 7 (#[128, 191, 160, 191, 128, 159, 144, 191, 128, 143, 0, 0, 0, 0, 0, 0, 0, 0, 0, 0, 0, 0, 0, 0, 0, 0, 0, 0, 0, 0, 0, 0].map fun z : Int => Value.int .u8 z)
  let h8 := put h7 8 #[.iface 158 (.pointer (some ⟨N + 1, 0, none⟩))]
  let h9 := put h8 9 #[.iface 158 (.pointer (some ⟨N, 0, none⟩))]
  let h10 := put h9 10 (#[0, 1, 28, 2, 29, 14, 24, 3, 30, 22, 20, 15, 25, 17, 4, 8, 31, 27, 13, 23, 21, 19, 16, 7, 26, 12, 18, 6, 11, 5, 10, 9].map fun z : Int => Value.int .u8 z)
  let h11 := put h10 11 (#[0, 1, 56, 2, 57, 49, 28, 3, 61, 58, 42, 50, 38, 29, 17, 4, 62, 47, 59, 36, 45, 43, 51, 22, 53, 39, 33, 30, 24, 18, 12, 5, 63, 55, 48, 27, 60, 41, 37, 16, 46, 35, 44, 21, 52, 32, 23, 11, 54, 26, 40, 15, 34, 20, 31, 10, 25, 14, 19, 9, 13, 8, 7, 6].map fun z : Int => Value.int .u8 z)
  { w0 with heap := h11 }
set_option maxRecDepth 100000 in
theorem laid_met (os : Os) (args : Array Value) : laidMet Tryz.prog Rows.asmAgainRow.laid ((laidWorld os).forCall (fun _ _ => 0) ⟨#[], args, []⟩).memory :=
  laidMet_of_run' 8 (by kernel_rfl) (by kernel_rfl)
end Go.Proofs.YthlfnmjefpdjgaaGreatDoor
