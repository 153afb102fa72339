/-
  The tree of bits in memory; longest and at.
-/
import Derived.Test.YtlkbaconlngmjaaTPath
import Derived.Deep.Trees
import Derived.Deep.QuietTactic
namespace Go.Proofs.Ytlkbaconlngmjaa
open Go.RowKit Go.Deep

/-- A tree: at each node whether a key ends there, and its slot. -/
abbrev Tr := BT (Bool × Nat)
def adT : Tr → Option Addr
  | .nil => none
  | .node b o _ _ _ => some ⟨b, o, none⟩
theorem ptr_ad (T : Tr) : T.ptr = .pointer (adT T) := by cases T <;> rfl
def bsT : Tr → List Nat
  | .nil => []
  | .node b _ _ l r => b :: (bsT l ++ bsT r)
def TrAt (w : World) : Tr → Prop
  | .nil => True
  | .node b o a l r => o = 0 ∧ Blk w b [l.ptr, r.ptr, .bool a.1, .int .i64 (a.2 : Int)] 84 ∧ TrAt w l ∧ TrAt w r
def okT : Tr → Prop
  | .nil => True
  | .node _ _ a l r => (a.1 = false → a.2 = 0) ∧ okT l ∧ okT r
def depT : Tr → Nat
  | .nil => 0
  | .node _ _ _ l r => 1 + max (depT l) (depT r)
def heldT (a : Bool × Nat) : Option Nat := if a.1 = true then some a.2 else none
def atT : Tr → List Bool → Option Nat
  | .nil, _ => none
  | .node _ _ a _ _, [] => heldT a
  | .node _ _ _ l _, false :: p => atT l p
  | .node _ _ _ _ r, true :: p => atT r p
def longT : Tr → List Bool → Option Nat
  | .nil, _ => none
  | .node _ _ a _ _, [] => heldT a
  | .node _ _ a l _, false :: p => (longT l p).or (heldT a)
  | .node _ _ a _ r, true :: p => (longT r p).or (heldT a)
theorem TrAt.touch {S : List Nat} {w w' : World} : ∀ {T : Tr}, TrAt w T → Touch S w w' → (∀ x ∈ bsT T, x ∉ S) → TrAt w' T
  | .nil, _, _, _ => trivial
  | .node b o a l r, h, ht, hn => ⟨h.1, ht.blk h.2.1 (hn b (by simp [bsT])), TrAt.touch h.2.2.1 ht (fun x hx => hn x (by simp [bsT, hx])), TrAt.touch h.2.2.2 ht (fun x hx => hn x (by simp [bsT, hx]))⟩
theorem TrAt.lt {w : World} : ∀ {T : Tr}, TrAt w T → ∀ x ∈ bsT T, x < w.heap.size
  | .nil, _, x, hx => by cases hx
  | .node b o a l r, h, x, hx => by
    simp only [bsT, List.mem_cons, List.mem_append] at hx
    rcases hx with rfl | hx | hx
    · exact h.2.1.lt
    · exact TrAt.lt h.2.2.1 x hx
    · exact TrAt.lt h.2.2.2 x hx
/-- A row of bits where a slice says. -/
def PathAt (w : World) (sa : Option Addr) (p : List Bool) : Prop := p.length ≤ 1000 ∧ (1 ≤ p.length → ∃ b off, sa = some ⟨b, off, none⟩ ∧ ∀ j, j < p.length → w.cell? ⟨b, off + j, none⟩ = some (.int .i64 (bI (p.getD j false))))
theorem PathAt.drewN {w : World} {sa : Option Addr} {p : List Bool} (h : PathAt w sa p) (n : Nat) : PathAt (w.drewN n) sa p := h
theorem PathAt.still {w w' : World} {sa : Option Addr} {p : List Bool} (h : PathAt w sa p) (ht : Touch [] w w') : PathAt w' sa p := by
  refine ⟨h.1, fun hl => ?_⟩
  obtain ⟨b, off, e, hc⟩ := h.2 hl
  exact ⟨b, off, e, fun j hj => ht.cell (hc j hj) (by simp)⟩
/-- Behind the first bit. -/
theorem PathAt.tail {w : World} {b off : Nat} {c x : Bool} {p : List Bool} (h : PathAt w (some ⟨b, off, none⟩) (c :: x :: p)) : PathAt w (some ⟨b, off + 1, none⟩) (x :: p) := by
  refine ⟨by have := h.1; simp at this ⊢; omega, fun _ => ?_⟩
  obtain ⟨b', off', e, hc⟩ := h.2 (by simp)
  injection e with e
  injection e with e1 e2
  subst e1 e2
  refine ⟨b, off + 1, rfl, fun j hj => ?_⟩
  have := hc (j + 1) (by simp at hj ⊢; omega)
  rw [show off + 1 + j = off + (j + 1) by omega, this]
  simp
theorem PathAt.last {w : World} (sa : Option Addr) : PathAt w sa [] := ⟨by simp, fun h => absurd h (by simp)⟩
theorem PathAt.head {w : World} {sa : Option Addr} {c : Bool} {p : List Bool} (h : PathAt w sa (c :: p)) : ∃ b off, sa = some ⟨b, off, none⟩ ∧ w.cell? ⟨b, off, none⟩ = some (.int .i64 (bI c)) := by
  obtain ⟨b, off, e, hc⟩ := h.2 (by simp)
  exact ⟨b, off, e, by simpa using hc 0 (by simp)⟩
def fV (o : Option Nat) : Value := .tuple #[.int .i64 ((o.getD 0 : Nat) : Int), .bool o.isSome]
theorem fV_held {a : Bool × Nat} (h : a.1 = false → a.2 = 0) : fV (heldT a) = .tuple #[.int .i64 (a.2 : Int), .bool a.1] := by
  unfold heldT fV
  cases ha : a.1 with
  | false => simp [h ha]
  | true => simp
theorem Ret_held {a : Bool × Nat} (h : a.1 = false → a.2 = 0) : Ending.returned (fV (heldT a)) = .returned (.tuple #[.int .i64 (a.2 : Int), .bool a.1]) := by rw [fV_held h]

set_option maxHeartbeats 2000000 in
set_option maxRecDepth 100000 in
theorem at_any : ∀ (p : List Bool) (T : Tr) (w : World) (sa : Option Addr), TrAt w T → okT T → PathAt w sa p →
    Calls Try.prog 29 #[T.ptr, .slice sa p.length p.length] w fun e w' => e = .returned (fV (atT T p)) ∧ ∃ n, w' = w.drewN n := by
  intro p
  induction p with
  | nil =>
    intro T w sa hT hok hp
    match T, hT, hok with
    | .nil, _, _ =>
      show Calls Try.prog 29 #[.pointer none, .slice sa 0 0] w _
      clear hp
      go_enter Try.func29, Try.ntmps29
      go_wp2
      go_ret2
      exact ⟨rfl, 0, rfl⟩
    | .node b o a l r, hT, hok =>
      obtain ⟨rfl, hB, _, _⟩ := hT
      have c2 := hB.cell (i := 2) rfl
      have c3 := hB.cell (i := 3) rfl
      show Calls Try.prog 29 #[.pointer (some ⟨b, 0, none⟩), .slice sa 0 0] w fun e w' => e = .returned (fV (heldT a)) ∧ ∃ n, w' = w.drewN n
      rw [fV_held hok.1]
      clear hok hB hp
      go_enter Try.func29, Try.ntmps29
      go_wp2_with fail
      go_quiet (fail)
      go_wp2
      go_ret2
      exact ⟨rfl, nq, rfl⟩
  | cons c p ih =>
    intro T w sa hT hok hp
    obtain ⟨pb, off, rfl, hc0⟩ := hp.head
    match T, hT, hok with
    | .nil, _, _ =>
      show Calls Try.prog 29 #[.pointer none, .slice (some ⟨pb, off, none⟩) (p.length + 1) (p.length + 1)] w _
      clear hp hc0
      go_enter Try.func29, Try.ntmps29
      go_wp2
      go_ret2
      exact ⟨rfl, 0, rfl⟩
    | .node b o a l r, hT, hok =>
      obtain ⟨rfl, hB, hl, hr⟩ := hT
      have c0 := hB.cell (i := 0) rfl
      have c1 := hB.cell (i := 1) rfl
      have HD : ∀ (C : Tr), TrAt w C → ∀ n, TrAt (w.drewN n) C := fun C hC n => hC.touch ((Touch.refl [] w).drewN n) (by simp)
      cases c with
      | false =>
        match p, hp, ih with
        | [], hp, ih =>
          have H1 := toHid (fun n => ih l (w.drewN n) (some ⟨pb, off, none⟩) (HD l hl n) hok.2.1 (PathAt.drewN (PathAt.last _) n))
          show Calls Try.prog 29 #[.pointer (some ⟨b, 0, none⟩), .slice (some ⟨pb, off, none⟩) 1 1] w fun e w' => e = .returned (fV (atT l ([]))) ∧ ∃ n, w' = w.drewN n
          simp only [List.length_nil] at H1
          have hc : w.cell? ⟨pb, off, none⟩ = some (.int .i64 0) := hc0
          unfold fV at *
          generalize l.ptr = cv at *
          generalize (atT l ([])) = fo at *
          generalize hfo : ((fo.getD 0 : Nat) : Int) = fi at *
          clear hp hc0 hB hok hl hr ih HD hfo
          go_enter Try.func29, Try.ntmps29
          go_wp2_with fail
          go_quiet (first | (go_at_call 29; refine Calls.quiet_of (H1.out _)))
          go_wp2
          go_ret2
          exact ⟨rfl, nq, rfl⟩
        | x :: p, hp, ih =>
          have H1 := toHid (fun n => ih l (w.drewN n) (some ⟨pb, off + 1, none⟩) (HD l hl n) hok.2.1 (PathAt.drewN (hp.tail) n))
          show Calls Try.prog 29 #[.pointer (some ⟨b, 0, none⟩), .slice (some ⟨pb, off, none⟩) (p.length + 1 + 1) (p.length + 1 + 1)] w fun e w' => e = .returned (fV (atT l (x :: p))) ∧ ∃ n, w' = w.drewN n
          simp only [List.length_cons] at H1
          have hc : w.cell? ⟨pb, off, none⟩ = some (.int .i64 0) := hc0
          unfold fV at *
          generalize l.ptr = cv at *
          generalize (atT l (x :: p)) = fo at *
          generalize hfo : ((fo.getD 0 : Nat) : Int) = fi at *
          clear hp hc0 hB hok hl hr ih HD hfo
          go_enter Try.func29, Try.ntmps29
          go_wp2_with fail
          go_quiet (first | (go_at_call 29; refine Calls.quiet_of (H1.out _)))
          go_wp2
          go_ret2
          exact ⟨rfl, nq, rfl⟩
      | true =>
        match p, hp, ih with
        | [], hp, ih =>
          have H1 := toHid (fun n => ih r (w.drewN n) (some ⟨pb, off, none⟩) (HD r hr n) hok.2.2 (PathAt.drewN (PathAt.last _) n))
          show Calls Try.prog 29 #[.pointer (some ⟨b, 0, none⟩), .slice (some ⟨pb, off, none⟩) 1 1] w fun e w' => e = .returned (fV (atT r ([]))) ∧ ∃ n, w' = w.drewN n
          simp only [List.length_nil] at H1
          have hc : w.cell? ⟨pb, off, none⟩ = some (.int .i64 1) := hc0
          unfold fV at *
          generalize r.ptr = cv at *
          generalize (atT r ([])) = fo at *
          generalize hfo : ((fo.getD 0 : Nat) : Int) = fi at *
          clear hp hc0 hB hok hl hr ih HD hfo
          go_enter Try.func29, Try.ntmps29
          go_wp2_with fail
          go_quiet (first | (go_at_call 29; refine Calls.quiet_of (H1.out _)))
          go_wp2
          go_ret2
          exact ⟨rfl, nq, rfl⟩
        | x :: p, hp, ih =>
          have H1 := toHid (fun n => ih r (w.drewN n) (some ⟨pb, off + 1, none⟩) (HD r hr n) hok.2.2 (PathAt.drewN (hp.tail) n))
          show Calls Try.prog 29 #[.pointer (some ⟨b, 0, none⟩), .slice (some ⟨pb, off, none⟩) (p.length + 1 + 1) (p.length + 1 + 1)] w fun e w' => e = .returned (fV (atT r (x :: p))) ∧ ∃ n, w' = w.drewN n
          simp only [List.length_cons] at H1
          have hc : w.cell? ⟨pb, off, none⟩ = some (.int .i64 1) := hc0
          unfold fV at *
          generalize r.ptr = cv at *
          generalize (atT r (x :: p)) = fo at *
          generalize hfo : ((fo.getD 0 : Nat) : Int) = fi at *
          clear hp hc0 hB hok hl hr ih HD hfo
          go_enter Try.func29, Try.ntmps29
          go_wp2_with fail
          go_quiet (first | (go_at_call 29; refine Calls.quiet_of (H1.out _)))
          go_wp2
          go_ret2
          exact ⟨rfl, nq, rfl⟩
set_option maxHeartbeats 4000000 in
set_option maxRecDepth 100000 in
theorem longest_any : ∀ (p : List Bool) (T : Tr) (w : World) (sa : Option Addr), TrAt w T → okT T → PathAt w sa p →
    Calls Try.prog 28 #[T.ptr, .slice sa p.length p.length] w fun e w' => e = .returned (fV (longT T p)) ∧ ∃ n, w' = w.drewN n := by
  intro p
  induction p with
  | nil =>
    intro T w sa hT hok hp
    match T, hT, hok with
    | .nil, _, _ =>
      show Calls Try.prog 28 #[.pointer none, .slice sa 0 0] w _
      clear hp
      go_enter Try.func28, Try.ntmps28
      go_wp2
      go_ret2
      exact ⟨rfl, 0, rfl⟩
    | .node b o a l r, hT, hok =>
      obtain ⟨rfl, hB, _, _⟩ := hT
      have c2 := hB.cell (i := 2) rfl
      have c3 := hB.cell (i := 3) rfl
      show Calls Try.prog 28 #[.pointer (some ⟨b, 0, none⟩), .slice sa 0 0] w fun e w' => e = .returned (fV (heldT a)) ∧ ∃ n, w' = w.drewN n
      rw [fV_held hok.1]
      clear hok hB hp
      go_enter Try.func28, Try.ntmps28
      go_wp2_with fail
      go_quiet (fail)
      go_wp2
      go_ret2
      exact ⟨rfl, nq, rfl⟩
  | cons c p ih =>
    intro T w sa hT hok hp
    obtain ⟨pb, off, rfl, hc0⟩ := hp.head
    match T, hT, hok with
    | .nil, _, _ =>
      show Calls Try.prog 28 #[.pointer none, .slice (some ⟨pb, off, none⟩) (p.length + 1) (p.length + 1)] w _
      clear hp hc0
      go_enter Try.func28, Try.ntmps28
      go_wp2
      go_ret2
      exact ⟨rfl, 0, rfl⟩
    | .node b o a l r, hT, hok =>
      obtain ⟨rfl, hB, hl, hr⟩ := hT
      have HFH := toHid (fV_held hok.1)
      have c0 := hB.cell (i := 0) rfl
      have c1 := hB.cell (i := 1) rfl
      have c2 := hB.cell (i := 2) rfl
      have c3 := hB.cell (i := 3) rfl
      have HD : ∀ (C : Tr), TrAt w C → ∀ n, TrAt (w.drewN n) C := fun C hC n => hC.touch ((Touch.refl [] w).drewN n) (by simp)
      cases c with
      | false =>
        match p, hp, ih with
        | [], hp, ih =>
          have H1 := toHid (fun n => ih l (w.drewN n) (some ⟨pb, off, none⟩) (HD l hl n) hok.2.1 (PathAt.drewN (PathAt.last _) n))
          show Calls Try.prog 28 #[.pointer (some ⟨b, 0, none⟩), .slice (some ⟨pb, off, none⟩) 1 1] w fun e w' => e = .returned (fV ((longT l ([])).or (heldT a))) ∧ ∃ n, w' = w.drewN n
          simp only [List.length_nil] at H1
          have hc : w.cell? ⟨pb, off, none⟩ = some (.int .i64 0) := hc0
          generalize l.ptr = cv at *
          generalize (longT l ([])) = fo at *
          clear hp hc0 hB hok hl hr ih HD
          cases fo with
          | none =>
            simp only [Option.none_or]
            rw [HFH.out]
            unfold fV Option.getD Option.isSome at H1
            clear HFH
            go_enter Try.func28, Try.ntmps28
            go_wp2_with fail
            go_quiet (first | (go_at_call 28; refine Calls.quiet_of (H1.out _)))
            go_wp2_with fail
            have HQ : Hid (∃ m, w.drewN nq = w.drewN m) := ⟨nq, rfl⟩
            obtain ⟨wr, hwr⟩ : ∃ wr, wr = w.drewN nq := ⟨_, rfl⟩
            have d2 : wr.cell? ⟨b, 2, none⟩ = some (.bool a.1) := by rw [hwr]; exact c2
            have d3 : wr.cell? ⟨b, 3, none⟩ = some (.int .i64 (a.2 : Int)) := by rw [hwr]; exact c3
            rw [← hwr] at HQ ⊢
            clear hwr c0 c1 c2 c3 hc H1
            go_wp2_with fail
            go_quiet (fail)
            go_wp2
            go_ret2
            refine ⟨rfl, ?_⟩
            obtain ⟨m, rfl⟩ := HQ.out
            exact ⟨m + nq, World.drewN_drewN _ _ _⟩
          | some s =>
            simp only [Option.some_or]
            unfold fV Option.getD Option.isSome at *
            clear HFH
            go_enter Try.func28, Try.ntmps28
            go_wp2_with fail
            go_quiet (first | (go_at_call 28; refine Calls.quiet_of (H1.out _)))
            go_wp2
            go_ret2
            exact ⟨rfl, nq, rfl⟩
        | x :: p, hp, ih =>
          have H1 := toHid (fun n => ih l (w.drewN n) (some ⟨pb, off + 1, none⟩) (HD l hl n) hok.2.1 (PathAt.drewN (hp.tail) n))
          show Calls Try.prog 28 #[.pointer (some ⟨b, 0, none⟩), .slice (some ⟨pb, off, none⟩) (p.length + 1 + 1) (p.length + 1 + 1)] w fun e w' => e = .returned (fV ((longT l (x :: p)).or (heldT a))) ∧ ∃ n, w' = w.drewN n
          simp only [List.length_cons] at H1
          have hc : w.cell? ⟨pb, off, none⟩ = some (.int .i64 0) := hc0
          generalize l.ptr = cv at *
          generalize (longT l (x :: p)) = fo at *
          clear hp hc0 hB hok hl hr ih HD
          cases fo with
          | none =>
            simp only [Option.none_or]
            rw [HFH.out]
            unfold fV Option.getD Option.isSome at H1
            clear HFH
            go_enter Try.func28, Try.ntmps28
            go_wp2_with fail
            go_quiet (first | (go_at_call 28; refine Calls.quiet_of (H1.out _)))
            go_wp2_with fail
            have HQ : Hid (∃ m, w.drewN nq = w.drewN m) := ⟨nq, rfl⟩
            obtain ⟨wr, hwr⟩ : ∃ wr, wr = w.drewN nq := ⟨_, rfl⟩
            have d2 : wr.cell? ⟨b, 2, none⟩ = some (.bool a.1) := by rw [hwr]; exact c2
            have d3 : wr.cell? ⟨b, 3, none⟩ = some (.int .i64 (a.2 : Int)) := by rw [hwr]; exact c3
            rw [← hwr] at HQ ⊢
            clear hwr c0 c1 c2 c3 hc H1
            go_wp2_with fail
            go_quiet (fail)
            go_wp2
            go_ret2
            refine ⟨rfl, ?_⟩
            obtain ⟨m, rfl⟩ := HQ.out
            exact ⟨m + nq, World.drewN_drewN _ _ _⟩
          | some s =>
            simp only [Option.some_or]
            unfold fV Option.getD Option.isSome at *
            clear HFH
            go_enter Try.func28, Try.ntmps28
            go_wp2_with fail
            go_quiet (first | (go_at_call 28; refine Calls.quiet_of (H1.out _)))
            go_wp2
            go_ret2
            exact ⟨rfl, nq, rfl⟩
      | true =>
        match p, hp, ih with
        | [], hp, ih =>
          have H1 := toHid (fun n => ih r (w.drewN n) (some ⟨pb, off, none⟩) (HD r hr n) hok.2.2 (PathAt.drewN (PathAt.last _) n))
          show Calls Try.prog 28 #[.pointer (some ⟨b, 0, none⟩), .slice (some ⟨pb, off, none⟩) 1 1] w fun e w' => e = .returned (fV ((longT r ([])).or (heldT a))) ∧ ∃ n, w' = w.drewN n
          simp only [List.length_nil] at H1
          have hc : w.cell? ⟨pb, off, none⟩ = some (.int .i64 1) := hc0
          generalize r.ptr = cv at *
          generalize (longT r ([])) = fo at *
          clear hp hc0 hB hok hl hr ih HD
          cases fo with
          | none =>
            simp only [Option.none_or]
            rw [HFH.out]
            unfold fV Option.getD Option.isSome at H1
            clear HFH
            go_enter Try.func28, Try.ntmps28
            go_wp2_with fail
            go_quiet (first | (go_at_call 28; refine Calls.quiet_of (H1.out _)))
            go_wp2_with fail
            have HQ : Hid (∃ m, w.drewN nq = w.drewN m) := ⟨nq, rfl⟩
            obtain ⟨wr, hwr⟩ : ∃ wr, wr = w.drewN nq := ⟨_, rfl⟩
            have d2 : wr.cell? ⟨b, 2, none⟩ = some (.bool a.1) := by rw [hwr]; exact c2
            have d3 : wr.cell? ⟨b, 3, none⟩ = some (.int .i64 (a.2 : Int)) := by rw [hwr]; exact c3
            rw [← hwr] at HQ ⊢
            clear hwr c0 c1 c2 c3 hc H1
            go_wp2_with fail
            go_quiet (fail)
            go_wp2
            go_ret2
            refine ⟨rfl, ?_⟩
            obtain ⟨m, rfl⟩ := HQ.out
            exact ⟨m + nq, World.drewN_drewN _ _ _⟩
          | some s =>
            simp only [Option.some_or]
            unfold fV Option.getD Option.isSome at *
            clear HFH
            go_enter Try.func28, Try.ntmps28
            go_wp2_with fail
            go_quiet (first | (go_at_call 28; refine Calls.quiet_of (H1.out _)))
            go_wp2
            go_ret2
            exact ⟨rfl, nq, rfl⟩
        | x :: p, hp, ih =>
          have H1 := toHid (fun n => ih r (w.drewN n) (some ⟨pb, off + 1, none⟩) (HD r hr n) hok.2.2 (PathAt.drewN (hp.tail) n))
          show Calls Try.prog 28 #[.pointer (some ⟨b, 0, none⟩), .slice (some ⟨pb, off, none⟩) (p.length + 1 + 1) (p.length + 1 + 1)] w fun e w' => e = .returned (fV ((longT r (x :: p)).or (heldT a))) ∧ ∃ n, w' = w.drewN n
          simp only [List.length_cons] at H1
          have hc : w.cell? ⟨pb, off, none⟩ = some (.int .i64 1) := hc0
          generalize r.ptr = cv at *
          generalize (longT r (x :: p)) = fo at *
          clear hp hc0 hB hok hl hr ih HD
          cases fo with
          | none =>
            simp only [Option.none_or]
            rw [HFH.out]
            unfold fV Option.getD Option.isSome at H1
            clear HFH
            go_enter Try.func28, Try.ntmps28
            go_wp2_with fail
            go_quiet (first | (go_at_call 28; refine Calls.quiet_of (H1.out _)))
            go_wp2_with fail
            have HQ : Hid (∃ m, w.drewN nq = w.drewN m) := ⟨nq, rfl⟩
            obtain ⟨wr, hwr⟩ : ∃ wr, wr = w.drewN nq := ⟨_, rfl⟩
            have d2 : wr.cell? ⟨b, 2, none⟩ = some (.bool a.1) := by rw [hwr]; exact c2
            have d3 : wr.cell? ⟨b, 3, none⟩ = some (.int .i64 (a.2 : Int)) := by rw [hwr]; exact c3
            rw [← hwr] at HQ ⊢
            clear hwr c0 c1 c2 c3 hc H1
            go_wp2_with fail
            go_quiet (fail)
            go_wp2
            go_ret2
            refine ⟨rfl, ?_⟩
            obtain ⟨m, rfl⟩ := HQ.out
            exact ⟨m + nq, World.drewN_drewN _ _ _⟩
          | some s =>
            simp only [Option.some_or]
            unfold fV Option.getD Option.isSome at *
            clear HFH
            go_enter Try.func28, Try.ntmps28
            go_wp2_with fail
            go_quiet (first | (go_at_call 28; refine Calls.quiet_of (H1.out _)))
            go_wp2
            go_ret2
            exact ⟨rfl, nq, rfl⟩
end Go.Proofs.Ytlkbaconlngmjaa
