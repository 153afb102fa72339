/-
  A slice's value.
-/
import Derived.Test.YtpoliblfgioocaaCame
namespace Go.Proofs.Ytpoliblfgioocaa
open Go.ChangeShapes Go.WideShapes Go.ChangeAt Go.RowKit

theorem cell_slice {P : Program} {w : World} {r : Reach} {base : Nat} {t e : TypeId} {v : Value} (ht : P.underlying t = some (.slice e)) (h : Cell.okWide P w r base t v) : ∃ a len cap, v = .slice a len cap := by
  simp only [Cell.okWide, ht] at h
  cases v <;> simp_all [Cell.ok]
theorem slice_open {P : Program} {w : World} {r : Reach} {base : Nat} {t e : TypeId} {v : Value} (ht : P.underlying t = some (.slice e)) (h : Value.okWide P w r base t v) : ∃ a len cap, v = .slice a len cap := by
  simp only [Value.okWide, ht] at h
  exact cell_slice ht h
theorem bytes31 : Try.prog.bytesOf 31 = 12 := by kernel_rfl
theorem came_list {w : World} {sa : Option Addr} {n : Nat} {f : Nat → In} (h : CameI w sa n f) : ListAt w sa n f := by
  rcases h with h | ⟨b, off, h1, h2, h3⟩
  · exact Or.inl h
  · exact Or.inr ⟨b, off, h1, h2, fun j hj => (h3 j hj).1, fun j hj => ⟨(h3 j hj).2.1, (h3 j hj).2.2.1, (h3 j hj).2.2.2.1, (h3 j hj).2.2.2.2.1, (h3 j hj).2.2.2.2.2⟩⟩
end Go.Proofs.Ytpoliblfgioocaa
