/-
  Arguments that came in: small numbers.
-/
import Derived.Test.YtlkbaconlngmjaaScript9
namespace Go.Proofs.Ytlkbaconlngmjaa
open Go.ChangeShapes Go.WideShapes Go.ChangeAt Go.RowKit
set_option maxRecDepth 100000 in
theorem val_u8 {W : World} {base : Nat} {v : Value} (h : Value.okWide Try.prog W .any base 5 v) : ∃ n, v = .int .u8 n ∧ 0 ≤ n ∧ n ≤ 255 := by
  obtain ⟨n, rfl, hn⟩ := int_open Try.underlying5 h
  refine ⟨n, rfl, ?_⟩
  simp [IntKind.has, IntKind.min, IntKind.max, IntKind.signed, IntKind.bits] at hn
  omega
set_option maxRecDepth 100000 in
theorem val_u16 {W : World} {base : Nat} {v : Value} (h : Value.okWide Try.prog W .any base 53 v) : ∃ n, v = .int .u16 n ∧ 0 ≤ n ∧ n ≤ 65535 := by
  obtain ⟨n, rfl, hn⟩ := int_open Try.underlying53 h
  refine ⟨n, rfl, ?_⟩
  simp [IntKind.has, IntKind.min, IntKind.max, IntKind.signed, IntKind.bits] at hn
  omega
end Go.Proofs.Ytlkbaconlngmjaa
