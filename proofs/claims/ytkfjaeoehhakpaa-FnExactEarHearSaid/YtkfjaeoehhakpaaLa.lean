import Derived.Test.YtkfjaeoehhakpaaVa
import Derived.Test.YtkfjaeoehhakpaaSh
set_option linter.unusedVariables false
set_option linter.unusedSimpArgs false
namespace Go.Proofs.Ytkfjaeoehhakpaa
open Go.RowKit
structure Ml where
  a : Int
  f : Int
  t : Int
  d : List UInt8
theorem inZ_iff {x a b : Int} : inZ x a b = true ↔ a ≤ x ∧ x ≤ b := by simp only [inZ, decide_eq_true_eq]
theorem toU8_val' {v : Int} (h0 : 0 ≤ v) (h1 : v ≤ 255) : ((toU8 v).toNat : Int) = v := by
  have := toU8_val v
  rw [IntKind.wrap_u8] at this
  omega
end Go.Proofs.Ytkfjaeoehhakpaa
