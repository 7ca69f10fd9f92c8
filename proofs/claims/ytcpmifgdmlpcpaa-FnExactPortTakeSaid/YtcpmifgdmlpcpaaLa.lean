import Derived.Test.YtcpmifgdmlpcpaaVa
import Derived.Test.YtcpmifgdmlpcpaaSh
set_option linter.unusedVariables false
set_option linter.unusedSimpArgs false
namespace Go.Proofs.Ytcpmifgdmlpcpaa
open Go.RowKit
structure Ml where
  a : Int
  f : Int
  t : Int
  d : List UInt8
def ml0 : Ml := ⟨0, 0, 0, []⟩
def mlB (m : Ml) : Bool := inZ m.a 0 65535 && inZ m.f 1 255 && inZ m.t 1 255 && decide (m.d.length ≤ 40)
theorem mlB_iff {m : Ml} : mlB m = true ↔ (0 ≤ m.a ∧ m.a ≤ 65535) ∧ (1 ≤ m.f ∧ m.f ≤ 255) ∧ (1 ≤ m.t ∧ m.t ≤ 255) ∧ m.d.length ≤ 40 := by
  simp only [mlB, inZ, Bool.and_eq_true, decide_eq_true_eq, and_assoc]
end Go.Proofs.Ytcpmifgdmlpcpaa
