import Derived.Test.YtnlhfjdkhkmaeaaVa
set_option linter.unusedVariables false
set_option linter.unusedSimpArgs false
namespace Go.Proofs.Ytnlhfjdkhkmaeaa
open Go.RowKit
set_option linter.unusedSimpArgs false
theorem numAt_two (xs : List UInt8) (a : Int) (k : Nat) (e : a = (k : Int)) (h : k + 2 ≤ xs.length) : numAt xs a 2 = ((256 * (xs.getD k 0).toNat + (xs.getD (k + 1) 0).toNat : Nat) : Int) := by
  subst e
  unfold numAt
  rw [if_pos (by omega)]
  have e2 : (2 : Int).toNat = 2 := rfl
  rw [Int.toNat_natCast, e2]
  simp only [numV, Nat.add_zero]
  omega
end Go.Proofs.Ytnlhfjdkhkmaeaa
