import Derived.Test.YtknnobnedepinaaXm
namespace Go.Proofs.Ytknnobnedepinaa
open Go.RowKit
set_option linter.unusedSimpArgs false
set_option linter.unusedVariables false
theorem t3 (n : Nat) : ((n : Int).tmod 3 == 0) = decide (n % 3 = 0) := by
  rw [Bool.eq_iff_iff, beq_iff_eq, decide_eq_true_eq, Int.tmod_eq_emod_of_nonneg (by omega)]
  omega
theorem set_getD {α : Type} {l : List α} {k : Nat} (h : k < l.length) (a d : α) : (l.set k a).getD k d = a := by
  rw [List.getD_eq_getElem?_getD, List.getElem?_set_self h]; rfl
end Go.Proofs.Ytknnobnedepinaa
