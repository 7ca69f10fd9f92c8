import Derived.Test.YtmhmhgegdagjkaaXf
import Derived.Test.YtmhmhgegdagjkaaVa
import Derived.Test.YtmhmhgegdagjkaaTc
import Derived.Test.YtmhmhgegdagjkaaR6
import Derived.Test.YtmhmhgegdagjkaaTn
namespace Go.Proofs.Ytmhmhgegdagjkaa
open Go.RowKit
set_option linter.unusedSimpArgs false
set_option linter.unusedVariables false
theorem Pk_eq (x y : Pk) : x = y ↔ x.f = y.f ∧ x.t = y.t ∧ x.p = y.p ∧ x.h = y.h ∧ x.i = y.i ∧ x.a = y.a ∧ x.m = y.m ∧ x.u = y.u ∧ x.d = y.d := by
  cases x; cases y; simp
theorem Pt_eq (x y : Pt) : x = y ↔ x.ps = y.ps ∧ x.u = y.u := by
  cases x; cases y; simp
instance : DecidableEq Pk := fun x y => decidable_of_iff _ (Pk_eq x y).symm
instance : DecidableEq Pt := fun x y => decidable_of_iff _ (Pt_eq x y).symm
end Go.Proofs.Ytmhmhgegdagjkaa
