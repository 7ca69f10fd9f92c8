import Derived.Test.YtegffkmakkccaaaXf
import Derived.Test.YtegffkmakkccaaaVa
import Derived.Test.YtegffkmakkccaaaTc
import Derived.Test.YtegffkmakkccaaaR6
import Derived.Test.YtegffkmakkccaaaTn
namespace Go.Proofs.Ytegffkmakkccaaa
open Go.RowKit
set_option linter.unusedSimpArgs false
set_option linter.unusedVariables false
theorem Pk_eq (x y : Pk) : x = y ↔ x.f = y.f ∧ x.t = y.t ∧ x.p = y.p ∧ x.h = y.h ∧ x.i = y.i ∧ x.a = y.a ∧ x.m = y.m ∧ x.u = y.u ∧ x.d = y.d := by
  cases x; cases y; simp
theorem Pt_eq (x y : Pt) : x = y ↔ x.ps = y.ps ∧ x.u = y.u := by
  cases x; cases y; simp
instance : DecidableEq Pk := fun x y => decidable_of_iff _ (Pk_eq x y).symm
instance : DecidableEq Pt := fun x y => decidable_of_iff _ (Pt_eq x y).symm
end Go.Proofs.Ytegffkmakkccaaa
