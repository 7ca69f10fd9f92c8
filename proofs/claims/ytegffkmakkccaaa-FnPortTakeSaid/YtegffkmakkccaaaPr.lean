import Derived.Test.YtegffkmakkccaaaVa
set_option linter.unusedVariables false
set_option linter.unusedSimpArgs false
namespace Go.Proofs.Ytegffkmakkccaaa
open Go.RowKit
set_option linter.unusedSimpArgs false
def prB (f t p h i a : Int) (m u : Bool) (n : Nat) (o : Int) : Bool := pkB f t p h i a m u n && decide (t = o) && decide (a = 0) && !m
end Go.Proofs.Ytegffkmakkccaaa
