import Derived.Test.YtcpmifgdmlpcpaaXa
namespace Go.Proofs.Ytcpmifgdmlpcpaa
open Go.RowKit
set_option linter.unusedSimpArgs false
set_option linter.unusedVariables false
def pk0 : Pk := ⟨0, 0, 0, 0, 0, 0, false, false, []⟩
def same4 (x y : Pk) : Bool := decide (x.f = y.f ∧ x.t = y.t ∧ x.p = y.p ∧ x.i = y.i)
def Pk.z (x : Pk) : Int := x.a + (x.d.length : Int)
def follows (x y : Pk) : Bool := same4 x y && x.m && decide (x.z ≤ y.a)
end Go.Proofs.Ytcpmifgdmlpcpaa
