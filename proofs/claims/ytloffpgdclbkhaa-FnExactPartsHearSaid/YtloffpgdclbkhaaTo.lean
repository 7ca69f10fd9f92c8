import Derived.Test.YtloffpgdclbkhaaTn
namespace Go.Proofs.Ytloffpgdclbkhaa
open Go.RowKit

/-! what is known and kept, compared -/
def kEq : List KE → List KE → Bool
  | [], [] => true
  | e :: t, e' :: t' => (e.a == e'.a && e.l == e'.l && e.u == e'.u) && kEq t t'
  | _, _ => false
def hEq : List HE → List HE → Bool
  | [], [] => true
  | e :: t, e' :: t' => (e.a == e'.a && e.d == e'.d) && hEq t t'
  | _, _ => false
end Go.Proofs.Ytloffpgdclbkhaa
