import Derived.Test.YtegffkmakkccaaaYe
namespace Go.Proofs.Ytegffkmakkccaaa
open Go.RowKit
set_option linter.unusedSimpArgs false
set_option linter.unusedVariables false
theorem lit_get (L : List Int) (k : Nat) (h : k < L.length) : (L.map fun x => [D.v (.int .i64 x)]).getD k [] = [D.v (.int .i64 (L.getD k 0))] := by
  simp [List.getD, h]
structure RouteD where
  e : RE
  p : Int
def oddB (xs : List UInt8) (p n : Int) : Bool := decide (0 < n) && (pickV xs p n == n - 1)
structure RoutesD where
  l : List RE
  p : Int
end Go.Proofs.Ytegffkmakkccaaa
