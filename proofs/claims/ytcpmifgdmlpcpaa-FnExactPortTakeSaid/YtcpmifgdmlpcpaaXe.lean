import Derived.Test.YtcpmifgdmlpcpaaXb
namespace Go.Proofs.Ytcpmifgdmlpcpaa
open Go.RowKit
set_option linter.unusedSimpArgs false
set_option linter.unusedVariables false
structure Pt where
  ps : List Pk
  u : Int
def of1 (x : Pt) (q : Pk) : Bool := same4 (x.ps.getD 0 pk0) q
end Go.Proofs.Ytcpmifgdmlpcpaa
