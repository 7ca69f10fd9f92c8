import Derived.Test.YtnnpijjdjdnffabC1b
namespace Go.Proofs.Ytnnpijjdjdnffab
open Go.ChangeShapes Go.WideShapes Go.ChangeAt Go.RowKit

def sNo (v : Int) : Bool := decide (v = 0 ∨ v = 65535)
def fits (xs : List UInt8) (s : Int) : Bool := decide (0 ≤ s ∧ s ≤ 65535 ∧ s % 65535 = sumOf xs % 65535)

end Go.Proofs.Ytnnpijjdjdnffab
