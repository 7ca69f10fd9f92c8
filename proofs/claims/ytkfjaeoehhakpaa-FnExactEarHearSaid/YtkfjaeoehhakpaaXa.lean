import Derived.Test.YtkfjaeoehhakpaaVk
import Derived.Test.YtkfjaeoehhakpaaTv
import Derived.Test.YtkfjaeoehhakpaaR7
namespace Go.Proofs.Ytkfjaeoehhakpaa
open Go.RowKit
set_option linter.unusedSimpArgs false
set_option linter.unusedVariables false
def cutB (x : Pk) (l : Int) : Bool := x.ok && decide (1 ≤ l ∧ l ≤ 48) && (decide ((x.d.length : Int) ≤ l) || (!x.u && decide (x.a + (((x.d.length - 1) / l.toNat * l.toNat : Nat) : Int) ≤ 255)))
end Go.Proofs.Ytkfjaeoehhakpaa
