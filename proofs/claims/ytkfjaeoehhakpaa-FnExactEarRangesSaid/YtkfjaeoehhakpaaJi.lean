import Derived.Test.YtkfjaeoehhakpaaJg
import Derived.Test.YtkfjaeoehhakpaaR7
set_option linter.unusedVariables false
set_option linter.unusedSimpArgs false
namespace Go.Proofs.Ytkfjaeoehhakpaa
open Go.RowKit
set_option linter.unusedSimpArgs false
def szSg (l : Int) (n m : Nat) : Int := if szLeft l n < 0 then -1 else szLeft (szLeft l n) m
theorem szSg_bd {n m : Nat} : -1 ≤ szSg 1048576 n m ∧ szSg 1048576 n m ≤ 1048576 ∧ (0 ≤ szSg 1048576 n m → n ≤ 1048576 ∧ m ≤ 1048576) := by
  unfold szSg szLeft
  repeat' split
  all_goals omega
end Go.Proofs.Ytkfjaeoehhakpaa
