import Derived.Test.YtlhgbpgikgkecaaSc
import Derived.Test.YtlhgbpgikgkecaaC1a
import Derived.Test.YtlhgbpgikgkecaaC2f
namespace Go.Proofs.Ytlhgbpgikgkecaa
open Go.RowKit
set_option linter.unusedSimpArgs false

/-! old contracts, told of the plain machine -/
section
variable {P : Program}
end

def g_sumOf : PC := fun args => match args with
  | [.l _ rows] => some (∃ xs, rows = rowsOfBytes xs ∧ xs.length ≤ 140737488355328, .v (.int .i64 (sumOf (bytesOfRows rows))), [])
  | _ => none
def g_bytesOf : PC := fun args => match args with
  | [.v (.int .i64 v), .v (.int .i64 n)] => some (v ≤ 9223372036854775807, .own 0, [.sl 5 1 (rowsOfBytes (bytesOf v n))])
  | _ => none
end Go.Proofs.Ytlhgbpgikgkecaa
