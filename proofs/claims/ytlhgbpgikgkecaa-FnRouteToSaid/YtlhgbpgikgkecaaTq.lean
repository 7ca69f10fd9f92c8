import Derived.Test.YtlhgbpgikgkecaaTc
import Derived.Test.YtlhgbpgikgkecaaR6
set_option linter.unusedVariables false
set_option linter.unusedSimpArgs false
namespace Go.Proofs.Ytlhgbpgikgkecaa
open Go.RowKit
set_option linter.unusedSimpArgs false

/-! the helpers of the exact laws: sizes, and what is handed in -/
def g_szS : PC := fun args => match args with
  | [.l _ rows, .v (.int .i64 l)] => some ((0 ≤ l ∧ l ≤ 1048576) ∧ rows.length ≤ 9223372036854775807 ∧ ∃ sz, ∀ r ∈ rows, r.length = sz, .v (.int .i64 (szLeft l rows.length)), [])
  | _ => none
end Go.Proofs.Ytlhgbpgikgkecaa
