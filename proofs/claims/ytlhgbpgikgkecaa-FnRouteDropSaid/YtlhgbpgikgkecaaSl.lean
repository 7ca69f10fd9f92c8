import Derived.Test.YtlhgbpgikgkecaaSk
import Derived.Test.YtlhgbpgikgkecaaFm
namespace Go.Proofs.Ytlhgbpgikgkecaa
open Go.RowKit
set_option linter.unusedSimpArgs false

end Go.Proofs.Ytlhgbpgikgkecaa
