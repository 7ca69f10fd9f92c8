import Derived.Test.YtfdgdffljaccdaaSk
import Derived.Test.YtfdgdffljaccdaaFm
namespace Go.Proofs.Ytfdgdffljaccdaa
open Go.RowKit
set_option linter.unusedSimpArgs false

end Go.Proofs.Ytfdgdffljaccdaa
