import Derived.Test.YtknnobnedepinaaTn
import Derived.Test.YtknnobnedepinaaTd
import Derived.Test.YtknnobnedepinaaR6
namespace Go.Proofs.Ytknnobnedepinaa
open Go.RowKit
set_option linter.unusedSimpArgs false
abbrev nilA : AV := .v (.slice none 0 0)
end Go.Proofs.Ytknnobnedepinaa
namespace Go.Proofs.Ytknnobnedepinaa
open Go.RowKit
set_option linter.unusedSimpArgs false
end Go.Proofs.Ytknnobnedepinaa
