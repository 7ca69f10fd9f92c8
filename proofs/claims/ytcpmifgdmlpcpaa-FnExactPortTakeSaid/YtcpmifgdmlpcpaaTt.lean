import Derived.Test.YtcpmifgdmlpcpaaTn
import Derived.Test.YtcpmifgdmlpcpaaTd
import Derived.Test.YtcpmifgdmlpcpaaR6
namespace Go.Proofs.Ytcpmifgdmlpcpaa
open Go.RowKit
set_option linter.unusedSimpArgs false
abbrev nilA : AV := .v (.slice none 0 0)
end Go.Proofs.Ytcpmifgdmlpcpaa
namespace Go.Proofs.Ytcpmifgdmlpcpaa
open Go.RowKit
set_option linter.unusedSimpArgs false
end Go.Proofs.Ytcpmifgdmlpcpaa
