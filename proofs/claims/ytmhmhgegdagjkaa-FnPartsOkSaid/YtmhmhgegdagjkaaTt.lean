import Derived.Test.YtmhmhgegdagjkaaTn
import Derived.Test.YtmhmhgegdagjkaaTd
import Derived.Test.YtmhmhgegdagjkaaR6
namespace Go.Proofs.Ytmhmhgegdagjkaa
open Go.RowKit
set_option linter.unusedSimpArgs false
abbrev nilA : AV := .v (.slice none 0 0)
end Go.Proofs.Ytmhmhgegdagjkaa
namespace Go.Proofs.Ytmhmhgegdagjkaa
open Go.RowKit
set_option linter.unusedSimpArgs false
end Go.Proofs.Ytmhmhgegdagjkaa
