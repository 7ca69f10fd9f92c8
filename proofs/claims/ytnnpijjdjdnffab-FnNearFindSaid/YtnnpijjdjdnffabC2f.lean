import Derived.Test.YtnnpijjdjdnffabC2e
import Derived.Test.YtnnpijjdjdnffabPast
namespace Go.Proofs.Ytnnpijjdjdnffab
open Go.ChangeShapes Go.WideShapes Go.ChangeAt Go.RowKit

end Go.Proofs.Ytnnpijjdjdnffab
