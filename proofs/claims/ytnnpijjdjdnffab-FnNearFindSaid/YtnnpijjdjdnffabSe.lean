import Derived.Test.YtnnpijjdjdnffabSd
namespace Go.Proofs.Ytnnpijjdjdnffab
open Go.RowKit
end Go.Proofs.Ytnnpijjdjdnffab
