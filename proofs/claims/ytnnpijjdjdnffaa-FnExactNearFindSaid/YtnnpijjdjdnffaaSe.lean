import Derived.Test.YtnnpijjdjdnffaaSd
namespace Go.Proofs.Ytnnpijjdjdnffaa
open Go.RowKit
end Go.Proofs.Ytnnpijjdjdnffaa
