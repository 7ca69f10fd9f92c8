import Derived.Test.YtdeldmagmljacaaXg
namespace Go.Proofs.Ytdeldmagmljacaa
open Go.RowKit
set_option linter.unusedSimpArgs false
set_option linter.unusedVariables false

def putK (ps : List Pk) (q : Pk) (k : Nat) : List Pk := if (haveB ps q || decide (k ≤ wAt ps q.a)) = true then ps.take k else ps.take (wAt ps q.a) ++ q :: (ps.take k).drop (wAt ps q.a)
def doneK (ps : List Pk) (q : Pk) (k : Nat) : Bool := haveB ps q || decide (wAt ps q.a < k)
def finL (ps : List Pk) (q : Pk) : List Pk := if haveB ps q = true then ps else insK ps q
def spp : List (FuncId × Abs) := [(20, pureAbs g_partOk), (45, pureAbs g_packetOk), (53, pureAbs g_ofOne), (61, pureAbs g_packetCopied)]
end Go.Proofs.Ytdeldmagmljacaa
