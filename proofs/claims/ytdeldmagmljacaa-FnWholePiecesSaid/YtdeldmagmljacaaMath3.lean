import Derived.Test.YtdeldmagmljacaaNum
namespace Go.Proofs.Ytdeldmagmljacaa
/-- what a turned sum is, if all three numbers are pairs -/
def turn3 (s o n : Int) : Int := sAdd (sAdd s o) (65535 - n)
end Go.Proofs.Ytdeldmagmljacaa
