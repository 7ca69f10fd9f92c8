import Derived.Test.YtloffpgdclbkhaaNum
namespace Go.Proofs.Ytloffpgdclbkhaa
/-- what a turned sum is, if all three numbers are pairs -/
def turn3 (s o n : Int) : Int := sAdd (sAdd s o) (65535 - n)
end Go.Proofs.Ytloffpgdclbkhaa
