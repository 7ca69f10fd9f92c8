import Derived.Test.YtheikjkfffepnaaMem
import Derived.Test.YtheikjkfffepnaaNum
import Derived.Outline
import Derived.BigQuiet
import Derived.Deep.QuietTactic
namespace Go.Proofs.Ytheikjkfffepnaa
open Go.ChangeShapes Go.WideShapes Go.ChangeAt Go.RowKit

def inB (n lo hi : Int) : Bool := decide (lo ≤ n ∧ n ≤ hi)
def sTurn (s o n : Int) : Int := if inB s 0 65535 && inB o 0 65535 && inB n 0 65535 then sAdd (sAdd s o) (65535 - n) else -1

end Go.Proofs.Ytheikjkfffepnaa

namespace Go.Proofs.Ytheikjkfffepnaa
open Go.ChangeShapes Go.WideShapes Go.ChangeAt Go.RowKit

def pairVal (xs : List UInt8) (k : Nat) : Int := 256 * ((xs.getD k 0).toNat : Int) + ((xs.getD (k + 1) 0).toNat : Int)
end Go.Proofs.Ytheikjkfffepnaa

namespace Go.Proofs.Ytheikjkfffepnaa
open Go.ChangeShapes Go.WideShapes Go.ChangeAt Go.RowKit

def sNo (v : Int) : Bool := decide (v = 0 ∨ v = 65535)
def fits (xs : List UInt8) (s : Int) : Bool := decide (0 ≤ s ∧ s ≤ 65535 ∧ s % 65535 = sumOf xs % 65535)

end Go.Proofs.Ytheikjkfffepnaa

namespace Go.Proofs.Ytheikjkfffepnaa
open Go.ChangeShapes Go.WideShapes Go.ChangeAt Go.RowKit

end Go.Proofs.Ytheikjkfffepnaa

namespace Go.Proofs.Ytheikjkfffepnaa
open Go.ChangeShapes Go.WideShapes Go.ChangeAt Go.RowKit

end Go.Proofs.Ytheikjkfffepnaa
