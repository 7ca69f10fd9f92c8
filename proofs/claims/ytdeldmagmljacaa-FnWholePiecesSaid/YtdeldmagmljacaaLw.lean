import Derived.Test.YtdeldmagmljacaaMem
import Derived.Outline
import Derived.BigQuiet
import Derived.Deep.QuietTactic
import Derived.Test.YtdeldmagmljacaaC2f
namespace Go.Proofs.Ytdeldmagmljacaa
open Go.ChangeShapes Go.WideShapes Go.ChangeAt Go.RowKit

end Go.Proofs.Ytdeldmagmljacaa

namespace Go.Proofs.Ytdeldmagmljacaa
open Go.ChangeShapes Go.WideShapes Go.ChangeAt Go.RowKit

/-- the bytes k, k + 1, .. that the marker writes -/
def marks (k : Nat) : Nat → List UInt8
  | 0 => []
  | j + 1 => marks k j ++ [UInt8.ofNat ((k + j) % 256)]
theorem marks_len (k j : Nat) : (marks k j).length = j := by
  induction j with
  | zero => rfl
  | succ j ih => simp [marks, ih]
end Go.Proofs.Ytdeldmagmljacaa

namespace Go.Proofs.Ytdeldmagmljacaa
open Go.ChangeShapes Go.WideShapes Go.ChangeAt Go.RowKit

/-- a frame as a value -/
abbrev fr4 (t f k : Int) (A : Option Addr) (n c : Nat) : Value := .agg #[.int .i64 t, .int .i64 f, .int .i64 k, .slice A n c]
/-- what is left of a bound -/
def szLeft (l : Int) (n : Nat) : Int := if l - (n : Int) < 0 then -1 else l - (n : Int)

/-- a frame in new memory -/
def RetFt (B : Nat) (t f k : Int) (xs : List UInt8) (w : World) (e : Ending) (w' : World) : Prop :=
  ∃ A n c, e = .returned (fr4 t f k A n c) ∧ w'.ownsRow B 5 1 (.slice A n c) n (bv xs) ∧ Below B w w'

end Go.Proofs.Ytdeldmagmljacaa
