import Derived.Test.YtikcpbgnmdhilaaMem
import Derived.Outline
import Derived.BigQuiet
import Derived.Deep.QuietTactic
import Derived.Test.YtikcpbgnmdhilaaC2f
namespace Go.Proofs.Ytikcpbgnmdhilaa
open Go.ChangeShapes Go.WideShapes Go.ChangeAt Go.RowKit
end Go.Proofs.Ytikcpbgnmdhilaa
namespace Go.Proofs.Ytikcpbgnmdhilaa
open Go.ChangeShapes Go.WideShapes Go.ChangeAt Go.RowKit
def marks (k : Nat) : Nat → List UInt8
  | 0 => []
  | j + 1 => marks k j ++ [UInt8.ofNat ((k + j) % 256)]
theorem marks_len (k j : Nat) : (marks k j).length = j := by
  induction j with
  | zero => rfl
  | succ j ih => simp [marks, ih]
end Go.Proofs.Ytikcpbgnmdhilaa
namespace Go.Proofs.Ytikcpbgnmdhilaa
open Go.ChangeShapes Go.WideShapes Go.ChangeAt Go.RowKit
abbrev fr4 (t f k : Int) (A : Option Addr) (n c : Nat) : Value := .agg #[.int .i64 t, .int .i64 f, .int .i64 k, .slice A n c]
end Go.Proofs.Ytikcpbgnmdhilaa
