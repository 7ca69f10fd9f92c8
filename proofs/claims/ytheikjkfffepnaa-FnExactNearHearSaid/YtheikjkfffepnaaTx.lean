import Derived.Test.YtheikjkfffepnaaTw
namespace Go.Proofs.Ytheikjkfffepnaa
open Go.RowKit
set_option linter.unusedSimpArgs false

/-! the program's copies -/
def g_knownCopied : PC := fun args => match args with
  | [.l _ rows] => some (∃ ks, rows = kRows ks ∧ ks.length ≤ 1048576, .own 0, [.sl 50 3 rows])
  | _ => none
def g_heldCopied : PC := fun args => match args with
  | [.l _ rows] => some (∃ hs, rows = hRows hs ∧ hMid hs, .own 0, [.sl 53 2 rows])
  | _ => none
def cops : List (FuncId × Abs) := [(47, pureAbs g_bytesCopied)]
def cops2 : List (FuncId × Abs) := [(48, frzAbs g_knownCopied), (49, frzAbs g_heldCopied)]
def g_heldWithout : PC := fun args => match args with
  | [.l _ rows, .v (.int .i64 a)] => some (∃ hs, rows = hRows hs ∧ hMid hs, .own 0, [.sl 53 2 (hRows (hOut (hsOf rows) a))])
  | _ => none
def g_heldFor : PC := fun args => match args with
  | [.l _ rows, .v (.int .i64 a)] => some (∃ hs, rows = hRows hs ∧ hMid hs, .own 0, [.sl 51 1 (sRows (sentOf (hsOf rows) a))])
  | _ => none
end Go.Proofs.Ytheikjkfffepnaa
