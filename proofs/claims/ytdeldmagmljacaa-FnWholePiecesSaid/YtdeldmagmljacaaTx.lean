import Derived.Test.YtdeldmagmljacaaTw
namespace Go.Proofs.Ytdeldmagmljacaa
open Go.RowKit
set_option linter.unusedSimpArgs false

/-! the program's copies -/
def cops : List (FuncId × Abs) := [(70, pureAbs g_bytesCopied)]
def g_heldFor : PC := fun args => match args with
  | [.l _ rows, .v (.int .i64 a)] => some (∃ hs, rows = hRows hs ∧ hMid hs, .own 0, [.sl 22 1 (sRows (sentOf (hsOf rows) a))])
  | _ => none
end Go.Proofs.Ytdeldmagmljacaa
