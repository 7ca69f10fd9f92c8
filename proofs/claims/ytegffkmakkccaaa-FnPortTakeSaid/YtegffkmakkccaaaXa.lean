import Derived.Test.YtegffkmakkccaaaVk
import Derived.Test.YtegffkmakkccaaaTv
import Derived.Test.YtegffkmakkccaaaR7
namespace Go.Proofs.Ytegffkmakkccaaa
open Go.RowKit
set_option linter.unusedSimpArgs false
set_option linter.unusedVariables false
def g_bytesCopiedT : PC := fun args => match args with
  | [.l _ rows] => some (∃ xs, rows = rowsOfBytes xs ∧ xs.length ≤ 1048576, .own 0, [.tr .whole 5 1 [.cell] rows])
  | _ => none
theorem bytesCopiedT_ok : PureOk Try.prog 80 g_bytesCopiedT := bytesCopied_ok.toTree fun args c r bs' h => by
  unfold g_bytesCopiedT at h
  split at h
  · cases h; exact ⟨_, rfl, rfl⟩
  · cases h
end Go.Proofs.Ytegffkmakkccaaa
