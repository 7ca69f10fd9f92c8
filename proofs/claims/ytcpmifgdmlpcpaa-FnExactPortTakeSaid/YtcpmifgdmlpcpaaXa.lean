import Derived.Test.YtcpmifgdmlpcpaaVk
import Derived.Test.YtcpmifgdmlpcpaaTv
import Derived.Test.YtcpmifgdmlpcpaaR7
namespace Go.Proofs.Ytcpmifgdmlpcpaa
open Go.RowKit
set_option linter.unusedSimpArgs false
set_option linter.unusedVariables false
def g_bytesCopiedT : PC := fun args => match args with
  | [.l _ rows] => some (∃ xs, rows = rowsOfBytes xs ∧ xs.length ≤ 1048576, .own 0, [.tr .whole 5 1 [.cell] rows])
  | _ => none
theorem bytesCopiedT_ok : PureOk Try.prog 39 g_bytesCopiedT := bytesCopied_ok.toTree fun args c r bs' h => by
  unfold g_bytesCopiedT at h
  split at h
  · cases h; exact ⟨_, rfl, rfl⟩
  · cases h
def cutB (x : Pk) (l : Int) : Bool := x.ok && decide (1 ≤ l ∧ l ≤ 48) && (decide ((x.d.length : Int) ≤ l) || (!x.u && decide (x.a + (((x.d.length - 1) / l.toNat * l.toNat : Nat) : Int) ≤ 255)))
end Go.Proofs.Ytcpmifgdmlpcpaa
