import Derived.Test.YtcpmifgdmlpcpaaTn
import Derived.Test.YtcpmifgdmlpcpaaTq
namespace Go.Proofs.Ytcpmifgdmlpcpaa
open Go.RowKit
set_option linter.unusedSimpArgs false
set_option linter.unusedVariables false
set_option linter.unusedVariables false
end Go.Proofs.Ytcpmifgdmlpcpaa
namespace Go.Proofs.Ytcpmifgdmlpcpaa
open Go.RowKit
set_option linter.unusedSimpArgs false
set_option linter.unusedVariables false
theorem fill_row {α : Type} {xs : List α} {n k : Nat} (hn : n = xs.length) {x : α} (hx : xs[k]? = some x) (z : α) : (xs.take k ++ List.replicate (n - k) z).set k x = xs.take (k + 1) ++ List.replicate (n - (k + 1)) z := by
  have hk := (List.getElem?_eq_some_iff.1 hx).1
  have hl : (xs.take k).length = k := by rw [List.length_take]; omega
  have hm : n - k = (n - (k + 1)) + 1 := by omega
  rw [hm, List.replicate_succ, List.set_append_right _ _ (by omega), hl, Nat.sub_self, List.set_cons_zero, List.take_add_one, hx]
  simp
end Go.Proofs.Ytcpmifgdmlpcpaa
namespace Go.Proofs.Ytcpmifgdmlpcpaa
open Go.RowKit
set_option linter.unusedSimpArgs false
set_option linter.unusedVariables false
end Go.Proofs.Ytcpmifgdmlpcpaa
