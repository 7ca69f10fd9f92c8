import Derived.Test.YtnnpijjdjdnffabC1c
import Derived.Test.YtnnpijjdjdnffabNumAt
namespace Go.Proofs.Ytnnpijjdjdnffab
open Go.ChangeShapes Go.WideShapes Go.ChangeAt Go.RowKit

theorem isWidth_any (v : Int) (w : World) :
    Calls Try.prog 73 #[.int .i64 v] w fun e w' => e = .returned (.bool (inB v 1 4)) ∧ w = w' := by
  by_cases h1 : 1 ≤ v <;> by_cases h2 : v ≤ 4
  all_goals
    go_enter Try.func73, Try.ntmps73
    go_wp2
    go_ret
    refine ⟨ret_b ?_, rfl⟩
    symm
    first
    | (rw [inB_iff]; omega)
    | (rw [inB_nif]; omega)

end Go.Proofs.Ytnnpijjdjdnffab
