import Derived.Test.YtdanjfnobanehaaC1f
import Derived.Test.YtdanjfnobanehaaC1a
namespace Go.Proofs.Ytdanjfnobanehaa
open Go.ChangeShapes Go.WideShapes Go.ChangeAt Go.RowKit

theorem isLink_any (v : Int) (w : World) :
    Calls Try.prog 82 #[.int .i64 v] w fun e w' => e = .returned (.bool (inB v 0 254)) ∧ w = w' := by
  by_cases h1 : 0 ≤ v <;> by_cases h2 : v < 255
  all_goals
    go_enter Try.func82, Try.ntmps82
    go_wp2
    go_ret
    refine ⟨ret_b ?_, rfl⟩
    symm
    first
    | (rw [inB_iff]; omega)
    | (rw [inB_nif]; omega)
theorem isByte_any (v : Int) (w : World) :
    Calls Try.prog 116 #[.int .i64 v] w fun e w' => e = .returned (.bool (inB v 0 255)) ∧ w = w' := by
  by_cases h1 : 0 ≤ v <;> by_cases h2 : v ≤ 255
  all_goals
    go_enter Try.func116, Try.ntmps116
    go_wp2
    go_ret
    refine ⟨ret_b ?_, rfl⟩
    symm
    first
    | (rw [inB_iff]; omega)
    | (rw [inB_nif]; omega)

/-- a frame's parts are those of a frame -/
def frOk (t f k : Int) (n : Nat) : Bool := inB t 0 255 && inB f 0 254 && inB k 0 255 && decide (n ≤ 64)
theorem frOk_iff {t f k : Int} {n : Nat} : frOk t f k n = true ↔ (0 ≤ t ∧ t ≤ 255) ∧ (0 ≤ f ∧ f ≤ 254) ∧ (0 ≤ k ∧ k ≤ 255) ∧ n ≤ 64 := by
  simp [frOk, inB]; omega

end Go.Proofs.Ytdanjfnobanehaa
