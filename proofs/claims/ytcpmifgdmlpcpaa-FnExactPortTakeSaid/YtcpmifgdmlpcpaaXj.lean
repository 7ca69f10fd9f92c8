import Derived.Test.YtcpmifgdmlpcpaaXe
import Derived.Test.YtcpmifgdmlpcpaaVa
import Derived.Test.YtcpmifgdmlpcpaaTq
import Derived.Test.YtcpmifgdmlpcpaaTp
namespace Go.Proofs.Ytcpmifgdmlpcpaa
open Go.RowKit
set_option linter.unusedSimpArgs false
set_option linter.unusedVariables false
def szF {α : Type} (f : α → Int → Int) : List α → Int → Int
  | [], l => l
  | x :: t, l => if f x l < 0 then -1 else szF f t (f x l)
theorem szF_bd {α : Type} {f : α → Int → Int} {P : α → Prop} : ∀ (xs : List α), (∀ x ∈ xs, ∀ l, 0 ≤ l ∧ l ≤ 1048576 → -1 ≤ f x l ∧ f x l ≤ 1048576 ∧ (0 ≤ f x l → P x)) → ∀ l, 0 ≤ l ∧ l ≤ 1048576 → -1 ≤ szF f xs l ∧ szF f xs l ≤ 1048576 ∧ (0 ≤ szF f xs l → ∀ x ∈ xs, P x)
  | [], _, l, hl => ⟨by simp [szF]; omega, by simp [szF]; omega, fun _ x hx => by cases hx⟩
  | x :: t, hf, l, hl => by
    obtain ⟨b1, b2, b3⟩ := hf x (List.mem_cons_self ..) l hl
    simp only [szF]
    split
    · exact ⟨by omega, by omega, fun h => by omega⟩
    · obtain ⟨h1, h2, h3⟩ := szF_bd t (fun y hy => hf y (List.mem_cons_of_mem _ hy)) (f x l) (by omega)
      refine ⟨h1, h2, fun h0 y hy => ?_⟩
      rcases List.mem_cons.1 hy with rfl | hy
      · exact b3 (by omega)
      · exact h3 h0 y hy
end Go.Proofs.Ytcpmifgdmlpcpaa
