import Derived.Test.YtcpmifgdmlpcpaaSg
import Derived.Test.YtcpmifgdmlpcpaaC2f
namespace Go.Proofs.Ytcpmifgdmlpcpaa
open Go.RowKit
set_option linter.unusedSimpArgs false
end Go.Proofs.Ytcpmifgdmlpcpaa
namespace Go.Proofs.Ytcpmifgdmlpcpaa
open Go.RowKit
set_option linter.unusedSimpArgs false
theorem arg_ll {w : World} {sz sz' : Nat} {rows rows' : List (List D)} {vs : List Value} (h : ARel w (Zold w) (fun _ => .none) (fun _ => nilS) [.l sz rows, .l sz' rows'] vs) : ∃ u v, vs = [u, v] ∧ Rep w (Zold w) (.l sz rows) u ∧ Rep w (Zold w) (.l sz' rows') v := by
  obtain ⟨hl, hr⟩ := h
  match vs, hl, hr with
  | [u, v], _, hr =>
    have h1 := hr 0 _ u rfl rfl
    have h2 := hr 1 _ v rfl rfl
    cases h1 with
    | l _ _ _ h1 =>
      cases h2 with
      | l _ _ _ h2 => exact ⟨u, v, rfl, h1, h2⟩
end Go.Proofs.Ytcpmifgdmlpcpaa
namespace Go.Proofs.Ytcpmifgdmlpcpaa
open Go.RowKit
set_option linter.unusedSimpArgs false
end Go.Proofs.Ytcpmifgdmlpcpaa
