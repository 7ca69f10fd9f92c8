import Derived.Test.YtegffkmakkccaaaSg
import Derived.Test.YtegffkmakkccaaaC2f
namespace Go.Proofs.Ytegffkmakkccaaa
open Go.RowKit
set_option linter.unusedSimpArgs false
end Go.Proofs.Ytegffkmakkccaaa
namespace Go.Proofs.Ytegffkmakkccaaa
open Go.RowKit
set_option linter.unusedSimpArgs false
def g_sameBytes : PC := fun args => match args with
  | [.l _ rows, .l _ rows'] => some ((∃ xs, rows = rowsOfBytes xs) ∧ (∃ ys, rows' = rowsOfBytes ys), .v (.bool (bytesOfRows rows == bytesOfRows rows')), [])
  | _ => none
theorem arg_ll {w : World} {sz sz' : Nat} {rows rows' : List (List D)} {vs : List Value} (h : ARel w (Zold w) (fun _ => .none) (fun _ => nilS) [.l sz rows, .l sz' rows'] vs) : ∃ u v, vs = [u, v] ∧ Rep w (Zold w) (.l sz rows) u ∧ Rep w (Zold w) (.l sz' rows') v := by
  obtain ⟨hl, hr⟩ := h
  match vs, hl, hr with
  | [u, v], _, hr =>
    have h1 := hr 0 _ u rfl rfl
    have h2 := hr 1 _ v rfl rfl
    cases h1 with
    | l _ _ _ h1 =>
      cases h2 with
      | l _ _ _ h2 => exact ⟨u, v, rfl, h1, h2⟩
theorem sameBytes_ok : PureOk Try.prog 24 g_sameBytes := by
  refine PureOk.of_calls ⟨_, _, Try.func24, by kernel_rfl, rfl⟩ fun w args vs c r bs hargs hg hc => ?_
  unfold g_sameBytes at hg
  split at hg
  · cases hg
    obtain ⟨⟨xs, rfl⟩, ys, rfl⟩ := hc
    obtain ⟨u, v, rfl, h1, h2⟩ := arg_ll hargs
    obtain ⟨A, n, c, rfl, hx, _⟩ := rd_of_rep h1
    obtain ⟨A', n', c', rfl, hy, _⟩ := rd_of_rep h2
    rw [bytesOf_rows, bytesOf_rows]
    refine ⟨_, rfl, rfl, (sameBytes_any A A' n n' c c' _ xs ys w hx hy).mono ?_⟩
    rintro e w' ⟨rfl, rfl⟩
    exact ⟨rfl, Below.refl _ _⟩
  · cases hg
end Go.Proofs.Ytegffkmakkccaaa
namespace Go.Proofs.Ytegffkmakkccaaa
open Go.RowKit
set_option linter.unusedSimpArgs false
end Go.Proofs.Ytegffkmakkccaaa
