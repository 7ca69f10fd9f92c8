import Derived.Test.YtdeldmagmljacaaSg
import Derived.Test.YtdeldmagmljacaaC2f
namespace Go.Proofs.Ytdeldmagmljacaa
open Go.RowKit
set_option linter.unusedSimpArgs false

def fbH (t f k : Int) (xs : List UInt8) : List UInt8 := [toU8 t, toU8 f, toU8 k, toU8 xs.length] ++ xs
def fbV (t f k : Int) (xs : List UInt8) : List UInt8 := if frB t f k xs.length = true then fbH t f k xs ++ bytesOf (sumOf (fbH t f k xs)) 2 else []
def g_frameBytes : PC := fun args => match args with
  | [.agg [.v (.int .i64 t), .v (.int .i64 f), .v (.int .i64 k), .l _ rows]] => some (∃ xs, rows = rowsOfBytes xs, .own 0, [.sl 5 1 (rowsOfBytes (fbV t f k (bytesOfRows rows)))])
  | _ => none
end Go.Proofs.Ytdeldmagmljacaa

namespace Go.Proofs.Ytdeldmagmljacaa
open Go.RowKit
set_option linter.unusedSimpArgs false

def g_drawFrameBytes : PC := fun args => match args with
  | [.l _ rows] => some (∃ xs, rows = rowsOfBytes xs, .agg [.v (.int .i64 (frameV ((bytesOfRows rows).take 2000) 0 6).to), .v (.int .i64 (frameV ((bytesOfRows rows).take 2000) 0 6).frm), .v (.int .i64 (frameV ((bytesOfRows rows).take 2000) 0 6).kind), .own 0], [.sl 5 1 (rowsOfBytes (frameV ((bytesOfRows rows).take 2000) 0 6).data)])
  | _ => none
def g_sameBytes : PC := fun args => match args with
  | [.l _ rows, .l _ rows'] => some ((∃ xs, rows = rowsOfBytes xs) ∧ (∃ ys, rows' = rowsOfBytes ys), .v (.bool (bytesOfRows rows == bytesOfRows rows')), [])
  | _ => none
theorem arg_ll {w : World} {sz sz' : Nat} {rows rows' : List (List D)} {vs : List Value} (h : ARel w (Zold w) (fun _ => .none) (fun _ => nilS) [.l sz rows, .l sz' rows'] vs) : ∃ u v, vs = [u, v] ∧ Rep w (Zold w) (.l sz rows) u ∧ Rep w (Zold w) (.l sz' rows') v := by
  obtain ⟨hl, hr⟩ := h
  match vs, hl, hr with
  | [u, v], _, hr =>
    have h1 := hr 0 _ u rfl rfl
    have h2 := hr 1 _ v rfl rfl
    cases h1 with
    | l _ _ _ h1 =>
      cases h2 with
      | l _ _ _ h2 => exact ⟨u, v, rfl, h1, h2⟩
theorem sameBytes_ok : PureOk Try.prog 17 g_sameBytes := by
  refine PureOk.of_calls ⟨_, _, Try.func17, by kernel_rfl, rfl⟩ fun w args vs c r bs hargs hg hc => ?_
  unfold g_sameBytes at hg
  split at hg
  · cases hg
    obtain ⟨⟨xs, rfl⟩, ys, rfl⟩ := hc
    obtain ⟨u, v, rfl, h1, h2⟩ := arg_ll hargs
    obtain ⟨A, n, c, rfl, hx, _⟩ := rd_of_rep h1
    obtain ⟨A', n', c', rfl, hy, _⟩ := rd_of_rep h2
    rw [bytesOf_rows, bytesOf_rows]
    refine ⟨_, rfl, rfl, (sameBytes_any A A' n n' c c' _ xs ys w hx hy).mono ?_⟩
    rintro e w' ⟨rfl, rfl⟩
    exact ⟨rfl, Below.refl _ _⟩
  · cases hg
end Go.Proofs.Ytdeldmagmljacaa

namespace Go.Proofs.Ytdeldmagmljacaa
open Go.RowKit
set_option linter.unusedSimpArgs false

def ffT (xs : List UInt8) : Int := if frFine xs = true then frT0 xs else 0
def ffF (xs : List UInt8) : Int := if frFine xs = true then frF0 xs else 0
def ffK (xs : List UInt8) : Int := if frFine xs = true then frK0 xs else 0
def ffD (xs : List UInt8) : List UInt8 := if frFine xs = true then frD0 xs else []
def g_frameFrom : PC := fun args => match args with
  | [.l _ rows] => some (∃ xs, rows = rowsOfBytes xs ∧ xs.length ≤ 1048576, .tup [.agg [.v (.int .i64 (ffT (bytesOfRows rows))), .v (.int .i64 (ffF (bytesOfRows rows))), .v (.int .i64 (ffK (bytesOfRows rows))), .own 0], .v (.bool (frFine (bytesOfRows rows)))], [.sl 5 1 (rowsOfBytes (ffD (bytesOfRows rows)))])
  | _ => none
end Go.Proofs.Ytdeldmagmljacaa
