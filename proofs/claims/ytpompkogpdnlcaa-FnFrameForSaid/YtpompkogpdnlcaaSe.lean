import Derived.Test.YtpompkogpdnlcaaSd
namespace Go.Proofs.Ytpompkogpdnlcaa
open Go.RowKit
theorem walk_FrameOk (A : Option Addr) (n c : Nat) (xs : List UInt8) (w : World) (h : Rd w w.heap.size A n (bv xs)) (hc : n ≤ c) :
    Calls Try.prog 3 #[.slice A n c] w fun e w' => e = .returned (.bool true) ∧ Below w.heap.size w w' :=
  lawFrameOk_ok.walk (args := [.l 1 (rowsOfBytes xs)]) (vs := [.slice A n c]) ⟨rfl, fun i x y hx hy => by
    cases i with
    | zero => simp at hx hy; subst hx; subst hy; exact .l _ _ _ (rep_of_rd h hc)
    | succ i => simp at hx⟩ rfl ⟨xs, rfl⟩
end Go.Proofs.Ytpompkogpdnlcaa
