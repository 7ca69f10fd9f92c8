import Derived.Test.YtnnpijjdjdnffaaLw2
import Derived.Test.YtnnpijjdjdnffaaPast
namespace Go.Proofs.Ytnnpijjdjdnffaa
open Go.ChangeShapes Go.WideShapes Go.ChangeAt Go.RowKit

/-- a frame as a value -/
abbrev fr4 (t f k : Int) (A : Option Addr) (n c : Nat) : Value := .agg #[.int .i64 t, .int .i64 f, .int .i64 k, .slice A n c]
/-- what is left of a bound -/
def szLeft (l : Int) (n : Nat) : Int := if l - (n : Int) < 0 then -1 else l - (n : Int)

theorem szLeft_no {l : Int} {n : Nat} (h : l < (n : Int)) : szLeft l n = -1 := by unfold szLeft; rw [if_pos (by omega)]
theorem szLeft_yes {l : Int} {n : Nat} (h : (n : Int) ≤ l) : szLeft l n = l - n := by unfold szLeft; rw [if_neg (by omega)]

theorem szByteS_any (A : Option Addr) (n c : Nat) (l : Int) (w : World) (hn : n ≤ 9223372036854775807) (hl : 0 ≤ l ∧ l ≤ 1048576) :
    Calls Try.prog 87 #[.slice A n c, .int .i64 l] w fun e w' => e = .returned (.int .i64 (szLeft l n)) ∧ w = w' := by
  by_cases h : l - (n : Int) < 0
  · go_enter Try.func87, Try.ntmps87
    go_wp2
    go_ret
    exact ⟨ret_i (by simp [szLeft, h]), rfl⟩
  · go_enter Try.func87, Try.ntmps87
    go_wp2
    go_ret
    exact ⟨ret_i (by unfold szLeft; rw [if_neg (by omega)]), rfl⟩

/-- a frame in new memory -/
def RetFt (B : Nat) (t f k : Int) (xs : List UInt8) (w : World) (e : Ending) (w' : World) : Prop :=
  ∃ A n c, e = .returned (fr4 t f k A n c) ∧ w'.ownsRow B 5 1 (.slice A n c) n (bv xs) ∧ Below B w w'

end Go.Proofs.Ytnnpijjdjdnffaa
