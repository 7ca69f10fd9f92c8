import Derived.Test.YtloffpgdclbkhaaMem
import Derived.Test.YtloffpgdclbkhaaNum
import Derived.Outline
import Derived.BigQuiet
import Derived.Deep.QuietTactic
namespace Go.Proofs.Ytloffpgdclbkhaa
open Go.ChangeShapes Go.WideShapes Go.ChangeAt Go.RowKit

def inB (n lo hi : Int) : Bool := decide (lo ≤ n ∧ n ≤ hi)
theorem inB_t {n lo hi : Int} (h1 : lo ≤ n) (h2 : n ≤ hi) : inB n lo hi = true := by simp [inB, h1, h2]
theorem inB_f {n lo hi : Int} (h : n < lo ∨ hi < n) : inB n lo hi = false := by simp [inB]; omega
theorem inB_iff {n lo hi : Int} : inB n lo hi = true ↔ lo ≤ n ∧ n ≤ hi := by simp [inB]
theorem inB_nif {n lo hi : Int} : inB n lo hi = false ↔ n < lo ∨ hi < n := by simp [inB]; omega

theorem l1In_any (n lo hi : Int) (w : World) :
    Calls Try.prog 41 #[.int .i64 n, .int .i64 lo, .int .i64 hi] w fun e w' => e = .returned (.bool (inB n lo hi)) ∧ w = w' := by
  by_cases h1 : lo ≤ n <;> by_cases h2 : n ≤ hi
  all_goals
    go_enter Try.func41, Try.ntmps41
    go_wp2
    go_ret
    refine ⟨ret_b ?_, rfl⟩
    symm
    first
    | (rw [inB_iff]; omega)
    | (rw [inB_nif]; omega)

theorem isPair_any (v : Int) (w : World) :
    Calls Try.prog 78 #[.int .i64 v] w fun e w' => e = .returned (.bool (inB v 0 65535)) ∧ w = w' := by
  by_cases h1 : 0 ≤ v <;> by_cases h2 : v ≤ 65535
  all_goals
    go_enter Try.func78, Try.ntmps78
    go_wp2
    go_ret
    refine ⟨ret_b ?_, rfl⟩
    symm
    first
    | (rw [inB_iff]; omega)
    | (rw [inB_nif]; omega)

def sTurn (s o n : Int) : Int := if inB s 0 65535 && inB o 0 65535 && inB n 0 65535 then sAdd (sAdd s o) (65535 - n) else -1

end Go.Proofs.Ytloffpgdclbkhaa

namespace Go.Proofs.Ytloffpgdclbkhaa
open Go.ChangeShapes Go.WideShapes Go.ChangeAt Go.RowKit

def pairVal (xs : List UInt8) (k : Nat) : Int := 256 * ((xs.getD k 0).toNat : Int) + ((xs.getD (k + 1) 0).toNat : Int)
theorem pairVal_bd (xs : List UInt8) (k : Nat) : 0 ≤ pairVal xs k ∧ pairVal xs k ≤ 65535 := by
  have h1 := (xs.getD k 0).toNat_lt; have h2 := (xs.getD (k + 1) 0).toNat_lt; unfold pairVal; omega

theorem pk_over (xs : List UInt8) (k : Nat) (h : xs.length ≤ k) : pk xs k = pk xs xs.length := by
  induction k with
  | zero =>
    have : xs.length = 0 := by omega
    rw [this]
  | succ k ih =>
    by_cases hk : xs.length ≤ k
    · rw [← ih hk]
      show pk xs k + wt k (xs.getD k 0) = _
      have : xs.getD k 0 = 0 := by simp [List.getD, List.getElem?_eq_none hk]
      rw [this]
      simp [wt]
    · have : xs.length = k + 1 := by omega
      rw [this]
theorem can_pair (xs : List UInt8) (k : Nat) (h : k % 2 = 0) : sAdd (can (pk xs k)) (pairVal xs k) = can (pk xs (k + 2)) := by
  have h1 := (xs.getD k 0).toNat_lt; have h2 := (xs.getD (k + 1) 0).toNat_lt
  have e : pairVal xs k = ((256 * (xs.getD k 0).toNat + (xs.getD (k + 1) 0).toNat : Nat) : Int) := by simp [pairVal]
  rw [e, can_add _ _ (by omega)]
  show _ = can (pk xs k + wt k (xs.getD k 0) + wt (k + 1) (xs.getD (k + 1) 0))
  rw [wt_even h, wt_odd (by omega)]
  congr 1
  omega

end Go.Proofs.Ytloffpgdclbkhaa

namespace Go.Proofs.Ytloffpgdclbkhaa
open Go.ChangeShapes Go.WideShapes Go.ChangeAt Go.RowKit

def sNo (v : Int) : Bool := decide (v = 0 ∨ v = 65535)
def fits (xs : List UInt8) (s : Int) : Bool := decide (0 ≤ s ∧ s ≤ 65535 ∧ s % 65535 = sumOf xs % 65535)

end Go.Proofs.Ytloffpgdclbkhaa

namespace Go.Proofs.Ytloffpgdclbkhaa
open Go.ChangeShapes Go.WideShapes Go.ChangeAt Go.RowKit

end Go.Proofs.Ytloffpgdclbkhaa

namespace Go.Proofs.Ytloffpgdclbkhaa
open Go.ChangeShapes Go.WideShapes Go.ChangeAt Go.RowKit

theorem fill_back {v : Nat} {n q : Nat} (hq : q < n) :
    (List.replicate (q + 1) (Value.int .u8 0) ++ bv (beB v (n - 1 - q))).set q (.int .u8 ((v / 256 ^ (n - 1 - q) % 256 : Nat) : Int)) = List.replicate q (.int .u8 0) ++ bv (beB v (n - q)) := by
  have e : n - q = 1 + (n - 1 - q) := by omega
  rw [e, beB_snoc, bv_append, List.replicate_succ', List.append_assoc, List.set_append_right _ _ (by simp)]
  simp [beB, bv, bval]

end Go.Proofs.Ytloffpgdclbkhaa
