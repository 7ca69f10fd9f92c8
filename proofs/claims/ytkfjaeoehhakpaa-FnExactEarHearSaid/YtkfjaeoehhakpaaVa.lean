import Derived.Test.YtkfjaeoehhakpaaTc
set_option linter.unusedVariables false
set_option linter.unusedSimpArgs false
namespace Go.Proofs.Ytkfjaeoehhakpaa
open Go.RowKit
set_option linter.unusedSimpArgs false
def pkR (f t p h i a : Int) (n : Nat) : Bool := decide (((0 ≤ f ∧ f ≤ 65535) ∧ (0 ≤ t ∧ t ≤ 65535)) ∧ (0 ≤ p ∧ p ≤ 255) ∧ (0 ≤ h ∧ h ≤ 255) ∧ (0 ≤ i ∧ i ≤ 255) ∧ (0 ≤ a ∧ a ≤ 255) ∧ n ≤ 48)
def pkM (a : Int) (m u : Bool) (n : Nat) : Bool := (!m || decide (0 < n)) && (!u || (decide (a = 0) && !m))
def pkB (f t p h i a : Int) (m u : Bool) (n : Nat) : Bool := pkR f t p h i a n && pkM a m u n
end Go.Proofs.Ytkfjaeoehhakpaa
