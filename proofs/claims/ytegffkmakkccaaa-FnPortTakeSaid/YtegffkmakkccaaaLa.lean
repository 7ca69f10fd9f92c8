import Derived.Test.YtegffkmakkccaaaVa
import Derived.Test.YtegffkmakkccaaaFm
set_option linter.unusedVariables false
set_option linter.unusedSimpArgs false
namespace Go.Proofs.Ytegffkmakkccaaa
open Go.RowKit
structure Ml where
  a : Int
  f : Int
  t : Int
  d : List UInt8
def ml0 : Ml := ⟨0, 0, 0, []⟩
def mlB (m : Ml) : Bool := inZ m.a 0 65535 && inZ m.f 1 255 && inZ m.t 1 255 && decide (m.d.length ≤ 40)
def mlX (m : Ml) : List UInt8 := toU8 m.f :: toU8 m.t :: toU8 (m.d.length : Int) :: m.d
def mlS (a t : Int) (b : List UInt8) : Int := sumOf (bytesOf a 2 ++ bytesOf t 2 ++ b)
def mlV (m : Ml) (to : Int) : List UInt8 := if (mlB m && inZ to 0 65535) = true then mlX m ++ bytesOf (mlS m.a to (mlX m)) 2 else []
def mfM (a : Int) (b : List UInt8) : Ml := ⟨a, ((b.getD 0 0).toNat : Int), ((b.getD 1 0).toNat : Int), (b.drop 3).take (b.length - 5)⟩
def mfOk (a t : Int) (b : List UInt8) : Bool := decide (5 ≤ b.length) && inZ a 0 65535 && inZ t 0 65535 && mlB (mfM a b) && decide ((b.getD 2 0).toNat = (mfM a b).d.length) && decide (numAt b ((b.length - 2 : Nat) : Int) 2 = mlS a t (b.take (b.length - 2)))
theorem mlB_iff {m : Ml} : mlB m = true ↔ (0 ≤ m.a ∧ m.a ≤ 65535) ∧ (1 ≤ m.f ∧ m.f ≤ 255) ∧ (1 ≤ m.t ∧ m.t ≤ 255) ∧ m.d.length ≤ 40 := by
  simp only [mlB, inZ, Bool.and_eq_true, decide_eq_true_eq, and_assoc]
theorem inZ_iff {x a b : Int} : inZ x a b = true ↔ a ≤ x ∧ x ≤ b := by simp only [inZ, decide_eq_true_eq]
theorem mlS_bd (a t : Int) (b : List UInt8) : 0 ≤ mlS a t b ∧ mlS a t b ≤ 65535 := sumOf_bd _
theorem mlX_len (m : Ml) : (mlX m).length = m.d.length + 3 := rfl
theorem mlV_len {m : Ml} {to : Int} (h : (mlB m && inZ to 0 65535) = true) : (mlV m to).length = m.d.length + 5 := by
  rw [mlV, if_pos h, List.length_append, bytesOf_two_len (mlS_bd _ _ _), mlX_len]
end Go.Proofs.Ytegffkmakkccaaa
