import Derived.Test.YtnlhfjdkhkmaeaaVc
import Derived.Test.YtnlhfjdkhkmaeaaFm
import Derived.Test.YtnlhfjdkhkmaeaaVa
set_option linter.unusedVariables false
set_option linter.unusedSimpArgs false
namespace Go.Proofs.Ytnlhfjdkhkmaeaa
open Go.RowKit
structure Ml where
  a : Int
  f : Int
  t : Int
  d : List UInt8
def mlS (a t : Int) (b : List UInt8) : Int := sumOf (bytesOf a 2 ++ bytesOf t 2 ++ b)
theorem inZ_iff {x a b : Int} : inZ x a b = true ↔ a ≤ x ∧ x ≤ b := by simp only [inZ, decide_eq_true_eq]
theorem mlS_bd (a t : Int) (b : List UInt8) : 0 ≤ mlS a t b ∧ mlS a t b ≤ 65535 := sumOf_bd _
theorem mlS_pk {a t : Int} (ha : 0 ≤ a ∧ a ≤ 65535) (ht : 0 ≤ t ∧ t ≤ 65535) (b : List UInt8) : mlS a t b % 65535 = (65535 - ((a.toNat + t.toNat + pk b b.length) % 65535 : Nat) : Int) % 65535 := by
  obtain ⟨x, y, e1, h1⟩ := bytesOf_two a ha.1 ha.2
  obtain ⟨z, w, e2, h2⟩ := bytesOf_two t ht.1 ht.2
  rw [mlS, sumOf_mod, e1, e2]
  have e : pk ([x, y] ++ [z, w] ++ b) ([x, y] ++ [z, w] ++ b).length = a.toNat + t.toNat + pk b b.length := by
    show pk (x :: y :: z :: w :: b) (b.length + 2 + 2) = _
    rw [pk_cons2, pk_cons2]
    omega
  rw [e]
theorem mlS_next {a t a' t' : Int} (ha : 0 ≤ a ∧ a ≤ 65535) (ht : 0 ≤ t ∧ t ≤ 65535) (ha' : 0 ≤ a' ∧ a' ≤ 65535) (ht' : 0 ≤ t' ∧ t' ≤ 65535) (h : a' + t' = a + t + 1) (b : List UInt8) : mlS a' t' b ≠ mlS a t b := fun he => by
  have h1 := mlS_pk ha ht b
  have h2 := mlS_pk ha' ht' b
  rw [he] at h2
  omega
theorem toU8_val' {v : Int} (h0 : 0 ≤ v) (h1 : v ≤ 255) : ((toU8 v).toNat : Int) = v := by
  have := toU8_val v
  rw [IntKind.wrap_u8] at this
  omega
end Go.Proofs.Ytnlhfjdkhkmaeaa
