import Derived.Test.YtheikjkfffepnaaTn
namespace Go.Proofs.Ytheikjkfffepnaa
open Go.RowKit

/-! what is known and kept, compared -/
def kEq : List KE → List KE → Bool
  | [], [] => true
  | e :: t, e' :: t' => (e.a == e'.a && e.l == e'.l && e.u == e'.u) && kEq t t'
  | _, _ => false
def hEq : List HE → List HE → Bool
  | [], [] => true
  | e :: t, e' :: t' => (e.a == e'.a && e.d == e'.d) && hEq t t'
  | _, _ => false
theorem kEq_refl : ∀ ks, kEq ks ks = true
  | [] => rfl
  | e :: t => by simp [kEq, kEq_refl t]
theorem hEq_refl : ∀ ks, hEq ks ks = true
  | [] => rfl
  | e :: t => by simp [hEq, hEq_refl t]
theorem kEq_len : ∀ {ks ks' : List KE}, ks.length ≠ ks'.length → kEq ks ks' = false
  | [], [], h => absurd rfl h
  | [], _ :: _, _ => rfl
  | _ :: _, [], _ => rfl
  | e :: t, e' :: t', h => by rw [kEq, kEq_len (ks := t) (ks' := t') (by simpa using h), Bool.and_false]
theorem hEq_len : ∀ {ks ks' : List HE}, ks.length ≠ ks'.length → hEq ks ks' = false
  | [], [], h => absurd rfl h
  | [], _ :: _, _ => rfl
  | _ :: _, [], _ => rfl
  | e :: t, e' :: t', h => by rw [hEq, hEq_len (ks := t) (ks' := t') (by simpa using h), Bool.and_false]
end Go.Proofs.Ytheikjkfffepnaa
