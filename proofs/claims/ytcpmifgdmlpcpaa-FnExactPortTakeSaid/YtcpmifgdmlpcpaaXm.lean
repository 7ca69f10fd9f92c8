import Derived.Test.YtcpmifgdmlpcpaaXj
namespace Go.Proofs.Ytcpmifgdmlpcpaa
open Go.RowKit
set_option linter.unusedSimpArgs false
set_option linter.unusedVariables false
theorem Pk_eq (x y : Pk) : x = y ↔ x.f = y.f ∧ x.t = y.t ∧ x.p = y.p ∧ x.h = y.h ∧ x.i = y.i ∧ x.a = y.a ∧ x.m = y.m ∧ x.u = y.u ∧ x.d = y.d := by
  cases x; cases y; simp
theorem Pt_eq (x y : Pt) : x = y ↔ x.ps = y.ps ∧ x.u = y.u := by
  cases x; cases y; simp
instance : DecidableEq Pk := fun x y => decidable_of_iff _ (Pk_eq x y).symm
instance : DecidableEq Pt := fun x y => decidable_of_iff _ (Pt_eq x y).symm
theorem take_eq {α : Type} {a b : List α} {k : Nat} (ha : k < a.length) (hb : k < b.length) : a.take (k + 1) = b.take (k + 1) ↔ a.take k = b.take k ∧ a[k] = b[k] := by
  rw [List.take_add_one, List.take_add_one, List.getElem?_eq_getElem ha, List.getElem?_eq_getElem hb]
  constructor
  · intro h
    have h1 := List.append_inj h (by rw [List.length_take, List.length_take]; omega)
    exact ⟨h1.1, by simpa using h1.2⟩
  · rintro ⟨h1, h2⟩
    rw [h1, h2]
end Go.Proofs.Ytcpmifgdmlpcpaa
