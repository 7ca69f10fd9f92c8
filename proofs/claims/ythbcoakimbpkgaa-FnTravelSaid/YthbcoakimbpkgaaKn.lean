import Derived.Test.YthbcoakimbpkgaaKm
set_option linter.unusedVariables false
set_option linter.unusedSimpArgs false
namespace Go.Proofs.Ythbcoakimbpkgaa
open Go.RowKit
def coverB (C : List Pk) (k j i : Nat) : Bool := (C.take k).any (fun x => decide (x.a ≤ (i : Int) ∧ (i : Int) < x.z)) || (match C[k]? with | none => false | some x => decide (x.a ≤ (i : Int) ∧ (i : Int) < x.a + (j : Int)))
def cover (C : List Pk) (k j : Nat) : List Bool := (List.range 400).map (coverB C k j)
theorem cover_len (C : List Pk) (k j : Nat) : (cover C k j).length = 400 := by simp [cover]
theorem cover_get (C : List Pk) (k j i : Nat) (h : i < 400) : (cover C k j).getD i false = coverB C k j i := by simp [cover, List.getD, h]
theorem cover_zero (C : List Pk) (hC : ∀ x ∈ C, 0 ≤ x.a) : cover C 0 0 = List.replicate 400 false := by
  rw [cover]
  apply List.ext_getElem
  · rw [List.length_map, List.length_range, List.length_replicate]
  · intro i h1 h2
    simp only [List.getElem_map, List.getElem_range, List.getElem_replicate, coverB, List.take_zero, List.any_nil, Bool.false_or]
    split
    · rfl
    · rename_i x hx
      rw [decide_eq_false]
      omega
theorem cover_next (C : List Pk) (k : Nat) (h : k < C.length) : cover C k C[k].d.length = cover C (k + 1) 0 := by
  rw [cover, cover]
  refine List.map_congr_left fun i _ => ?_
  have e1 : C[k]? = some C[k] := List.getElem?_eq_getElem h
  rw [coverB, coverB, e1, List.take_add_one, e1, List.any_append]
  have e2 : (match C[k + 1]? with | none => false | some x => decide (x.a ≤ (i : Int) ∧ (i : Int) < x.a + ((0 : Nat) : Int))) = false := by
    split
    · rfl
    · rw [decide_eq_false]; omega
  rw [e2, Bool.or_false]
  have e3 : ∀ b, (b || decide (C[k].a ≤ (i : Int) ∧ (i : Int) < C[k].a + (C[k].d.length : Int))) = (b || [C[k]].any fun x => decide (x.a ≤ (i : Int) ∧ (i : Int) < x.z)) := fun b => by
    rw [List.any_cons, List.any_nil, Bool.or_false]; rfl
  exact e3 _
theorem cover_set (C : List Pk) (k j : Nat) (h : k < C.length) (hj : j < C[k].d.length) (ha : 0 ≤ C[k].a) : (cover C k j).set (C[k].a + (j : Int)).toNat true = cover C k (j + 1) := by
  apply List.ext_getElem
  · simp [cover]
  · intro i h1 h2
    have e1 : C[k]? = some C[k] := List.getElem?_eq_getElem h
    rw [List.getElem_set]
    simp only [cover, List.getElem_map, List.getElem_range, coverB, e1]
    split
    · rename_i hi
      rw [decide_eq_true (p := C[k].a ≤ (i : Int) ∧ (i : Int) < C[k].a + ((j + 1 : Nat) : Int)) (by omega), Bool.or_true]
    · rename_i hi
      congr 1
      rw [decide_eq_decide]
      omega
theorem cover_free {p : Pk} {C : List Pk} (hC : Kept p C) (k j : Nat) (h : k < C.length) (hj : j < C[k].d.length) (ha : 0 ≤ C[k].a) : coverB C k j (C[k].a + (j : Int)).toNat = false := by
  have e1 : C[k]? = some C[k] := List.getElem?_eq_getElem h
  rw [coverB, e1]
  simp only [Bool.or_eq_false_iff]
  refine ⟨?_, by rw [decide_eq_false]; omega⟩
  rw [Bool.eq_false_iff]
  intro hn
  obtain ⟨x, hx, hx2⟩ := List.any_eq_true.1 hn
  rw [decide_eq_true_eq] at hx2
  obtain ⟨i, hi, rfl⟩ := List.getElem_of_mem hx
  rw [List.getElem_take] at hx2
  rw [List.length_take] at hi
  have := List.pairwise_iff_getElem.1 hC.2 i k (by omega) h (by omega)
  have hz : C[k].z = C[k].a + (C[k].d.length : Int) := rfl
  rcases this with h3 | h3 <;> omega
theorem part_byte {p q : Pk} (h : PartOf p q) {j : Nat} (hj : j < q.d.length) : 0 ≤ q.a + (j : Int) - p.a ∧ (q.a + (j : Int) - p.a).toNat < p.d.length ∧ q.d.getD j 0 = p.d.getD (q.a + (j : Int) - p.a).toNat 0 := by
  obtain ⟨_, _, n, h1, h2, h3⟩ := h
  have e : (q.a + (j : Int) - p.a).toNat = n + j := by omega
  refine ⟨by omega, by omega, ?_⟩
  rw [e]
  simp only [List.getD_eq_getElem?_getD]
  rw [h3, List.getElem?_take_of_lt hj, List.getElem?_drop]
end Go.Proofs.Ythbcoakimbpkgaa
