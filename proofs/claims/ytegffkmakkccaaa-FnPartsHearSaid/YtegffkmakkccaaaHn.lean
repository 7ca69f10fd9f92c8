import Derived.Test.YtegffkmakkccaaaHm
import Derived.Test.YtegffkmakkccaaaXg
namespace Go.Proofs.Ytegffkmakkccaaa
open Go.RowKit
set_option linter.unusedSimpArgs false
set_option linter.unusedVariables false
theorem follows_iff {x y : Pk} : follows x y = true ↔ same4 x y = true ∧ x.m = true ∧ x.z ≤ y.a := by
  rw [follows, Bool.and_eq_true, Bool.and_eq_true, decide_eq_true_eq, and_assoc]
theorem follows_trans {x y w : Pk} (h1 : follows x y = true) (h2 : follows y w = true) : follows x w = true := by
  rw [follows_iff] at h1 h2 ⊢
  obtain ⟨a1, a2, a3⟩ := h1
  obtain ⟨b1, b2, b3⟩ := h2
  rw [same4_iff] at a1 b1 ⊢
  refine ⟨⟨by rw [a1.1, b1.1], by rw [a1.2.1, b1.2.1], by rw [a1.2.2.1, b1.2.2.1], by rw [a1.2.2.2, b1.2.2.2]⟩, a2, ?_⟩
  have : y.z = y.a + (y.d.length : Int) := rfl
  omega
abbrev Ch (ps : List Pk) : Prop := ps.Pairwise fun x y => follows x y = true
theorem oksK_iff (ps : List Pk) : oksK ps ps.length = true ↔ (∀ x ∈ ps, x.ok = true) ∧ Ch ps := by
  constructor
  · intro h
    have hs : ∀ k (hk : k < ps.length), ps[k].ok = true ∧ (∀ (h0 : 0 < k), follows (ps[k - 1]'(by omega)) ps[k] = true) := by
      intro k hk
      have := List.all_eq_true.1 h k (List.mem_range.2 hk)
      rw [stepB, pk_get hk, Bool.and_eq_true, Bool.or_eq_true, decide_eq_true_eq] at this
      refine ⟨this.1, fun h0 => ?_⟩
      rcases this.2 with h' | h'
      · omega
      · rw [pk_get (show k - 1 < ps.length by omega)] at h'; exact h'
    refine ⟨fun x hx => ?_, ?_⟩
    · obtain ⟨k, hk, rfl⟩ := List.getElem_of_mem hx
      exact (hs k hk).1
    · rw [Ch, List.pairwise_iff_getElem]
      intro i j hi hj hij
      induction j with
      | zero => omega
      | succ j ih =>
        have hl := (hs (j + 1) hj).2 (by omega)
        by_cases e : i = j
        · subst e; exact hl
        · exact follows_trans (ih (by omega) (by omega)) hl
  · rintro ⟨h1, h2⟩
    refine List.all_eq_true.2 fun k hk => ?_
    have hk := List.mem_range.1 hk
    rw [stepB, pk_get hk, Bool.and_eq_true, Bool.or_eq_true, decide_eq_true_eq]
    refine ⟨h1 _ (List.getElem_mem hk), ?_⟩
    by_cases h0 : k = 0
    · exact .inl h0
    · refine .inr ?_
      rw [pk_get (show k - 1 < ps.length by omega)]
      exact List.pairwise_iff_getElem.1 h2 (k - 1) k (by omega) hk (by omega)
theorem partB_iff (ps : List Pk) (u : Int) : partB ps u = true ↔ (∀ x ∈ ps, x.ok = true) ∧ Ch ps ∧ sumN ps ≤ 48 ∧ 0 < ps.length ∧ (0 ≤ u ∧ u ≤ 1000000) := by
  rw [partB, piecesB, Bool.and_eq_true, Bool.and_eq_true, Bool.and_eq_true, oksK_iff, decide_eq_true_eq, decide_eq_true_eq, decide_eq_true_eq]
  constructor
  · rintro ⟨⟨⟨⟨a, b⟩, c⟩, d⟩, e⟩; exact ⟨a, b, c, d, e⟩
  · rintro ⟨a, b, c, d, e⟩; exact ⟨⟨⟨⟨a, b⟩, c⟩, d⟩, e⟩
theorem whole_parts {ps : List Pk} {u : Int} (h : wholeB ps u = true) : partB ps u = true ∧ reachK ps ps.length = true ∧ moreK ps ps.length = false := by
  rw [wholeB, reachB, Bool.and_eq_true, Bool.and_eq_true] at h
  exact ⟨h.1, h.2.1, by simpa using h.2.2⟩
theorem zero_at {ps : List Pk} (h : 0 < ps.length) (hr : reachK ps ps.length = true) : ps[0].a = 0 := by
  have := List.all_eq_true.1 hr 0 (List.mem_range.2 h)
  rw [pk_get h, beq_iff_eq] at this
  rw [this]; rfl
theorem whole_out {ps : List Pk} {u : Int} (h : wholeB ps u = true) : (wholeV ps u).d.length = sumN ps ∧ (wholeV ps u).a = 0 ∧ (wholeV ps u).m = false ∧ (wholeV ps u).ok = true := by
  obtain ⟨a1, a2, a3⟩ := whole_parts h
  have c := (partB_iff _ _).1 a1
  have h0 := c.2.2.2.1
  have hz := zero_at h0 a2
  have hr := pk_okR (c.1 _ (List.getElem_mem h0))
  rw [wholeV, if_pos h, pk_get h0]
  refine ⟨joinD_len _, hz, rfl, ?_⟩
  rw [Pk.ok, pkB, Bool.and_eq_true, pkR, decide_eq_true_eq, pkM]
  refine ⟨⟨hr.1, hr.2.1, hr.2.2.1, hr.2.2.2.1, hr.2.2.2.2.1, ?_⟩, ?_⟩
  · show (joinD ps).length ≤ 48
    rw [joinD_len]; exact c.2.2.1
  · show (_ && (_ || (decide (ps[0].a = 0) && _))) = true
    rw [hz]
    simp
end Go.Proofs.Ytegffkmakkccaaa
