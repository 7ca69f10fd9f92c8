import Derived.Test.YtegffkmakkccaaaXk
import Derived.Test.YtegffkmakkccaaaXc
namespace Go.Proofs.Ytegffkmakkccaaa
open Go.RowKit
set_option linter.unusedSimpArgs false
set_option linter.unusedVariables false
theorem piecesK_len (x : Pk) (l k : Nat) : (piecesK x l k).length = k := by simp [piecesK]
theorem cut_cases {x : Pk} {l : Int} (h : cutB x l = true) : x.ok = true ∧ (1 ≤ l ∧ l ≤ 48) ∧ (((x.d.length : Int) ≤ l ∧ cutL x l = [x]) ∨ (l < (x.d.length : Int) ∧ x.u = false ∧ x.a + (((x.d.length - 1) / l.toNat * l.toNat : Nat) : Int) ≤ 255 ∧ cutL x l = piecesK x l.toNat (pieceN x.d.length l.toNat))) := by
  have h' := h
  rw [cutB, Bool.and_eq_true, Bool.and_eq_true, decide_eq_true_eq, Bool.or_eq_true, Bool.and_eq_true, decide_eq_true_eq, decide_eq_true_eq] at h'
  obtain ⟨⟨h1, h2⟩, h3⟩ := h'
  refine ⟨h1, h2, ?_⟩
  by_cases hl : (x.d.length : Int) ≤ l
  · exact .inl ⟨hl, by rw [cutL, if_pos h, if_pos hl]⟩
  · rcases h3 with h3 | ⟨h3, h4⟩
    · exact absurd h3 hl
    · exact .inr ⟨by omega, by simpa using h3, h4, by rw [cutL, if_pos h, if_neg hl]⟩
theorem pk_okR {x : Pk} (h : x.ok = true) : ((0 ≤ x.f ∧ x.f ≤ 65535) ∧ (0 ≤ x.t ∧ x.t ≤ 65535)) ∧ (0 ≤ x.p ∧ x.p ≤ 255) ∧ (0 ≤ x.h ∧ x.h ≤ 255) ∧ (0 ≤ x.i ∧ x.i ≤ 255) ∧ (0 ≤ x.a ∧ x.a ≤ 255) ∧ x.d.length ≤ 48 := by
  rw [Pk.ok, pkB, Bool.and_eq_true] at h
  exact of_decide_eq_true h.1
theorem cut_len (x : Pk) (l : Int) : (cutL x l).length ≤ 48 ∧ ∀ y ∈ cutL x l, y.d.length ≤ 48 := by
  rw [cutL]
  split
  · rename_i hb
    obtain ⟨h1, h2, _⟩ := cut_cases hb
    have hr := (pk_okR h1).2.2.2.2.2
    split
    · exact ⟨by simp, fun y hy => by rw [List.mem_singleton.1 hy]; exact hr⟩
    · refine ⟨?_, fun y hy => ?_⟩
      · rw [piecesK_len]
        exact Nat.le_trans (pieceN_le (by omega)) hr
      · obtain ⟨j, _, rfl⟩ := List.mem_map.1 hy
        simp only [pieceAt, List.length_take, List.length_drop]; omega
  · exact ⟨Nat.zero_le _, fun y hy => by cases hy⟩
end Go.Proofs.Ytegffkmakkccaaa
