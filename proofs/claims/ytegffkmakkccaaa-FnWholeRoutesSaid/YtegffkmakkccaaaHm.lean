import Derived.Test.YtegffkmakkccaaaXa
import Derived.Test.YtegffkmakkccaaaXb
namespace Go.Proofs.Ytegffkmakkccaaa
open Go.RowKit
set_option linter.unusedSimpArgs false
set_option linter.unusedVariables false
theorem cut_last {n len k : Nat} (hn : 1 ≤ n) (h : n * k < len) : n * k ≤ (len - 1) / n * n := by
  have : k ≤ (len - 1) / n := (Nat.le_div_iff_mul_le (by omega)).2 (by rw [Nat.mul_comm]; omega)
  rw [Nat.mul_comm n k]
  exact Nat.mul_le_mul_right _ this
end Go.Proofs.Ytegffkmakkccaaa
namespace Go.Proofs.Ytegffkmakkccaaa
open Go.RowKit
set_option linter.unusedSimpArgs false
set_option linter.unusedVariables false
def joinD (ps : List Pk) : List UInt8 := ps.flatMap fun x => x.d
end Go.Proofs.Ytegffkmakkccaaa
namespace Go.Proofs.Ytegffkmakkccaaa
open Go.RowKit
set_option linter.unusedSimpArgs false
set_option linter.unusedVariables false
theorem joinD_snoc (ps : List Pk) (x : Pk) : joinD (ps ++ [x]) = joinD ps ++ x.d := by simp [joinD]
theorem piecesK_succ (x : Pk) (l k : Nat) : piecesK x l (k + 1) = piecesK x l k ++ [pieceAt x (l * k) l] := by
  rw [piecesK, piecesK, List.range_succ, List.map_append]; rfl
theorem piecesK_len (x : Pk) (l k : Nat) : (piecesK x l k).length = k := by simp [piecesK]
theorem piecesK_take (x : Pk) (l n k : Nat) (h : k ≤ n) : (piecesK x l n).take k = piecesK x l k := by
  rw [piecesK, ← List.map_take, List.take_range, Nat.min_eq_left h, piecesK]
theorem piecesK_get (x : Pk) (l n k : Nat) (h : k < (piecesK x l n).length) : (piecesK x l n)[k] = pieceAt x (l * k) l := by simp [piecesK]
theorem piecesK_join (x : Pk) (l : Nat) : ∀ k, joinD (piecesK x l k) = x.d.take (l * k)
  | 0 => by simp [piecesK, joinD]
  | k + 1 => by
    rw [piecesK_succ, joinD_snoc, piecesK_join x l k, Nat.mul_succ, List.take_add]; rfl
theorem cut_cases {x : Pk} {l : Int} (h : cutB x l = true) : x.ok = true ∧ (1 ≤ l ∧ l ≤ 48) ∧ (((x.d.length : Int) ≤ l ∧ cutL x l = [x]) ∨ (l < (x.d.length : Int) ∧ x.u = false ∧ x.a + (((x.d.length - 1) / l.toNat * l.toNat : Nat) : Int) ≤ 255 ∧ cutL x l = piecesK x l.toNat (pieceN x.d.length l.toNat))) := by
  have h' := h
  rw [cutB, Bool.and_eq_true, Bool.and_eq_true, decide_eq_true_eq, Bool.or_eq_true, Bool.and_eq_true, decide_eq_true_eq, decide_eq_true_eq] at h'
  obtain ⟨⟨h1, h2⟩, h3⟩ := h'
  refine ⟨h1, h2, ?_⟩
  by_cases hl : (x.d.length : Int) ≤ l
  · exact .inl ⟨hl, by rw [cutL, if_pos h, if_pos hl]⟩
  · rcases h3 with h3 | ⟨h3, h4⟩
    · exact absurd h3 hl
    · exact .inr ⟨by omega, by simpa using h3, h4, by rw [cutL, if_pos h, if_neg hl]⟩
theorem pk_okR {x : Pk} (h : x.ok = true) : ((0 ≤ x.f ∧ x.f ≤ 65535) ∧ (0 ≤ x.t ∧ x.t ≤ 65535)) ∧ (0 ≤ x.p ∧ x.p ≤ 255) ∧ (0 ≤ x.h ∧ x.h ≤ 255) ∧ (0 ≤ x.i ∧ x.i ≤ 255) ∧ (0 ≤ x.a ∧ x.a ≤ 255) ∧ x.d.length ≤ 48 := by
  rw [Pk.ok, pkB, Bool.and_eq_true] at h
  exact of_decide_eq_true h.1
theorem piece_ok {x : Pk} {n l : Nat} (h : x.ok = true) (hu : x.u = false) (hn : n < x.d.length) (hl : 1 ≤ l) (ha : x.a + (n : Int) ≤ 255) : (pieceAt x n l).ok = true := by
  have hr := pk_okR h
  rw [Pk.ok, pkB, Bool.and_eq_true, pkR, decide_eq_true_eq, pkM]
  simp only [pieceAt, List.length_take, List.length_drop, hu, Bool.not_false, Bool.true_or, Bool.and_true, Bool.or_eq_true, decide_eq_true_eq]
  exact ⟨by omega, .inr (by omega)⟩
theorem cut_facts {x : Pk} {l : Int} (h : cutB x l = true) (k : Nat) (hk : k < (cutL x l).length) : ((cutL x l)[k].d.length : Int) ≤ l ∧ (cutL x l)[k].ok = true ∧ (cutL x l)[k].a = x.a + ((joinD ((cutL x l).take k)).length : Int) ∧ (cutL x l)[k].m = (x.m || decide (k + 1 < (cutL x l).length)) := by
  obtain ⟨h1, h2, ⟨h3, e⟩ | ⟨h3, h4, h5, e⟩⟩ := cut_cases h
  · simp only [e, List.length_singleton] at hk ⊢
    obtain rfl : k = 0 := by omega
    simp [joinD, h1, h3]
  · obtain ⟨n, rfl⟩ : ∃ n : Nat, l = (n : Int) := ⟨l.toNat, by omega⟩
    rw [Int.toNat_natCast] at e h5
    simp only [e, piecesK_len] at hk ⊢
    rw [piecesK_get, piecesK_take _ _ _ _ (by omega), piecesK_join]
    have hlt := (pieceN_lt (n := x.d.length) (l := n) (k := k) (by omega)).2 hk
    have hlast := cut_last (n := n) (len := x.d.length) (k := k) (by omega) hlt
    refine ⟨?_, piece_ok h1 h4 hlt (by omega) (by omega), ?_, ?_⟩
    · simp only [pieceAt, List.length_take]; omega
    · rw [List.length_take, Nat.min_eq_left (by omega)]; rfl
    · have h6 := pieceN_lt (n := x.d.length) (l := n) (k := k + 1) (by omega)
      rw [Nat.mul_succ] at h6
      show (x.m || decide ((n : Int) < (x.d.length : Int) - ((n * k : Nat) : Int))) = _
      congr 1
      rw [decide_eq_decide]
      omega
theorem cut_join {x : Pk} {l : Int} (h : cutB x l = true) : joinD (cutL x l) = x.d := by
  obtain ⟨h1, h2, ⟨h3, e⟩ | ⟨h3, h4, h5, e⟩⟩ := cut_cases h
  · rw [e]; simp [joinD]
  · rw [e, piecesK_join]
    apply List.take_of_length_le
    have := pieceN_lt (n := x.d.length) (l := l.toNat) (k := pieceN x.d.length l.toNat) (by omega)
    omega
end Go.Proofs.Ytegffkmakkccaaa
