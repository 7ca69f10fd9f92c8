import Derived.Test.YtdeldmagmljacaaXk
import Derived.Test.YtdeldmagmljacaaXc
namespace Go.Proofs.Ytdeldmagmljacaa
open Go.RowKit
set_option linter.unusedSimpArgs false
set_option linter.unusedVariables false

/-! mathematics of cuts -/
theorem joinD_snoc (ps : List Pk) (x : Pk) : joinD (ps ++ [x]) = joinD ps ++ x.d := by simp [joinD]
theorem piecesK_succ (x : Pk) (l k : Nat) : piecesK x l (k + 1) = piecesK x l k ++ [pieceAt x (l * k) l] := by
  rw [piecesK, piecesK, List.range_succ, List.map_append]; rfl
theorem piecesK_len (x : Pk) (l k : Nat) : (piecesK x l k).length = k := by simp [piecesK]
theorem piecesK_take (x : Pk) (l n k : Nat) (h : k ≤ n) : (piecesK x l n).take k = piecesK x l k := by
  rw [piecesK, ← List.map_take, List.take_range, Nat.min_eq_left h, piecesK]
theorem piecesK_get (x : Pk) (l n k : Nat) (h : k < (piecesK x l n).length) : (piecesK x l n)[k] = pieceAt x (l * k) l := by simp [piecesK]
theorem piecesK_join (x : Pk) (l : Nat) : ∀ k, joinD (piecesK x l k) = x.d.take (l * k)
  | 0 => by simp [piecesK, joinD]
  | k + 1 => by
    rw [piecesK_succ, joinD_snoc, piecesK_join x l k, Nat.mul_succ, List.take_add]; rfl
/-- what a cut comes to: itself, or pieces -/
theorem cut_cases {x : Pk} {l : Int} (h : cutB x l = true) : x.ok = true ∧ (1 ≤ l ∧ l ≤ 48) ∧ (((x.d.length : Int) ≤ l ∧ cutL x l = [x]) ∨ (l < (x.d.length : Int) ∧ x.u = false ∧ x.a + (((x.d.length - 1) / l.toNat * l.toNat : Nat) : Int) ≤ 255 ∧ cutL x l = piecesK x l.toNat (pieceN x.d.length l.toNat))) := by
  have h' := h
  rw [cutB, Bool.and_eq_true, Bool.and_eq_true, decide_eq_true_eq, Bool.or_eq_true, Bool.and_eq_true, decide_eq_true_eq, decide_eq_true_eq] at h'
  obtain ⟨⟨h1, h2⟩, h3⟩ := h'
  refine ⟨h1, h2, ?_⟩
  by_cases hl : (x.d.length : Int) ≤ l
  · exact .inl ⟨hl, by rw [cutL, if_pos h, if_pos hl]⟩
  · rcases h3 with h3 | ⟨h3, h4⟩
    · exact absurd h3 hl
    · exact .inr ⟨by omega, by simpa using h3, h4, by rw [cutL, if_pos h, if_neg hl]⟩
theorem pk_okR {x : Pk} (h : x.ok = true) : ((0 ≤ x.f ∧ x.f ≤ 65535) ∧ (0 ≤ x.t ∧ x.t ≤ 65535)) ∧ (0 ≤ x.p ∧ x.p ≤ 255) ∧ (0 ≤ x.h ∧ x.h ≤ 255) ∧ (0 ≤ x.i ∧ x.i ≤ 255) ∧ (0 ≤ x.a ∧ x.a ≤ 255) ∧ x.d.length ≤ 48 := by
  rw [Pk.ok, pkB, Bool.and_eq_true] at h
  exact of_decide_eq_true h.1
theorem piece_ok {x : Pk} {n l : Nat} (h : x.ok = true) (hu : x.u = false) (hn : n < x.d.length) (hl : 1 ≤ l) (ha : x.a + (n : Int) ≤ 255) : (pieceAt x n l).ok = true := by
  have hr := pk_okR h
  rw [Pk.ok, pkB, Bool.and_eq_true, pkR, decide_eq_true_eq, pkM]
  simp only [pieceAt, List.length_take, List.length_drop, hu, Bool.not_false, Bool.true_or, Bool.and_true, Bool.or_eq_true, decide_eq_true_eq]
  exact ⟨by omega, .inr (by omega)⟩
theorem cut_facts {x : Pk} {l : Int} (h : cutB x l = true) (k : Nat) (hk : k < (cutL x l).length) : ((cutL x l)[k].d.length : Int) ≤ l ∧ (cutL x l)[k].ok = true ∧ (cutL x l)[k].a = x.a + ((joinD ((cutL x l).take k)).length : Int) ∧ (cutL x l)[k].m = (x.m || decide (k + 1 < (cutL x l).length)) := by
  obtain ⟨h1, h2, ⟨h3, e⟩ | ⟨h3, h4, h5, e⟩⟩ := cut_cases h
  · simp only [e, List.length_singleton] at hk ⊢
    obtain rfl : k = 0 := by omega
    simp [joinD, h1, h3]
  · obtain ⟨n, rfl⟩ : ∃ n : Nat, l = (n : Int) := ⟨l.toNat, by omega⟩
    rw [Int.toNat_natCast] at e h5
    simp only [e, piecesK_len] at hk ⊢
    rw [piecesK_get, piecesK_take _ _ _ _ (by omega), piecesK_join]
    have hlt := (pieceN_lt (n := x.d.length) (l := n) (k := k) (by omega)).2 hk
    have hlast := cut_last (n := n) (len := x.d.length) (k := k) (by omega) hlt
    refine ⟨?_, piece_ok h1 h4 hlt (by omega) (by omega), ?_, ?_⟩
    · simp only [pieceAt, List.length_take]; omega
    · rw [List.length_take, Nat.min_eq_left (by omega)]; rfl
    · have h6 := pieceN_lt (n := x.d.length) (l := n) (k := k + 1) (by omega)
      rw [Nat.mul_succ] at h6
      show (x.m || decide ((n : Int) < (x.d.length : Int) - ((n * k : Nat) : Int))) = _
      congr 1
      rw [decide_eq_decide]
      omega
theorem cut_join {x : Pk} {l : Int} (h : cutB x l = true) : joinD (cutL x l) = x.d := by
  obtain ⟨h1, h2, ⟨h3, e⟩ | ⟨h3, h4, h5, e⟩⟩ := cut_cases h
  · rw [e]; simp [joinD]
  · rw [e, piecesK_join]
    apply List.take_of_length_le
    have := pieceN_lt (n := x.d.length) (l := l.toNat) (k := pieceN x.d.length l.toNat) (by omega)
    omega
theorem cut_len (x : Pk) (l : Int) : (cutL x l).length ≤ 48 ∧ ∀ y ∈ cutL x l, y.d.length ≤ 48 := by
  rw [cutL]
  split
  · rename_i hb
    obtain ⟨h1, h2, _⟩ := cut_cases hb
    have hr := (pk_okR h1).2.2.2.2.2
    split
    · exact ⟨by simp, fun y hy => by rw [List.mem_singleton.1 hy]; exact hr⟩
    · refine ⟨?_, fun y hy => ?_⟩
      · rw [piecesK_len]
        exact Nat.le_trans (pieceN_le (by omega)) hr
      · obtain ⟨j, _, rfl⟩ := List.mem_map.1 hy
        simp only [pieceAt, List.length_take, List.length_drop]; omega
  · exact ⟨Nat.zero_le _, fun y hy => by cases hy⟩
theorem pieceN_one (n : Nat) : pieceN n 1 = n := by
  rw [pieceN, Nat.add_sub_cancel, Nat.div_one]
theorem ones_eq (x : Pk) (k : Nat) : piecesK x 1 k = (List.range k).map fun j => pieceAt x j 1 := by
  rw [piecesK]; congr 1; funext j; rw [Nat.one_mul]
/-- a piece cut into single bytes -/
theorem piece_ones {x : Pk} {n l : Nat} (h : x.ok = true) (hu : x.u = false) (hn : n < x.d.length) (hl : 1 ≤ l) (ha : x.a + ((x.d.length - 1 : Nat) : Int) ≤ 255) : cutL (pieceAt x n l) 1 = (List.range (min l (x.d.length - n))).map fun j => pieceAt x (n + j) 1 := by
  have hok := piece_ok (l := l) h hu hn hl (by omega)
  have hlen : (pieceAt x n l).d.length = min l (x.d.length - n) := by simp only [pieceAt, List.length_take, List.length_drop]
  have hB : cutB (pieceAt x n l) 1 = true := by
    rw [cutB, hok, hlen]
    have e1 : (1 : Int).toNat = 1 := rfl
    rw [e1, Nat.div_one, Nat.mul_one]
    show (true && decide ((1 : Int) ≤ 1 ∧ (1 : Int) ≤ 48) && (_ || (!x.u && decide (x.a + (n : Int) + _ ≤ 255)))) = true
    rw [hu, decide_eq_true (p := (1 : Int) ≤ 1 ∧ (1 : Int) ≤ 48) (by omega), decide_eq_true (p := x.a + (n : Int) + ((min l (x.d.length - n) - 1 : Nat) : Int) ≤ 255) (by omega)]
    simp
  have piece_eq : ∀ j, j < min l (x.d.length - n) → pieceAt (pieceAt x n l) j 1 = pieceAt x (n + j) 1 := by
    intro j hj
    have ed : ((pieceAt x n l).d.drop j).take 1 = (x.d.drop (n + j)).take 1 := by
      simp only [pieceAt]
      rw [List.drop_take, List.take_take, List.drop_drop, Nat.min_eq_left (by omega)]
    have em : ((pieceAt x n l).m || decide (((1 : Nat) : Int) < ((pieceAt x n l).d.length : Int) - (j : Int))) = (x.m || decide (((1 : Nat) : Int) < (x.d.length : Int) - ((n + j : Nat) : Int))) := by
      rw [hlen]
      show ((x.m || decide ((l : Int) < (x.d.length : Int) - (n : Int))) || _) = _
      rw [Bool.or_assoc]
      congr 1
      rw [Bool.eq_iff_iff, Bool.or_eq_true, decide_eq_true_eq, decide_eq_true_eq, decide_eq_true_eq]
      omega
    have ea : (pieceAt x n l).a + (j : Int) = x.a + ((n + j : Nat) : Int) := by
      show x.a + (n : Int) + (j : Int) = _
      omega
    show ({ pieceAt x n l with a := (pieceAt x n l).a + (j : Int), m := _, d := _ } : Pk) = { x with a := _, m := _, d := _ }
    rw [ed, em, ea]
    rfl
  obtain ⟨-, -, ⟨h3, e⟩ | ⟨h3, h4, h5, e⟩⟩ := cut_cases hB
  · rw [e]
    rw [hlen] at h3
    have hm : min l (x.d.length - n) = 1 := by omega
    have h0 := piece_eq 0 (by omega)
    rw [hm]
    show [pieceAt x n l] = [pieceAt x (n + 0) 1]
    rw [← h0]
    congr 1
    have ed : ((pieceAt x n l).d.drop 0).take 1 = (pieceAt x n l).d := by rw [List.drop_zero, List.take_of_length_le (by omega)]
    have em : ((pieceAt x n l).m || decide (((1 : Nat) : Int) < ((pieceAt x n l).d.length : Int) - ((0 : Nat) : Int))) = (pieceAt x n l).m := by rw [decide_eq_false (by omega), Bool.or_false]
    have ea : (pieceAt x n l).a + ((0 : Nat) : Int) = (pieceAt x n l).a := by omega
    show pieceAt x n l = ({ pieceAt x n l with a := (pieceAt x n l).a + ((0 : Nat) : Int), m := _, d := _ } : Pk)
    rw [ed, em, ea]
  · rw [e]
    have e1 : (1 : Int).toNat = 1 := rfl
    rw [e1, pieceN_one, ones_eq, hlen]
    apply List.map_congr_left
    intro j hj
    exact piece_eq j (List.mem_range.1 hj)
theorem map_range_add {α : Type} (g : Nat → α) (a b : Nat) : (List.range (a + b)).map g = (List.range a).map g ++ (List.range b).map fun j => g (a + j) := by
  rw [List.range_add, List.map_append, List.map_map]; rfl
/-- pieces cut into single bytes are the packet cut into them -/
theorem cut_again {x : Pk} {l : Int} (h : cutB x l = true) (h1 : cutB x 1 = true) (hn : (cutL x l).length ≠ 1) : (cutL x l).flatMap (fun y => cutL y 1) = cutL x 1 := by
  obtain ⟨hok, hl, ⟨h3, e⟩ | ⟨h3, h4, h5, e⟩⟩ := cut_cases h
  · rw [e] at hn; exact absurd rfl hn
  · obtain ⟨n, rfl⟩ : ∃ n : Nat, l = (n : Int) := ⟨l.toNat, by omega⟩
    rw [Int.toNat_natCast] at e h5
    obtain ⟨-, -, ⟨g3, e'⟩ | ⟨g3, g4, g5, e'⟩⟩ := cut_cases h1
    · omega
    · have e1 : (1 : Int).toNat = 1 := rfl
      rw [e1, pieceN_one, ones_eq] at e'
      rw [e1, Nat.div_one, Nat.mul_one] at g5
      rw [e, e']
      have key : ∀ k, k ≤ pieceN x.d.length n → (piecesK x n k).flatMap (fun y => cutL y 1) = (List.range (min (n * k) x.d.length)).map fun j => pieceAt x j 1 := by
        intro k
        induction k with
        | zero => intro _; simp [piecesK]
        | succ k ih =>
          intro hk
          have hlt := (pieceN_lt (n := x.d.length) (l := n) (k := k) (by omega)).2 (by omega)
          rw [piecesK_succ, List.flatMap_append, ih (by omega), Nat.min_eq_left (by omega)]
          have := piece_ones (n := n * k) (l := n) hok h4 hlt (by omega) g5
          rw [List.flatMap_cons, List.flatMap_nil, List.append_nil, this, ← map_range_add]
          congr 2
          rw [Nat.mul_succ]
          omega
      rw [key _ (Nat.le_refl _)]
      congr 2
      have := pieceN_lt (n := x.d.length) (l := n) (k := pieceN x.d.length n) (by omega)
      omega
theorem joinD_le {ps : List Pk} (h : ∀ y ∈ ps, y.d.length ≤ 48) : (joinD ps).length ≤ 48 * ps.length := by
  induction ps with
  | nil => simp [joinD]
  | cons x t ih =>
    have h1 := h x (List.mem_cons_self ..)
    have h2 := ih fun y hy => h y (List.mem_cons_of_mem _ hy)
    simp only [joinD, List.flatMap_cons, List.length_append, List.length_cons] at h2 ⊢
    omega
def onesL (ps : List Pk) : List Pk := ps.flatMap fun y => cutL y 1
theorem onesL_le (ps : List Pk) : (onesL ps).length ≤ 48 * ps.length := by
  induction ps with
  | nil => simp [onesL]
  | cons x t ih =>
    have h1 := (cut_len x 1).1
    simp only [onesL, List.flatMap_cons, List.length_append, List.length_cons] at ih ⊢
    omega
theorem onesL_take {ps : List Pk} {k : Nat} (h : k < ps.length) : onesL (ps.take (k + 1)) = onesL (ps.take k) ++ cutL ps[k] 1 := by
  rw [List.take_add_one, List.getElem?_eq_getElem h, onesL, onesL, List.flatMap_append]; simp
end Go.Proofs.Ytdeldmagmljacaa
