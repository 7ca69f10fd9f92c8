import Derived.Test.YtmhmhgegdagjkaaHn
import Derived.Test.YtmhmhgegdagjkaaXe
namespace Go.Proofs.Ytmhmhgegdagjkaa
open Go.RowKit
set_option linter.unusedSimpArgs false
set_option linter.unusedVariables false
def sel (C : List Pk) (f : Nat → Bool) : List Pk := ((List.range C.length).filter f).map fun i => C.getD i pk0
theorem map_getD (C : List Pk) : ((List.range C.length).map fun i => C.getD i pk0) = C := by
  apply List.ext_getElem
  · simp
  · intro i h1 h2
    simp [List.getD, h2]
theorem sel_sub (C : List Pk) (f : Nat → Bool) : (sel C f).Sublist C := by
  have h : ((List.range C.length).filter f).Sublist (List.range C.length) := List.filter_sublist
  have := h.map fun i => C.getD i pk0
  rw [map_getD] at this
  exact this
theorem sel_mem {C : List Pk} {f : Nat → Bool} {x : Pk} (h : x ∈ sel C f) : ∃ i, ∃ hi : i < C.length, f i = true ∧ x = C[i] := by
  obtain ⟨i, hi, rfl⟩ := List.mem_map.1 h
  obtain ⟨h1, h2⟩ := List.mem_filter.1 hi
  have h1 := List.mem_range.1 h1
  exact ⟨i, h1, h2, pk_get h1⟩
theorem mem_sel {C : List Pk} {f : Nat → Bool} {i : Nat} (hi : i < C.length) (hf : f i = true) : C[i] ∈ sel C f :=
  List.mem_map.2 ⟨i, List.mem_filter.2 ⟨List.mem_range.2 hi, hf⟩, pk_get hi⟩
theorem sel_all {C : List Pk} {f : Nat → Bool} (h : ∀ i, i < C.length → f i = true) : sel C f = C := by
  have : (List.range C.length).filter f = List.range C.length := List.filter_eq_self.2 fun i hi => h i (List.mem_range.1 hi)
  rw [sel, this, map_getD]
theorem sel_congr {C : List Pk} {f g : Nat → Bool} (h : ∀ i, i < C.length → f i = g i) : sel C f = sel C g := by
  rw [sel, sel, List.filter_congr fun i hi => h i (List.mem_range.1 hi)]
def selA (C : List Pk) (f : Nat → Bool) (i : Nat) : List Pk := ((List.range i).filter f).map fun j => C.getD j pk0
def selZ (C : List Pk) (f : Nat → Bool) (i : Nat) : List Pk := (((List.range (C.length - i - 1)).map fun j => i + 1 + j).filter f).map fun j => C.getD j pk0
theorem range_cut {n i : Nat} (h : i < n) : List.range n = List.range i ++ i :: ((List.range (n - i - 1)).map fun j => i + 1 + j) := by
  have e : n = i + (1 + (n - i - 1)) := by omega
  conv => lhs; rw [e, List.range_add, List.range_add, List.map_append, List.map_map]
  congr 1
  simp only [List.range_one, List.map_cons, List.map_nil, List.cons_append, List.nil_append, Nat.add_zero]
  congr 1
  apply List.map_congr_left
  intro j _
  simp only [Function.comp]
  omega
theorem sel_cut {C : List Pk} {f : Nat → Bool} {i : Nat} (h : i < C.length) : sel C f = selA C f i ++ (if f i = true then [C[i]] else []) ++ selZ C f i := by
  rw [sel, range_cut h, List.filter_append, List.filter_cons, List.map_append, selA, selZ]
  split
  · rw [List.map_cons, pk_get h]; simp
  · simp
theorem selA_mem {C : List Pk} {f : Nat → Bool} {i : Nat} (hi : i < C.length) {x : Pk} (h : x ∈ selA C f i) : ∃ j, ∃ hj : j < i, x = C[j]'(by omega) := by
  obtain ⟨j, hj, rfl⟩ := List.mem_map.1 h
  have hj := List.mem_range.1 (List.mem_filter.1 hj).1
  exact ⟨j, hj, pk_get (by omega)⟩
theorem selZ_mem {C : List Pk} {f : Nat → Bool} {i : Nat} {x : Pk} (h : x ∈ selZ C f i) : ∃ j, ∃ hj : j < C.length, i < j ∧ x = C[j] := by
  obtain ⟨j, hj, rfl⟩ := List.mem_map.1 h
  obtain ⟨k, hk, rfl⟩ := List.mem_map.1 (List.mem_filter.1 hj).1
  have hk := List.mem_range.1 hk
  exact ⟨i + 1 + k, by omega, by omega, pk_get (by omega)⟩
theorem selA_or {C : List Pk} {f : Nat → Bool} {i : Nat} : selA C (fun j => f j || j == i) i = selA C f i := by
  rw [selA, selA, List.filter_congr fun j hj => ?_]
  have := List.mem_range.1 hj
  have e : (j == i) = false := by simp; omega
  rw [e, Bool.or_false]
theorem selZ_or {C : List Pk} {f : Nat → Bool} {i : Nat} : selZ C (fun j => f j || j == i) i = selZ C f i := by
  rw [selZ, selZ, List.filter_congr fun j hj => ?_]
  obtain ⟨k, hk, rfl⟩ := List.mem_map.1 hj
  have e : (i + 1 + k == i) = false := by simp; omega
  rw [e, Bool.or_false]
theorem partC {C : List Pk} {u : Int} (h : wholeB C u = true) : (∀ x ∈ C, x.ok = true) ∧ Ch C ∧ sumN C ≤ 48 ∧ 0 < C.length ∧ (0 ≤ u ∧ u ≤ 1000000) := (partB_iff _ _).1 (whole_parts h).1
theorem C_lt {C : List Pk} {u : Int} (h : wholeB C u = true) {i j : Nat} (hij : i < j) (hj : j < C.length) : C[i].a < C[j].a ∧ C[i].m = true ∧ 0 < C[i].d.length ∧ same4 C[i] C[j] = true := by
  obtain ⟨h1, h2, _⟩ := partC h
  have hf := List.pairwise_iff_getElem.1 h2 i j (by omega) hj hij
  rw [follows_iff] at hf
  have hp := ok_more (h1 _ (List.getElem_mem (by omega))) hf.2.1
  have hz : C[i].z = C[i].a + (C[i].d.length : Int) := rfl
  exact ⟨by omega, hf.2.1, hp, hf.1⟩
theorem same4_symm {x y : Pk} (h : same4 x y = true) : same4 y x = true := by
  rw [same4_iff] at h ⊢
  exact ⟨h.1.symm, h.2.1.symm, h.2.2.1.symm, h.2.2.2.symm⟩
theorem C_same {C : List Pk} {u : Int} (h : wholeB C u = true) {i j : Nat} (hi : i < C.length) (hj : j < C.length) : same4 C[i] C[j] = true := by
  rcases Nat.lt_trichotomy i j with h1 | rfl | h1
  · exact (C_lt h h1 hj).2.2.2
  · simp [same4]
  · exact same4_symm (C_lt h h1 hi).2.2.2
theorem C_ne {C : List Pk} {u : Int} (h : wholeB C u = true) {i j : Nat} (hi : i < C.length) (hj : j < C.length) (hij : i ≠ j) : C[i].a ≠ C[j].a := by
  rcases Nat.lt_trichotomy i j with h1 | h1 | h1
  · have := (C_lt h h1 hj).1; omega
  · exact absurd h1 hij
  · have := (C_lt h h1 hi).1; omega
theorem sel_part {C : List Pk} {u : Int} (h : wholeB C u = true) {f : Nat → Bool} (hn : 0 < (sel C f).length) : partB (sel C f) u = true :=
  partB_sub (whole_parts h).1 (sel_sub C f) hn
theorem sel_ins {C : List Pk} {u : Int} (h : wholeB C u = true) {f : Nat → Bool} {i : Nat} (hi : i < C.length) (hf : f i = false) : insK (sel C f) C[i] = sel C fun j => f j || j == i := by
  have e1 : sel C f = selA C f i ++ selZ C f i := by rw [sel_cut hi, if_neg (by rw [hf]; decide), List.append_nil]
  have e2 : (sel C fun j => f j || j == i) = selA C f i ++ [C[i]] ++ selZ C f i := by
    rw [sel_cut hi, selA_or, selZ_or, if_pos (by simp)]
  have hw : wAt (sel C f) C[i].a = (selA C f i).length := by
    rw [e1]
    refine wAt_eq (by rw [List.length_append]; omega) (fun j hj => ?_) ?_
    · rw [pk_get (by rw [List.length_append]; omega), List.getElem_append_left hj]
      obtain ⟨k, hk, e⟩ := selA_mem hi (List.getElem_mem hj)
      rw [e]
      exact Int.le_of_lt (C_lt h hk hi).1
    · by_cases hz : (selZ C f i).length = 0
      · left; rw [List.length_append]; omega
      · right
        rw [pk_get (by rw [List.length_append]; omega), List.getElem_append_right (Nat.le_refl _)]
        obtain ⟨k, hk, hik, e⟩ := selZ_mem (List.getElem_mem (l := selZ C f i) (n := (selA C f i).length - (selA C f i).length) (by omega))
        rw [e]
        have := (C_lt h hik hk).1
        omega
  rw [insK, hw, e2, e1, List.take_left, List.drop_left]
theorem sel_have {C : List Pk} {u : Int} (h : wholeB C u = true) {f : Nat → Bool} {i : Nat} (hi : i < C.length) : haveB (sel C f) C[i] = f i := by
  rw [Bool.eq_iff_iff, haveB, List.any_eq_true]
  constructor
  · rintro ⟨x, hx, he⟩
    obtain ⟨j, hj, hf, rfl⟩ := sel_mem hx
    rw [Bool.and_eq_true, Bool.and_eq_true, decide_eq_true_eq] at he
    by_cases hij : j = i
    · subst hij; exact hf
    · exact absurd he.1.1 (C_ne h hj hi hij)
  · intro hf
    exact ⟨C[i], mem_sel hi hf, by simp⟩
theorem sel_has {C : List Pk} {f : Nat → Bool} {i : Nat} (hi : i < C.length) (hf : f i = true) : 0 < (sel C f).length := List.length_pos_of_mem (mem_sel hi hf)
theorem sel_put {C : List Pk} {u : Int} (h : wholeB C u = true) {f : Nat → Bool} {i : Nat} (hi : i < C.length) (hn : 0 < (sel C f).length) : putO (sel C f) u C[i] = some (sel C fun j => f j || j == i) := by
  have hp := sel_part h hn
  have hok := (partC h).1 _ (List.getElem_mem hi)
  have hs : same4 ((sel C f).getD 0 pk0) C[i] = true := by
    rw [pk_get hn]
    obtain ⟨j, hj, _, e⟩ := sel_mem (List.getElem_mem hn)
    rw [e]
    exact C_same h hj hi
  have hp' : partB (sel C fun j => f j || j == i) u = true := sel_part h (sel_has hi (by simp))
  rw [putO, hp, hok, hs, sel_have h hi, if_pos (show (true && true && true) = true from rfl)]
  cases hf : f i
  · rw [if_neg (by decide), sel_ins h hi hf, if_pos hp']
  · rw [if_pos rfl]
    congr 1
    refine sel_congr fun j _ => ?_
    by_cases hj : j = i
    · subst hj; rw [hf]; rfl
    · have e : (j == i) = false := by simpa using hj
      rw [e, Bool.or_false]
theorem sel_not {C : List Pk} {u : Int} (h : wholeB C u = true) {f : Nat → Bool} {i : Nat} (hi : i < C.length) (hf : f i = false) : wholeB (sel C f) u = false := by
  rw [Bool.eq_false_iff]
  intro hw
  obtain ⟨b1, b2, b3⟩ := whole_parts hw
  obtain ⟨a1, a2, a3⟩ := whole_parts h
  have hn := ((partB_iff _ _).1 b1).2.2.2.1
  rw [more_last hn] at b3
  obtain ⟨j, hj, hfj, e⟩ := sel_mem (List.getElem_mem (l := sel C f) (n := (sel C f).length - 1) (by omega))
  have hlast : j = C.length - 1 := by
    by_cases hl : j < C.length - 1
    · have := (C_lt h (i := j) (j := C.length - 1) hl (by omega)).2.1
      rw [e, this] at b3
      cases b3
    · omega
  have hij : i < C.length - 1 := by
    by_cases hij : i = j
    · subst hij; rw [hf] at hfj; cases hfj
    · omega
  have hpos := (C_lt h (i := i) (j := C.length - 1) hij (by omega)).2.2.1
  have s1 := reach_sum (Nat.le_refl _) a2
  have s2 := reach_sum (Nat.le_refl _) b2
  rw [List.take_length, z_last (by omega)] at s1
  rw [List.take_length, z_last hn] at s2
  subst hlast
  rw [e] at s2
  have hsub : (sel C f).Sublist (C.take i ++ C.drop (i + 1)) := by
    rw [sel_cut hi, if_neg (by rw [hf]; decide), List.append_nil]
    have hA : (selA C f i).Sublist (C.take i) := by
      have h1 : ((List.range i).filter f).Sublist (List.range i) := List.filter_sublist
      have h2 := h1.map fun j => C.getD j pk0
      have h3 : ((List.range i).map fun j => C.getD j pk0) = C.take i := by
        apply List.ext_getElem
        · rw [List.length_map, List.length_range, List.length_take]; omega
        · intro k g1 g2
          rw [List.length_map, List.length_range] at g1
          rw [List.getElem_map, List.getElem_range, List.getElem_take, pk_get (by omega)]
      rw [h3] at h2
      exact h2
    have hZ : (selZ C f i).Sublist (C.drop (i + 1)) := by
      have h1 : (((List.range (C.length - i - 1)).map fun j => i + 1 + j).filter f).Sublist ((List.range (C.length - i - 1)).map fun j => i + 1 + j) := List.filter_sublist
      have h2 := h1.map fun j => C.getD j pk0
      have h3 : (((List.range (C.length - i - 1)).map fun j => i + 1 + j).map fun j => C.getD j pk0) = C.drop (i + 1) := by
        apply List.ext_getElem
        · rw [List.length_map, List.length_map, List.length_range, List.length_drop]; omega
        · intro k g1 g2
          rw [List.length_map, List.length_map, List.length_range] at g1
          rw [List.getElem_map, List.getElem_map, List.getElem_range, List.getElem_drop, pk_get (by omega)]
      rw [h3] at h2
      exact h2
    exact hA.append hZ
  have hle := sumN_sub hsub
  have hs : sumN (C.drop i) = C[i].d.length + sumN (C.drop (i + 1)) := by
    rw [List.drop_eq_getElem_cons hi]; simp only [sumN, List.map_cons, List.sum_cons]
  have hsum : sumN C = sumN (C.take i) + sumN (C.drop i) := by
    rw [← sumN_app, List.take_append_drop]
  have hsum2 := sumN_app (C.take i) (C.drop (i + 1))
  omega
theorem C_alone {C : List Pk} {u : Int} (h : wholeB C u = true) (h2 : 2 ≤ C.length) {i : Nat} (hi : i < C.length) : alone C[i] = false := by
  have hz := zero_at (by omega) (whole_parts h).2.1
  by_cases h0 : i = 0
  · subst h0
    have := (C_lt h (i := 0) (j := 1) (by omega) (by omega)).2.1
    rw [alone, this]; simp
  · have := (C_lt h (i := 0) (j := i) (by omega) hi).1
    rw [alone, decide_eq_false (by omega), Bool.false_and]
theorem sel_one {C : List Pk} {i : Nat} (hi : i < C.length) : (sel C fun j => j == i) = [C[i]] := by
  have e1 : selA C (fun j => j == i) i = [] := by
    rw [selA, List.filter_eq_nil_iff.2 fun j hj => ?_, List.map_nil]
    have := List.mem_range.1 hj
    simp; omega
  have e2 : selZ C (fun j => j == i) i = [] := by
    rw [selZ, List.filter_eq_nil_iff.2 fun j hj => ?_, List.map_nil]
    obtain ⟨k, hk, rfl⟩ := List.mem_map.1 hj
    simp; omega
  rw [sel_cut hi, e1, e2, if_pos (by simp)]; rfl
end Go.Proofs.Ytmhmhgegdagjkaa
