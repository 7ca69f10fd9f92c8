import Derived.Test.YtmhmhgegdagjkaaXb
namespace Go.Proofs.Ytmhmhgegdagjkaa
open Go.RowKit
set_option linter.unusedSimpArgs false
set_option linter.unusedVariables false
def zK (ps : List Pk) (k : Nat) : Int := if k = 0 then 0 else (ps.getD (k - 1) pk0).z
def moreK (ps : List Pk) (k : Nat) : Bool := if k = 0 then true else (ps.getD (k - 1) pk0).m
def reachK (ps : List Pk) (k : Nat) : Bool := (List.range k).all fun j => (ps.getD j pk0).a == zK ps j
def reachB (ps : List Pk) : Bool := reachK ps ps.length && !(moreK ps ps.length)
def joinD (ps : List Pk) : List UInt8 := ps.flatMap fun x => x.d
def wholeB (ps : List Pk) (u : Int) : Bool := partB ps u && reachB ps
def wholeV (ps : List Pk) (u : Int) : Pk := if wholeB ps u = true then { ps.getD 0 pk0 with m := false, d := joinD ps } else pk0
def haveB (ps : List Pk) (q : Pk) : Bool := ps.any fun x => decide (x.a = q.a) && (x.m == q.m) && decide (x.d = q.d)
theorem reachK_succ (ps : List Pk) (k : Nat) : reachK ps (k + 1) = (reachK ps k && ((ps.getD k pk0).a == zK ps k)) := by simp [reachK, List.range_succ]
theorem reachK_no {ps : List Pk} {k : Nat} (hk : k < ps.length) (h : ((ps.getD k pk0).a == zK ps k) = false) : reachB ps = false := by
  have : reachK ps ps.length = false := by
    rw [Bool.eq_false_iff]
    intro hn
    have := List.all_eq_true.1 hn k (List.mem_range.2 hk)
    rw [h] at this
    cases this
  rw [reachB, this]; rfl
theorem joinD_take {ps : List Pk} {k : Nat} (h : k < ps.length) : joinD (ps.take (k + 1)) = joinD (ps.take k) ++ ps[k].d := by
  rw [List.take_add_one, List.getElem?_eq_getElem h, joinD, joinD, List.flatMap_append]; simp
theorem joinD_len (ps : List Pk) : (joinD ps).length = sumN ps := by
  induction ps with
  | nil => rfl
  | cons x ps ih => simp only [joinD, sumN, List.flatMap_cons, List.length_append, List.map_cons, List.sum_cons] at ih ⊢; omega
theorem partB_all {ps : List Pk} {u : Int} (h : partB ps u = true) : (∀ x ∈ ps, x.ok = true) ∧ sumN ps ≤ 48 ∧ 0 < ps.length ∧ 0 ≤ u ∧ u ≤ 1000000 := by
  simp only [partB, piecesB, Bool.and_eq_true, decide_eq_true_eq] at h
  obtain ⟨⟨⟨h1, h2⟩, h3⟩, h4⟩ := h
  refine ⟨fun x hx => ?_, h2, h3, h4⟩
  obtain ⟨k, hk, rfl⟩ := List.getElem_of_mem hx
  exact step_ok (oksK_at h1 hk) hk
def pts : List (FuncId × Abs) := [(99, pureAbs g_piecesOk), (100, pureAbs g_isTime)]
theorem pts_ok : ∀ p ∈ pts, CallOk Try.prog p.1 p.2 := by
  intro p hp
  simp only [pts, List.mem_cons, List.not_mem_nil, or_false] at hp
  rcases hp with rfl | rfl
  · exact piecesOk_ok.call
  · exact isTime_ok.call
set_option maxRecDepth 100000 in
theorem implPartOk_ok : PureOk Try.prog 62 g_partOk := by
  refine PureOk.of_vc (G := pts) pts_ok mixed Try.func62 (by kernel_rfl) rfl ?_
  intro args cnd r bs hg hc
  unfold g_partOk at hg
  split at hg
  · rename_i sz rows u
    cases hg
    obtain ⟨ps, rfl, hm⟩ := hc
    rw [psOf_rows]
    refine ⟨⟨rfl, by simp, by simp [AV.ids, AV.ids.idsL]⟩, [.agg [.l 9 (pRows ps), .v (.int .i64 u)]], rfl, fun w vs h => CvL.ok (.cons (.cons (.l _ _ _ (pRows_w ps)) (.cons (.refl _) .nil)) .nil) h, ?_⟩
    simp (maxSteps := 3000000) only [Try.f62, pts, g_piecesOk, g_isTime, psOf_rows, tYs, evL, implies_true, oMin, oCopy, oBin, oUn, oLoadKid, oStoreTree, oField, oExtract, oNil, oSliceQ, oLen, nodupB, treeOf, kidAbs, kidRows, TK.isCell, D.toL, oLoad, oStore, oMake, oIndexAddr, ↓reduceIte, reduceCtorEq, Nat.reduceBEq, Nat.reduceAdd, Nat.reduceMul, Nat.reduceLT, Nat.reduceSub, Nat.reduceLeDiff, Nat.reduceEqDiff, Nat.reduceBneDiff, Int.reduceToNat, decide_eq_true_eq, decide_eq_false_iff_not, beq_iff_eq, Int.toNat_natCast]
    by_cases h : piecesB ps = true
    · rw [h]
      refine ⟨⟨_, rfl, hm⟩, ?_⟩
      rw [if_pos rfl, partB, h]
      exact ⟨_, [], rfl, ⟨⟨⟨rfl, rfl, rfl⟩, trivial⟩, trivial, by simp [rn, hpAt]⟩⟩
    · rw [Bool.eq_false_iff.2 h]
      refine ⟨⟨_, rfl, hm⟩, ?_⟩
      rw [if_neg (by simp), partB, Bool.eq_false_iff.2 h]
      exact ⟨_, [], rfl, ⟨⟨⟨rfl, rfl, rfl⟩, trivial⟩, trivial, by simp [rn, hpAt]⟩⟩
  · cases hg
end Go.Proofs.Ytmhmhgegdagjkaa
