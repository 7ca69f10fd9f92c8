import Derived.Test.YtmhmhgegdagjkaaXd
namespace Go.Proofs.Ytmhmhgegdagjkaa
open Go.RowKit
set_option linter.unusedSimpArgs false
set_option linter.unusedVariables false
structure Pt where
  ps : List Pk
  u : Int
def pt0 : Pt := ⟨[], 0⟩
def ptRow (x : Pt) : List D := [.l 9 (pRows x.ps), .v (.int .i64 x.u)]
def ptRows (l : List Pt) : List (List D) := l.map ptRow
def ptOf (r : List D) : Pt := ⟨psOf (r.getD 0 (.v undef)).toL, (r.getD 1 (.v undef)).toI⟩
def ptsOf (rows : List (List D)) : List Pt := rows.map ptOf
theorem ptsOf_rows (l : List Pt) : ptsOf (ptRows l) = l := by
  unfold ptsOf ptRows
  rw [List.map_map]
  have : ptOf ∘ ptRow = id := by
    funext x
    show (⟨psOf (pRows x.ps), x.u⟩ : Pt) = x
    rw [psOf_rows]
  rw [this, List.map_id]
theorem ptRows_len (l : List Pt) : (ptRows l).length = l.length := by simp [ptRows]
theorem ptRows_w (l : List Pt) : ∀ r ∈ ptRows l, r.length = 2 := fun r hr => by
  obtain ⟨e, _, rfl⟩ := List.mem_map.1 hr
  rfl
theorem ptRows_get (l : List Pt) (k : Nat) (h : k < l.length) : (ptRows l).getD k [] = ptRow l[k] := by
  unfold ptRows
  rw [List.getD_eq_getElem?_getD, List.getElem?_map, List.getElem?_eq_getElem h]; rfl
theorem ptRows_take (l : List Pt) (k : Nat) : (ptRows l).take k = ptRows (l.take k) := by simp [ptRows, List.map_take]
theorem ptRows_app (a b : List Pt) : ptRows a ++ ptRows b = ptRows (a ++ b) := by simp [ptRows]
theorem pt_get {l : List Pt} {k : Nat} (h : k < l.length) : l.getD k pt0 = l[k] := by simp [List.getD, h]
def ptMid (l : List Pt) : Prop := l.length ≤ 1048576 ∧ ∀ x ∈ l, pMid x.ps
def of1 (x : Pt) (q : Pk) : Bool := same4 (x.ps.getD 0 pk0) q
def findP : List Pt → Pk → Nat
  | [], _ => 0
  | x :: r, q => if of1 x q = true then 0 else findP r q + 1
theorem findP_le : ∀ (l : List Pt) (q : Pk), findP l q ≤ l.length
  | [], _ => Nat.le_refl _
  | x :: r, q => by
    have := findP_le r q
    simp only [findP]
    split <;> simp <;> omega
theorem findP_eq {q : Pk} : ∀ {l : List Pt} {k : Nat}, k ≤ l.length → (∀ j, j < k → of1 (l.getD j pt0) q = false) → (k = l.length ∨ of1 (l.getD k pt0) q = true) → findP l q = k
  | [], k, h1, _, _ => by simp at h1; subst h1; rfl
  | x :: r, k, h1, h2, h3 => by
    cases k with
    | zero =>
      rcases h3 with h3 | h3
      · simp at h3
      · simp only [List.getD_cons_zero] at h3
        simp only [findP, if_pos h3]
    | succ k =>
      have h0 := h2 0 (by omega)
      simp only [List.getD_cons_zero] at h0
      simp only [findP, h0]
      rw [if_neg (by simp), findP_eq (l := r) (k := k) (by simpa using h1) (fun j hj => by simpa using h2 (j + 1) (by omega)) (by simpa using h3)]
def atP (l : List Pt) (q : Pk) : Int := if findP l q = l.length then -1 else (findP l q : Int)
def liveP (l : List Pt) (now : Int) : List Pt := l.filter fun x => decide (now < x.u)
def outP (l : List Pt) (k : Nat) : List Pt := l.take k ++ l.drop (k + 1)
def ptStep (l : List Pt) (k : Nat) : Bool := partB (l.getD k pt0).ps (l.getD k pt0).u && decide (findP (l.take k) ((l.getD k pt0).ps.getD 0 pk0) = k)
def ptsK (l : List Pt) (k : Nat) : Bool := (List.range k).all (ptStep l)
def ptsB (l : List Pt) : Bool := decide (l.length ≤ 3) && ptsK l l.length
theorem ptsK_succ (l : List Pt) (k : Nat) : ptsK l (k + 1) = (ptsK l k && ptStep l k) := by simp [ptsK, List.range_succ]
theorem ptsB_no {l : List Pt} {k : Nat} (hk : k < l.length) (h : ptStep l k = false) : ptsB l = false := by
  have : ptsK l l.length = false := by
    rw [Bool.eq_false_iff]
    intro hn
    rw [List.all_eq_true.1 hn k (List.mem_range.2 hk)] at h
    cases h
  rw [ptsB, this, Bool.and_false]
theorem ptsK_at {l : List Pt} {k j : Nat} (h : ptsK l k = true) (hj : j < k) : ptStep l j = true := List.all_eq_true.1 h j (List.mem_range.2 hj)
def g_partAt : PC := fun args => match args with
  | [.l _ rows', .agg [.v (.int .i64 f), .v (.int .i64 t), .v (.int .i64 p), .v (.int .i64 h), .v (.int .i64 i), .v (.int .i64 a), .v (.bool m), .v (.bool u), .l _ rows]] => some (∃ l, rows' = ptRows l ∧ l.length ≤ 1048576 ∧ ∀ x ∈ l, 0 < x.ps.length, .v (.int .i64 (atP (ptsOf rows') ⟨f, t, p, h, i, a, m, u, bytesOfRows rows⟩)), [])
  | _ => none
def g_partsOk : PC := fun args => match args with
  | [.l _ rows] => some (∃ l, rows = ptRows l ∧ ptMid l, .v (.bool (ptsB (ptsOf rows))), [])
  | _ => none
def qat : List (FuncId × Abs) := [(83, pureAbs g_ofOne)]
theorem qat_ok : ∀ p ∈ qat, CallOk Try.prog p.1 p.2 := by
  intro p hp
  simp only [qat, List.mem_cons, List.not_mem_nil, or_false] at hp
  rcases hp with rfl
  · exact ofOne_ok.call
set_option maxRecDepth 100000 in
theorem partAt_ok : PureOk Try.prog 49 g_partAt := by
  refine PureOk.of_vc (G := qat) qat_ok mixed Try.func49 (by kernel_rfl) rfl ?_
  intro args cnd r bs hg hc
  unfold g_partAt at hg
  split at hg
  · rename_i sz' rows' f t p h i a m u sz rows
    cases hg
    obtain ⟨l, rfl, hn, hd⟩ := hc
    rw [ptsOf_rows]
    refine ⟨⟨rfl, by simp, by simp [AV.ids, AV.ids.idsL]⟩, [.l 2 (ptRows l), .agg [.v (.int .i64 f), .v (.int .i64 t), .v (.int .i64 p), .v (.int .i64 h), .v (.int .i64 i), .v (.int .i64 a), .v (.bool m), .v (.bool u), .l sz rows]], rfl, fun w vs h => CvL.ok (.cons (.l _ _ _ (ptRows_w l)) (.cons (.refl _) .nil)) h, ?_⟩
    simp (maxSteps := 3000000) only [Try.f49, qat, ptRows_len, tYs, evL, implies_true, oMin, oCopy, oBin, oUn, oLoadKid, oStoreTree, oField, oExtract, oNil, oSliceQ, oLen, nodupB, treeOf, kidAbs, kidRows, TK.isCell, D.toL, oLoad, oStore, oMake, oIndexAddr, ↓reduceIte, reduceCtorEq, Nat.reduceBEq, Nat.reduceAdd, Nat.reduceMul, Nat.reduceLT, Nat.reduceSub, Nat.reduceLeDiff, Nat.reduceEqDiff, Nat.reduceBneDiff, Int.reduceToNat, decide_eq_true_eq, decide_eq_false_iff_not, beq_iff_eq, Int.toNat_natCast]
    refine e_loop _ _ _ _ _ _ _ _ (fun k : Nat => [.any, .any, .any, .ptr 0 0, .any, .any, .any, .l 2 (ptRows l), .v (.int .i64 (l.length : Int)), .v (.int .i64 (k : Int))] ++ List.replicate (Try.f49.ntmps - 10) .any) (fun k => [(0, .var 31 [.v (.int .i64 f), .v (.int .i64 t), .v (.int .i64 p), .v (.int .i64 h), .v (.int .i64 i), .v (.int .i64 a), .v (.bool m), .v (.bool u), .l sz rows])]) (fun k => k ≤ l.length ∧ ∀ j, j < k → of1 (l.getD j pt0) ⟨f, t, p, h, i, a, m, u, bytesOfRows rows⟩ = false) (fun k => l.length - k) 1 (fun k => by simp) ?_ fun k hk' => ?_
    · exact ⟨0, [(0, some 0)], ⟨Nat.zero_le _, fun j hj => by omega⟩, ⟨⟨trivial, trivial, trivial, ⟨rfl, rfl, rfl⟩, trivial, trivial, trivial, ⟨rfl, rfl, rfl⟩, ⟨rfl, rfl, rfl⟩, ⟨rfl, rfl, rfl⟩, fitT_rep _ _ rfl⟩, ⟨.inl rfl, rfl, rfl, rfl, trivial⟩, by simp [rn, hpAt]⟩, by simp [keepIds]⟩
    obtain ⟨hk1, hk2⟩ := hk'
    have w2 : IntKind.i64.wrap ((k : Int) + 1) = ((k + 1 : Nat) : Int) := by rw [wrap_id] <;> omega
    by_cases hk : k < l.length
    · have hrow := ptRows_get l k hk
      have hlt : ((k : Int) < (l.length : Int)) = True := eq_true (by omega)
      have h0 : (0 ≤ (k : Int)) = True := eq_true (by omega)
      have hx := hd l[k] (List.getElem_mem hk)
      have hr0 := pRows_get l[k].ps 0 hx
      have hl0 : ((0 : Int) < (l[k].ps.length : Int)) = True := eq_true (by omega)
      have ho : of1 (l.getD k pt0) ⟨f, t, p, h, i, a, m, u, bytesOfRows rows⟩ = same4 l[k].ps[0] ⟨f, t, p, h, i, a, m, u, bytesOfRows rows⟩ := by rw [of1, pt_get hk, pk_get hx]
      simp (maxSteps := 3000000) only [Try.f49, qat, ptRows_len, pRows_len, rowsOf_len, bytesOf_rows, g_ofOne, hrow, hlt, h0, hr0, hl0, pk_eta, pRow, Int.le_refl, D.toI, dB, D.toB, D.toL, ptRow, tYs, evL, implies_true, oMin, oCopy, oBin, oUn, oLoadKid, oStoreTree, oField, oExtract, oNil, oSliceQ, oLen, nodupB, treeOf, kidAbs, kidRows, TK.isCell, D.toL, oLoad, oStore, oMake, oIndexAddr, ↓reduceIte, reduceCtorEq, Nat.reduceBEq, Nat.reduceAdd, Nat.reduceMul, Nat.reduceLT, Nat.reduceSub, Nat.reduceLeDiff, Nat.reduceEqDiff, Nat.reduceBneDiff, Int.reduceToNat, decide_eq_true_eq, decide_eq_false_iff_not, beq_iff_eq, Int.toNat_natCast, loopK_normal, loopK_exit, loopK_ret, w2]
      refine ⟨by kernel_rfl, ?_⟩
      by_cases e1 : same4 l[k].ps[0] ⟨f, t, p, h, i, a, m, u, bytesOfRows rows⟩ = true
      · have e2 : findP l ⟨f, t, p, h, i, a, m, u, bytesOfRows rows⟩ = k := findP_eq hk1 hk2 (.inr (by rw [ho, e1]))
        rw [if_pos e1, atP, e2, if_neg (by omega)]
        exact ⟨_, [], rfl, ⟨⟨⟨rfl, rfl, rfl⟩, trivial⟩, trivial, by simp [rn, hpAt]⟩⟩
      · rw [if_neg e1]
        exact ⟨k + 1, [(0, some 0)], ⟨by omega, fun j hj => by
          by_cases hjk : j = k
          · rw [hjk, ho]; exact Bool.eq_false_iff.2 e1
          · exact hk2 j (by omega)⟩, by omega, ⟨⟨trivial, trivial, trivial, ⟨rfl, rfl, rfl⟩, trivial, trivial, trivial, ⟨rfl, rfl, rfl⟩, ⟨rfl, rfl, rfl⟩, ⟨rfl, rfl, rfl⟩, fitT_rep _ _ rfl⟩, ⟨.inl rfl, rfl, rfl, rfl, trivial⟩, by simp [rn, hpAt]⟩, by simp [keepIds]⟩
    · have hlt : ((k : Int) < (l.length : Int)) = False := eq_false (by omega)
      simp (maxSteps := 3000000) only [Try.f49, qat, ptRows_len, pRows_len, rowsOf_len, bytesOf_rows, hlt, D.toI, dB, D.toB, D.toL, ptRow, tYs, evL, implies_true, oMin, oCopy, oBin, oUn, oLoadKid, oStoreTree, oField, oExtract, oNil, oSliceQ, oLen, nodupB, treeOf, kidAbs, kidRows, TK.isCell, D.toL, oLoad, oStore, oMake, oIndexAddr, ↓reduceIte, reduceCtorEq, Nat.reduceBEq, Nat.reduceAdd, Nat.reduceMul, Nat.reduceLT, Nat.reduceSub, Nat.reduceLeDiff, Nat.reduceEqDiff, Nat.reduceBneDiff, Int.reduceToNat, decide_eq_true_eq, decide_eq_false_iff_not, beq_iff_eq, Int.toNat_natCast, loopK_normal, loopK_exit, loopK_ret, w2]
      obtain rfl : k = l.length := by omega
      have e2 : findP l ⟨f, t, p, h, i, a, m, u, bytesOfRows rows⟩ = l.length := findP_eq (Nat.le_refl _) hk2 (.inl rfl)
      rw [atP, e2, if_pos rfl]
      exact ⟨_, [], rfl, ⟨⟨⟨rfl, rfl, rfl⟩, trivial⟩, trivial, by simp [rn, hpAt]⟩⟩
  · cases hg
def qok : List (FuncId × Abs) := [(62, pureAbs g_partOk), (49, pureAbs g_partAt)]
theorem qok_ok : ∀ p ∈ qok, CallOk Try.prog p.1 p.2 := by
  intro p hp
  simp only [qok, List.mem_cons, List.not_mem_nil, or_false] at hp
  rcases hp with rfl | rfl
  · exact implPartOk_ok.call
  · exact partAt_ok.call
set_option maxRecDepth 100000 in
theorem implPartsOk_ok : PureOk Try.prog 24 g_partsOk := by
  refine PureOk.of_vc (G := qok) qok_ok mixed Try.func24 (by kernel_rfl) rfl ?_
  intro args cnd r bs hg hc
  unfold g_partsOk at hg
  split at hg
  · rename_i sz rows
    cases hg
    obtain ⟨l, rfl, hn, hd⟩ := hc
    rw [ptsOf_rows]
    refine ⟨⟨rfl, by simp, by simp [AV.ids, AV.ids.idsL]⟩, [.l 2 (ptRows l)], rfl, fun w vs h => CvL.ok (.cons (.l _ _ _ (ptRows_w l)) .nil) h, ?_⟩
    simp (maxSteps := 3000000) only [Try.f24, qok, ptRows_len, tYs, evL, implies_true, oMin, oCopy, oBin, oUn, oLoadKid, oStoreTree, oField, oExtract, oNil, oSliceQ, oLen, nodupB, treeOf, kidAbs, kidRows, TK.isCell, D.toL, oLoad, oStore, oMake, oIndexAddr, ↓reduceIte, reduceCtorEq, Nat.reduceBEq, Nat.reduceAdd, Nat.reduceMul, Nat.reduceLT, Nat.reduceSub, Nat.reduceLeDiff, Nat.reduceEqDiff, Nat.reduceBneDiff, Int.reduceToNat, decide_eq_true_eq, decide_eq_false_iff_not, beq_iff_eq, Int.toNat_natCast]
    by_cases h3 : (l.length : Int) > 3
    · rw [if_pos h3, ptsB, decide_eq_false (by omega), Bool.false_and]
      exact ⟨_, [], rfl, ⟨⟨⟨rfl, rfl, rfl⟩, trivial⟩, trivial, by simp [rn, hpAt]⟩⟩
    rw [if_neg h3]
    refine e_loop _ _ _ _ _ _ _ _ (fun k : Nat => [.l 2 (ptRows l), .any, .any, .any, .any, .any, .any, .any, .l 2 (ptRows l), .v (.int .i64 (l.length : Int)), .v (.int .i64 (k : Int))] ++ List.replicate (Try.f24.ntmps - 11) .any) (fun k => []) (fun k => k ≤ l.length ∧ ptsK l k = true) (fun k => l.length - k) 0 (fun k => by simp) ?_ fun k hk' => ?_
    · exact ⟨0, [], ⟨Nat.zero_le _, rfl⟩, ⟨⟨⟨rfl, rfl, rfl⟩, trivial, trivial, trivial, trivial, trivial, trivial, trivial, ⟨rfl, rfl, rfl⟩, ⟨rfl, rfl, rfl⟩, ⟨rfl, rfl, rfl⟩, fitT_rep _ _ rfl⟩, trivial, by simp [rn, hpAt]⟩, by simp [keepIds]⟩
    obtain ⟨hk1, hk2⟩ := hk'
    have w2 : IntKind.i64.wrap ((k : Int) + 1) = ((k + 1 : Nat) : Int) := by rw [wrap_id] <;> omega
    by_cases h : k < l.length
    · have hrow := ptRows_get l k h
      have hlt : ((k : Int) < (l.length : Int)) = True := eq_true (by omega)
      have h0 : (0 ≤ (k : Int)) = True := eq_true (by omega)
      have hx := hd l[k] (List.getElem_mem h)
      have hst : ptStep l k = (partB l[k].ps l[k].u && decide (findP (l.take k) (l[k].ps.getD 0 pk0) = k)) := by rw [ptStep, pt_get h]
      by_cases h1 : partB l[k].ps l[k].u = true
      · obtain ⟨q1, q2, q3, q4, q5⟩ := partB_all h1
        have hr0 := pRows_get l[k].ps 0 q3
        have hl0 : ((0 : Int) < (l[k].ps.length : Int)) = True := eq_true (by omega)
        rw [h1, Bool.true_and, pk_get q3] at hst
        have htl : (l.take k).length = k := by rw [List.length_take]; omega
        have hat : atP (l.take k) l[k].ps[0] = if findP (l.take k) l[k].ps[0] = k then -1 else (findP (l.take k) l[k].ps[0] : Int) := by rw [atP, htl]
        simp (maxSteps := 3000000) only [Try.f24, qok, ptRows_len, pRows_len, rowsOf_len, bytesOf_rows, g_partOk, g_partAt, psOf_rows, ptsOf_rows, ptRows_take, hrow, hlt, h0, hr0, hl0, h1, pk_eta, pRow, Int.le_refl, D.toI, dB, D.toB, D.toL, ptRow, tYs, evL, implies_true, oMin, oCopy, oBin, oUn, oLoadKid, oStoreTree, oField, oExtract, oNil, oSliceQ, oLen, nodupB, treeOf, kidAbs, kidRows, TK.isCell, D.toL, oLoad, oStore, oMake, oIndexAddr, ↓reduceIte, reduceCtorEq, Nat.reduceBEq, Nat.reduceAdd, Nat.reduceMul, Nat.reduceLT, Nat.reduceSub, Nat.reduceLeDiff, Nat.reduceEqDiff, Nat.reduceBneDiff, Int.reduceToNat, decide_eq_true_eq, decide_eq_false_iff_not, beq_iff_eq, Int.toNat_natCast, loopK_normal, loopK_exit, loopK_ret, w2]
        refine ⟨⟨_, rfl, hx⟩, hk1, ⟨_, rfl, by rw [htl]; omega, fun y hy => ?_⟩, by kernel_rfl, ?_⟩
        · obtain ⟨j, hj, rfl⟩ := List.getElem_of_mem hy
          rw [htl] at hj
          have := ptsK_at hk2 hj
          rw [ptStep, pt_get (by omega), Bool.and_eq_true] at this
          rw [List.getElem_take]
          exact (partB_all this.1).2.2.1
        · by_cases e : findP (l.take k) l[k].ps[0] = k
          · rw [if_neg (by rw [hat, if_pos e]; omega)]
            exact ⟨k + 1, [], ⟨by omega, by rw [ptsK_succ, hk2, hst, decide_eq_true e]; rfl⟩, by omega, ⟨⟨⟨rfl, rfl, rfl⟩, trivial, trivial, trivial, trivial, trivial, trivial, trivial, ⟨rfl, rfl, rfl⟩, ⟨rfl, rfl, rfl⟩, ⟨rfl, rfl, rfl⟩, fitT_rep _ _ rfl⟩, trivial, by simp [rn, hpAt]⟩, by simp [keepIds]⟩
          · rw [if_pos (by rw [hat, if_neg e]; omega), ptsB_no h (by rw [hst, decide_eq_false e])]
            exact ⟨_, [], rfl, ⟨⟨⟨rfl, rfl, rfl⟩, trivial⟩, trivial, by simp [rn, hpAt]⟩⟩
      · rw [Bool.eq_false_iff.2 h1, Bool.false_and] at hst
        simp (maxSteps := 3000000) only [Try.f24, qok, ptRows_len, pRows_len, rowsOf_len, bytesOf_rows, g_partOk, psOf_rows, hrow, hlt, h0, Bool.eq_false_iff.2 h1, D.toI, dB, D.toB, D.toL, ptRow, tYs, evL, implies_true, oMin, oCopy, oBin, oUn, oLoadKid, oStoreTree, oField, oExtract, oNil, oSliceQ, oLen, nodupB, treeOf, kidAbs, kidRows, TK.isCell, D.toL, oLoad, oStore, oMake, oIndexAddr, ↓reduceIte, reduceCtorEq, Nat.reduceBEq, Nat.reduceAdd, Nat.reduceMul, Nat.reduceLT, Nat.reduceSub, Nat.reduceLeDiff, Nat.reduceEqDiff, Nat.reduceBneDiff, Int.reduceToNat, decide_eq_true_eq, decide_eq_false_iff_not, beq_iff_eq, Int.toNat_natCast, loopK_normal, loopK_exit, loopK_ret, w2]
        rw [ptsB_no h hst]
        exact ⟨⟨_, rfl, hx⟩, by kernel_rfl, _, [], rfl, ⟨⟨⟨rfl, rfl, rfl⟩, trivial⟩, trivial, by simp [rn, hpAt]⟩⟩
    · have hlt : ((k : Int) < (l.length : Int)) = False := eq_false (by omega)
      simp (maxSteps := 3000000) only [Try.f24, qok, ptRows_len, pRows_len, rowsOf_len, bytesOf_rows, hlt, D.toI, dB, D.toB, D.toL, ptRow, tYs, evL, implies_true, oMin, oCopy, oBin, oUn, oLoadKid, oStoreTree, oField, oExtract, oNil, oSliceQ, oLen, nodupB, treeOf, kidAbs, kidRows, TK.isCell, D.toL, oLoad, oStore, oMake, oIndexAddr, ↓reduceIte, reduceCtorEq, Nat.reduceBEq, Nat.reduceAdd, Nat.reduceMul, Nat.reduceLT, Nat.reduceSub, Nat.reduceLeDiff, Nat.reduceEqDiff, Nat.reduceBneDiff, Int.reduceToNat, decide_eq_true_eq, decide_eq_false_iff_not, beq_iff_eq, Int.toNat_natCast, loopK_normal, loopK_exit, loopK_ret, w2]
      obtain rfl : k = l.length := by omega
      rw [ptsB, hk2, decide_eq_true (by omega)]
      exact ⟨_, [], rfl, ⟨⟨⟨rfl, rfl, rfl⟩, trivial⟩, trivial, by simp [rn, hpAt]⟩⟩
  · cases hg
def g_packetCopiedS : PC := fun args => match args with
  | [.agg [.v (.int .i64 f), .v (.int .i64 t), .v (.int .i64 p), .v (.int .i64 h), .v (.int .i64 i), .v (.int .i64 a), .v (.bool m), .v (.bool u), .l _ rows]] => some (∃ xs, rows = rowsOfBytes xs ∧ xs.length ≤ 1048576, .agg [.v (.int .i64 f), .v (.int .i64 t), .v (.int .i64 p), .v (.int .i64 h), .v (.int .i64 i), .v (.int .i64 a), .v (.bool m), .v (.bool u), .own 0], [.sl 5 1 rows])
  | _ => none
def withF (l : List Pt) (q : Pk) (now : Int) : List Pt := l ++ [⟨[q], now + 15⟩]
def hitL (l : List Pt) (k : Nat) (q : Pk) : List Pt := match putO (l.getD k pt0).ps (l.getD k pt0).u q with
  | none => outP l k
  | some r => if wholeB r (l.getD k pt0).u = true then outP l k else l.set k ⟨r, (l.getD k pt0).u⟩
def hitP (l : List Pt) (k : Nat) (q : Pk) : Pk := match putO (l.getD k pt0).ps (l.getD k pt0).u q with
  | none => pk0
  | some r => wholeV r (l.getD k pt0).u
def hitB (l : List Pt) (k : Nat) (q : Pk) : Bool := match putO (l.getD k pt0).ps (l.getD k pt0).u q with
  | none => false
  | some r => wholeB r (l.getD k pt0).u
theorem putO_mid {ps r : List Pk} {u : Int} {q : Pk} (h : putO ps u q = some r) (hm : pMid ps) (hq : q.d.length ≤ 1048576) : pMid r ∧ partB r u = true := by
  unfold putO at h
  split at h
  · rename_i h1
    simp only [Bool.and_eq_true] at h1
    split at h
    · cases h; exact ⟨hm, h1.1.1⟩
    · split at h
      · rename_i h2
        cases h
        exact ⟨insK_mid hm (partB_len h1.1.1) hq, h2⟩
      · cases h
  · cases h
def phOk (l : List Pt) (q : Pk) (n : Int) : Bool := ptsB l && q.ok && inZ n 0 999985
def alone (q : Pk) : Bool := decide (q.a = 0) && !q.m
def phF (l : List Pt) (q : Pk) (n : Int) : List Pt := if phOk l q n = true then (if alone q = true then liveP l n else if findP (liveP l n) q = (liveP l n).length then withF (liveP l n) q n else hitL (liveP l n) (findP (liveP l n) q) q) else []
def phP (l : List Pt) (q : Pk) (n : Int) : Pk := if phOk l q n = true then (if alone q = true then q else if findP (liveP l n) q = (liveP l n).length then pk0 else hitP (liveP l n) (findP (liveP l n) q) q) else pk0
def phB (l : List Pt) (q : Pk) (n : Int) : Bool := phOk l q n && (alone q || (!decide (findP (liveP l n) q = (liveP l n).length) && hitB (liveP l n) (findP (liveP l n) q) q))
def phS (l : List Pt) (q : Pk) (n : Int) : Bool := phOk l q n && (!alone q && decide (findP (liveP l n) q = (liveP l n).length) && !decide ((liveP l n).length ≤ 2))
theorem liveP_mem {l : List Pt} {n : Int} {x : Pt} (h : x ∈ liveP l n) : x ∈ l := (List.mem_filter.1 h).1
theorem liveP_len (l : List Pt) (n : Int) : (liveP l n).length ≤ l.length := List.length_filter_le _ _
theorem ptsB_all {l : List Pt} (h : ptsB l = true) : l.length ≤ 3 ∧ ∀ x ∈ l, partB x.ps x.u = true := by
  simp only [ptsB, Bool.and_eq_true, decide_eq_true_eq] at h
  refine ⟨h.1, fun x hx => ?_⟩
  obtain ⟨j, hj, rfl⟩ := List.getElem_of_mem hx
  have := ptsK_at h.2 hj
  rw [ptStep, pt_get hj, Bool.and_eq_true] at this
  exact this.1
end Go.Proofs.Ytmhmhgegdagjkaa
