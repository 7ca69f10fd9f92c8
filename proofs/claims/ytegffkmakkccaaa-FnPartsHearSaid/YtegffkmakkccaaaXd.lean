import Derived.Test.YtegffkmakkccaaaXc
namespace Go.Proofs.Ytegffkmakkccaaa
open Go.RowKit
set_option linter.unusedSimpArgs false
set_option linter.unusedVariables false
def wAt : List Pk → Int → Nat
  | [], _ => 0
  | x :: r, a => if x.a ≤ a then wAt r a + 1 else 0
def insK (ps : List Pk) (q : Pk) : List Pk := ps.take (wAt ps q.a) ++ [q] ++ ps.drop (wAt ps q.a)
def putO (ps : List Pk) (u : Int) (q : Pk) : Option (List Pk) :=
  if (partB ps u && q.ok && same4 (ps.getD 0 pk0) q) = true then (if haveB ps q = true then some ps else if partB (insK ps q) u = true then some (insK ps q) else none) else none
def putL (ps : List Pk) (u : Int) (q : Pk) : List Pk := (putO ps u q).getD []
def putU (ps : List Pk) (u : Int) (q : Pk) : Int := if (putO ps u q).isSome = true then u else 0
theorem wAt_eq {a : Int} : ∀ {ps : List Pk} {k : Nat}, k ≤ ps.length → (∀ j, j < k → (ps.getD j pk0).a ≤ a) → (k = ps.length ∨ ¬ (ps.getD k pk0).a ≤ a) → wAt ps a = k
  | [], k, h1, _, _ => by simp at h1; subst h1; rfl
  | x :: r, k, h1, h2, h3 => by
    cases k with
    | zero =>
      rcases h3 with h3 | h3
      · simp at h3
      · simp only [List.getD_cons_zero] at h3
        simp only [wAt, if_neg h3]
    | succ k =>
      have h0 := h2 0 (by omega)
      simp only [List.getD_cons_zero] at h0
      simp only [wAt, if_pos h0]
      rw [wAt_eq (ps := r) (k := k) (by simpa using h1) (fun j hj => by simpa using h2 (j + 1) (by omega)) (by simpa using h3)]
theorem wAt_le : ∀ (ps : List Pk) (a : Int), wAt ps a ≤ ps.length
  | [], _ => Nat.le_refl _
  | x :: r, a => by
    have := wAt_le r a
    simp only [wAt]
    split <;> simp <;> omega
theorem sum_ge {ps : List Pk} (h : oksK ps ps.length = true) : ∀ k, k < ps.length → k ≤ sumN (ps.take k)
  | 0, _ => Nat.zero_le _
  | k + 1, hk => by
    have ih := sum_ge h k (by omega)
    have hs := oksK_at h hk
    rw [step_succ hk, Bool.and_eq_true, follows, Bool.and_eq_true, Bool.and_eq_true] at hs
    have hm := hs.2.1.2
    have ho := step_ok (oksK_at h (show k < ps.length by omega)) (show k < ps.length by omega)
    simp only [Pk.ok, pkB, pkM, hm, Bool.and_eq_true, Bool.not_true, Bool.false_or, decide_eq_true_eq] at ho
    rw [sumN_take (show k < ps.length by omega)]
    omega
theorem partB_len {ps : List Pk} {u : Int} (h : partB ps u = true) : ps.length ≤ 49 := by
  have h2 := (partB_all h).2.1
  simp only [partB, piecesB, Bool.and_eq_true] at h
  rcases Nat.lt_or_ge (ps.length - 1) ps.length with h3 | h3
  · have := sum_ge h.1.1.1 _ h3
    have := sumN_le ps (ps.length - 1)
    omega
  · omega
theorem insK_len (ps : List Pk) (q : Pk) : (insK ps q).length = ps.length + 1 := by
  have := wAt_le ps q.a
  simp only [insK, List.length_append, List.length_take, List.length_drop, List.length_cons, List.length_nil]
  omega
theorem insK_mid {ps : List Pk} {q : Pk} (h : pMid ps) (hl : ps.length ≤ 49) (hq : q.d.length ≤ 1048576) : pMid (insK ps q) := by
  refine ⟨by rw [insK_len]; omega, fun x hx => ?_⟩
  simp only [insK, List.mem_append, List.mem_singleton] at hx
  rcases hx with (hx | rfl) | hx
  · exact h.2 x (List.mem_of_mem_take hx)
  · exact hq
  · exact h.2 x (List.mem_of_mem_drop hx)
theorem pMid_take {ps : List Pk} (h : pMid ps) (k : Nat) : pMid (ps.take k) := ⟨by rw [List.length_take]; have := h.1; omega, fun x hx => h.2 x (List.mem_of_mem_take hx)⟩
theorem pMid_drop {ps : List Pk} (h : pMid ps) (k : Nat) : pMid (ps.drop k) := ⟨by rw [List.length_drop]; have := h.1; omega, fun x hx => h.2 x (List.mem_of_mem_drop hx)⟩
theorem insK_at {ps : List Pk} {q : Pk} {k : Nat} (h : wAt ps q.a = k) : pRows (ps.take k) ++ pRow q :: pRows (ps.drop k) = pRows (insK ps q) := by
  rw [insK, h, ← pRows_app, ← pRows_app, List.append_assoc]; rfl
def g_partWhole : PC := fun args => match args with
  | [.agg [.l _ rows, .v (.int .i64 u)]] => some (∃ ps, rows = pRows ps ∧ pMid ps, .tup [.agg [.v (.int .i64 (wholeV (psOf rows) u).f), .v (.int .i64 (wholeV (psOf rows) u).t), .v (.int .i64 (wholeV (psOf rows) u).p), .v (.int .i64 (wholeV (psOf rows) u).h), .v (.int .i64 (wholeV (psOf rows) u).i), .v (.int .i64 (wholeV (psOf rows) u).a), .v (.bool (wholeV (psOf rows) u).m), .v (.bool (wholeV (psOf rows) u).u), .own 0], .v (.bool (wholeB (psOf rows) u))], [.sl 5 1 (rowsOfBytes (wholeV (psOf rows) u).d)])
  | _ => none
def pws : List (FuncId × Abs) := [(53, pureAbs g_partOk), (157, pureAbs g_reach), (158, pureAbs g_joinD)]
theorem pws_ok : ∀ p ∈ pws, CallOk Try.prog p.1 p.2 := by
  intro p hp
  simp only [pws, List.mem_cons, List.not_mem_nil, or_false] at hp
  rcases hp with rfl | rfl | rfl
  · exact implPartOk_ok.call
  · exact reach_ok.call
  · exact joinD_ok.call
set_option maxRecDepth 100000 in
theorem implPartWhole_ok : PureOk Try.prog 125 g_partWhole := by
  refine PureOk.of_vc (G := pws) pws_ok mixed Try.func125 (by kernel_rfl) rfl ?_
  intro args cnd r bs hg hc
  unfold g_partWhole at hg
  split at hg
  · rename_i sz rows u
    cases hg
    obtain ⟨ps, rfl, hm⟩ := hc
    rw [psOf_rows]
    refine ⟨⟨rfl, by simpa [flatB] using rowsOf_flat _, by simp [AV.ids, AV.ids.idsL]⟩, [.agg [.l 9 (pRows ps), .v (.int .i64 u)]], rfl, fun w vs h => CvL.ok (.cons (.cons (.l _ _ _ (pRows_w ps)) (.cons (.refl _) .nil)) .nil) h, ?_⟩
    simp (maxSteps := 3000000) only [Try.f125, pws, g_partOk, g_reach, g_joinD, psOf_rows, pRows_len, tYs, evL, implies_true, oMin, oCopy, oBin, oUn, oLoadKid, oStoreTree, oField, oExtract, oNil, oSliceQ, oLoadRow, takeCells, TS.atRow, TS.ex, treeMode, AV.isOwn, TK.isSl, nilTk, nilsB, oLenQ, oLen, nodupB, treeOf, kidAbs, kidRows, TK.isCell, D.toL, oLoad, oStore, oMake, oIndexAddr, ↓reduceIte, reduceCtorEq, Nat.reduceBEq, Nat.reduceAdd, Nat.reduceMul, Nat.reduceLT, Nat.reduceSub, Nat.reduceLeDiff, Nat.reduceEqDiff, Nat.reduceBneDiff, Int.reduceToNat, decide_eq_true_eq, decide_eq_false_iff_not, beq_iff_eq, Int.toNat_natCast]
    have no : wholeB ps u = false → wholeV ps u = pk0 := fun e => by rw [wholeV, if_neg (by simp [e])]
    refine ⟨⟨_, rfl, hm⟩, ?_⟩
    by_cases h1 : partB ps u = true
    · obtain ⟨q1, q2, q3, q4, q5⟩ := partB_all h1
      have hrow := pRows_get ps 0 q3
      have w0 : (0 ≤ (0 : Int)) = True := eq_true (by omega)
      have w1 : ((0 : Int) < (ps.length : Int)) = True := eq_true (by omega)
      rw [if_pos (by simp [h1])]
      refine ⟨⟨_, rfl, hm.1, q1⟩, ?_⟩
      by_cases h2 : reachB ps = true
      · have hw : wholeB ps u = true := by rw [wholeB, h1, h2]; rfl
        have hv : wholeV ps u = { ps[0] with m := false, d := joinD ps } := by rw [wholeV, if_pos hw, pk_get q3]
        simp (maxSteps := 3000000) only [h2, hw, hv, hrow, D.toI, dB, D.toB, D.toL, pRow, tYs, evL, implies_true, oMin, oCopy, oBin, oUn, oLoadKid, oStoreTree, oField, oExtract, oNil, oSliceQ, oLoadRow, takeCells, TS.atRow, TS.ex, treeMode, AV.isOwn, TK.isSl, nilTk, nilsB, oLenQ, oLen, nodupB, treeOf, kidAbs, kidRows, TK.isCell, D.toL, oLoad, oStore, oMake, oIndexAddr, ↓reduceIte, reduceCtorEq, Nat.reduceBEq, Nat.reduceAdd, Nat.reduceMul, Nat.reduceLT, Nat.reduceSub, Nat.reduceLeDiff, Nat.reduceEqDiff, Nat.reduceBneDiff, Int.reduceToNat, decide_eq_true_eq, decide_eq_false_iff_not, beq_iff_eq, Int.toNat_natCast]
        exact ⟨⟨by omega, by omega⟩, ⟨_, rfl, hm.1, by omega⟩, _, [(0, some _)], rfl, ⟨⟨⟨rfl, rfl, rfl⟩, trivial⟩, ⟨.inl rfl, rfl, rfl, rfl, trivial⟩, by simp [rn, hpAt]⟩⟩
      · have hw : wholeB ps u = false := by rw [wholeB, Bool.eq_false_iff.2 h2]; simp
        rw [if_pos (by simp [h2]), hw, no hw]
        exact ⟨_, [(0, none)], rfl, ⟨⟨⟨rfl, rfl, rfl⟩, trivial⟩, ⟨⟨by omega, rfl⟩, rfl, rfl, rfl, trivial⟩, by simp [rn, hpAt]⟩⟩
    · have hw : wholeB ps u = false := by rw [wholeB, Bool.eq_false_iff.2 h1]; rfl
      rw [if_neg (by simp [h1]), hw, no hw]
      exact ⟨_, [(0, none)], rfl, ⟨⟨⟨rfl, rfl, rfl⟩, trivial⟩, ⟨⟨by omega, rfl⟩, rfl, rfl, rfl, trivial⟩, by simp [rn, hpAt]⟩⟩
  · cases hg
def g_have : PC := fun args => match args with
  | [.l _ rows, .agg [.v (.int .i64 f'), .v (.int .i64 t'), .v (.int .i64 p'), .v (.int .i64 h'), .v (.int .i64 i'), .v (.int .i64 a'), .v (.bool m'), .v (.bool u'), .l _ rows']] => some ((∃ ps, rows = pRows ps ∧ ps.length ≤ 1048576) ∧ ∃ xs, rows' = rowsOfBytes xs, .v (.bool (haveB (psOf rows) ⟨f', t', p', h', i', a', m', u', bytesOfRows rows'⟩)), [])
  | _ => none
def g_piecesCopied : PC := fun args => match args with
  | [.l _ rows] => some (∃ ps, rows = pRows ps ∧ pMid ps, .own 0, [.tr .whole 29 9 [.cell, .cell, .cell, .cell, .cell, .cell, .cell, .cell, .sl 5 1 [.cell]] rows])
  | _ => none
def g_partCopied : PC := fun args => match args with
  | [.agg [.l _ rows, .v (.int .i64 u)]] => some (∃ ps, rows = pRows ps ∧ pMid ps, .agg [.own 0, .v (.int .i64 u)], [.tr .whole 29 9 [.cell, .cell, .cell, .cell, .cell, .cell, .cell, .cell, .sl 5 1 [.cell]] rows])
  | _ => none
def g_piecesWith : PC := fun args => match args with
  | [.l _ rows', .agg [.v (.int .i64 f), .v (.int .i64 t), .v (.int .i64 p), .v (.int .i64 h), .v (.int .i64 i), .v (.int .i64 a), .v (.bool m), .v (.bool u), .l _ rows]] => some ((∃ ps, rows' = pRows ps ∧ pMid ps) ∧ ∃ xs, rows = rowsOfBytes xs ∧ xs.length ≤ 1048576, .own 0, [.tr .whole 29 9 [.cell, .cell, .cell, .cell, .cell, .cell, .cell, .cell, .sl 5 1 [.cell]] (pRows (insK (psOf rows') ⟨f, t, p, h, i, a, m, u, bytesOfRows rows⟩))])
  | _ => none
def pcc : List (FuncId × Abs) := [(61, pureAbs g_packetCopied)]
theorem pcc_ok : ∀ p ∈ pcc, CallOk Try.prog p.1 p.2 := by
  intro p hp
  simp only [pcc, List.mem_cons, List.not_mem_nil, or_false] at hp
  rcases hp with rfl
  · exact packetCopied_ok.call
set_option maxRecDepth 100000 in
theorem piecesCopied_ok : PureOk Try.prog 154 g_piecesCopied := by
  refine PureOk.of_vc (G := pcc) pcc_ok mixed Try.func154 (by kernel_rfl) rfl ?_
  intro args cnd r bs hg hc
  unfold g_piecesCopied at hg
  split at hg
  · rename_i sz rows
    cases hg
    obtain ⟨ps, rfl, hn, hd⟩ := hc
    refine ⟨⟨rfl, by simp [flatB], by simp [AV.ids, AV.ids.idsL]⟩, [.l 9 (pRows ps)], rfl, fun w vs h => CvL.ok (.cons (.l _ _ _ (pRows_w ps)) .nil) h, ?_⟩
    simp (maxSteps := 3000000) only [Try.f154, pcc, pRows_len, tYs, evL, implies_true, oMin, oCopy, oBin, oUn, oLoadKid, oStoreTree, oField, oExtract, oNil, oSliceQ, oLoadRow, takeCells, TS.atRow, TS.ex, treeMode, AV.isOwn, TK.isSl, nilTk, nilsB, oLenQ, oLen, nodupB, treeOf, kidAbs, kidRows, TK.isCell, D.toL, oLoad, oStore, oMake, oIndexAddr, ↓reduceIte, reduceCtorEq, Nat.reduceBEq, Nat.reduceAdd, Nat.reduceMul, Nat.reduceLT, Nat.reduceSub, Nat.reduceLeDiff, Nat.reduceEqDiff, Nat.reduceBneDiff, Int.reduceToNat, decide_eq_true_eq, decide_eq_false_iff_not, beq_iff_eq, Int.toNat_natCast]
    refine ⟨by omega, ?_⟩
    refine e_loop _ _ _ _ _ _ _ _ (fun k : Nat => [.any, .any, .any, .own 0, .any, .any, .any, .any, .any, .l 9 (pRows ps), .v (.int .i64 (ps.length : Int)), .v (.int .i64 (k : Int))] ++ List.replicate (Try.f154.ntmps - 12) .any) (fun k => [(0, .tr .whole 29 9 [.cell, .cell, .cell, .cell, .cell, .cell, .cell, .cell, .sl 5 1 [.cell]] (pRows (ps.take k)))]) (fun k => k ≤ ps.length) (fun k => ps.length - k) 1 (fun k => by simp) ?_ fun k hk' => ?_
    · exact ⟨0, [(0, some _)], Nat.zero_le _, ⟨⟨trivial, trivial, trivial, ⟨rfl, rfl, rfl⟩, trivial, trivial, trivial, trivial, trivial, ⟨rfl, rfl, rfl⟩, ⟨rfl, rfl, rfl⟩, ⟨rfl, rfl, rfl⟩, fitT_rep _ _ rfl⟩, ⟨.inr (.inl ⟨rfl, rfl, rfl⟩), rfl, rfl, rfl, trivial⟩, by simp [rn, hpAt]⟩, by simp [keepIds]⟩
    have w2 : IntKind.i64.wrap ((k : Int) + 1) = ((k + 1 : Nat) : Int) := by rw [wrap_id] <;> omega
    by_cases h : k < ps.length
    · have hrow := pRows_get ps k h
      have hlt : ((k : Int) < (ps.length : Int)) = True := eq_true (by omega)
      have h0 : (0 ≤ (k : Int)) = True := eq_true (by omega)
      have hx := hd ps[k] (List.getElem_mem h)
      have e1 : pRows (ps.take k) ++ [pRow ps[k]] = pRows (ps.take (k + 1)) := by
        rw [List.take_add_one, List.getElem?_eq_getElem h, ← pRows_app]; rfl
      have hpl : (pRows (ps.take k)).length = k := by rw [pRows_len, List.length_take]; omega
      rw [pRow] at e1
      simp (maxSteps := 3000000) only [Try.f154, pcc, pRows_len, rowsOf_len, bytesOf_rows, g_packetCopied, hrow, hlt, h0, hpl, e1, D.toI, dB, D.toB, D.toL, pRow, tYs, evL, implies_true, oMin, oCopy, oBin, oUn, oLoadKid, oStoreTree, oField, oExtract, oNil, oSliceQ, oLoadRow, takeCells, TS.atRow, TS.ex, treeMode, AV.isOwn, TK.isSl, nilTk, nilsB, oLenQ, oLen, nodupB, treeOf, kidAbs, kidRows, TK.isCell, D.toL, oLoad, oStore, oMake, oIndexAddr, ↓reduceIte, reduceCtorEq, Nat.reduceBEq, Nat.reduceAdd, Nat.reduceMul, Nat.reduceLT, Nat.reduceSub, Nat.reduceLeDiff, Nat.reduceEqDiff, Nat.reduceBneDiff, Int.reduceToNat, decide_eq_true_eq, decide_eq_false_iff_not, beq_iff_eq, Int.toNat_natCast, loopK_normal, loopK_exit, loopK_ret, w2]
      exact ⟨⟨_, rfl, hx⟩, ⟨by omega, by omega⟩, k + 1, [(0, some _)], by omega, by omega, ⟨⟨trivial, trivial, trivial, ⟨rfl, rfl, rfl⟩, trivial, trivial, trivial, trivial, trivial, ⟨rfl, rfl, rfl⟩, ⟨rfl, rfl, rfl⟩, ⟨rfl, rfl, rfl⟩, fitT_rep _ _ rfl⟩, ⟨.inl rfl, rfl, rfl, rfl, trivial⟩, by simp [rn, hpAt]⟩, by simp [keepIds]⟩
    · have hlt : ((k : Int) < (ps.length : Int)) = False := eq_false (by omega)
      simp (maxSteps := 3000000) only [Try.f154, pcc, pRows_len, rowsOf_len, bytesOf_rows, hlt, D.toI, dB, D.toB, D.toL, pRow, tYs, evL, implies_true, oMin, oCopy, oBin, oUn, oLoadKid, oStoreTree, oField, oExtract, oNil, oSliceQ, oLoadRow, takeCells, TS.atRow, TS.ex, treeMode, AV.isOwn, TK.isSl, nilTk, nilsB, oLenQ, oLen, nodupB, treeOf, kidAbs, kidRows, TK.isCell, D.toL, oLoad, oStore, oMake, oIndexAddr, ↓reduceIte, reduceCtorEq, Nat.reduceBEq, Nat.reduceAdd, Nat.reduceMul, Nat.reduceLT, Nat.reduceSub, Nat.reduceLeDiff, Nat.reduceEqDiff, Nat.reduceBneDiff, Int.reduceToNat, decide_eq_true_eq, decide_eq_false_iff_not, beq_iff_eq, Int.toNat_natCast, loopK_normal, loopK_exit, loopK_ret, w2]
      obtain rfl : k = ps.length := by omega
      rw [List.take_length]
      exact ⟨_, [(0, some _)], rfl, ⟨⟨⟨rfl, rfl, rfl⟩, trivial⟩, ⟨.inl rfl, rfl, rfl, rfl, trivial⟩, by simp [rn, hpAt]⟩⟩
  · cases hg
def pcd : List (FuncId × Abs) := [(154, pureAbs g_piecesCopied), (61, pureAbs g_packetCopied)]
theorem pcd_ok : ∀ p ∈ pcd, CallOk Try.prog p.1 p.2 := by
  intro p hp
  simp only [pcd, List.mem_cons, List.not_mem_nil, or_false] at hp
  rcases hp with rfl | rfl
  · exact piecesCopied_ok.call
  · exact packetCopied_ok.call
set_option maxRecDepth 100000 in
theorem partCopied_ok : PureOk Try.prog 121 g_partCopied := by
  refine PureOk.of_vc (G := pcd) pcd_ok mixed Try.func121 (by kernel_rfl) rfl ?_
  intro args cnd r bs hg hc
  unfold g_partCopied at hg
  split at hg
  · rename_i sz rows u
    cases hg
    obtain ⟨ps, rfl, hm⟩ := hc
    refine ⟨⟨rfl, by simp [flatB], by simp [AV.ids, AV.ids.idsL]⟩, [.agg [.l 9 (pRows ps), .v (.int .i64 u)]], rfl, fun w vs h => CvL.ok (.cons (.cons (.l _ _ _ (pRows_w ps)) (.cons (.refl _) .nil)) .nil) h, ?_⟩
    simp (maxSteps := 3000000) only [Try.f121, pcd, g_piecesCopied, tYs, evL, implies_true, oMin, oCopy, oBin, oUn, oLoadKid, oStoreTree, oField, oExtract, oNil, oSliceQ, oLoadRow, takeCells, TS.atRow, TS.ex, treeMode, AV.isOwn, TK.isSl, nilTk, nilsB, oLenQ, oLen, nodupB, treeOf, kidAbs, kidRows, TK.isCell, D.toL, oLoad, oStore, oMake, oIndexAddr, ↓reduceIte, reduceCtorEq, Nat.reduceBEq, Nat.reduceAdd, Nat.reduceMul, Nat.reduceLT, Nat.reduceSub, Nat.reduceLeDiff, Nat.reduceEqDiff, Nat.reduceBneDiff, Int.reduceToNat, decide_eq_true_eq, decide_eq_false_iff_not, beq_iff_eq, Int.toNat_natCast]
    exact ⟨⟨_, rfl, hm⟩, by kernel_rfl, _, [(0, some _)], rfl, ⟨⟨⟨rfl, rfl, rfl⟩, trivial⟩, ⟨.inl rfl, rfl, rfl, rfl, trivial⟩, by simp [rn, hpAt]⟩⟩
  · cases hg
set_option maxRecDepth 100000 in
theorem have_ok : PureOk Try.prog 155 g_have := by
  refine PureOk.of_vc (G := []) (by simp) mixed Try.func155 (by kernel_rfl) rfl ?_
  intro args cnd r bs hg hc
  unfold g_have at hg
  split at hg
  · rename_i sz rows f' t' p' h' i' a' m' u' sz' rows'
    cases hg
    obtain ⟨⟨ps, rfl, hn⟩, xs, rfl⟩ := hc
    rw [psOf_rows, bytesOf_rows]
    refine ⟨⟨rfl, by simp, by simp [AV.ids, AV.ids.idsL]⟩, [.l 9 (pRows ps), .agg [.v (.int .i64 f'), .v (.int .i64 t'), .v (.int .i64 p'), .v (.int .i64 h'), .v (.int .i64 i'), .v (.int .i64 a'), .v (.bool m'), .v (.bool u'), .l 1 (rowsOfBytes xs)]], rfl, fun w vs h => CvL.ok (.cons (.l _ _ _ (pRows_w ps)) (.cons (.cons (.refl _) (.cons (.refl _) (.cons (.refl _) (.cons (.refl _) (.cons (.refl _) (.cons (.refl _) (.cons (.refl _) (.cons (.refl _) (.cons (.l _ _ _ (rowsOf_w xs)) .nil))))))))) .nil)) h, ?_⟩
    simp (maxSteps := 3000000) only [Try.f155, pRows_len, tYs, evL, implies_true, oMin, oCopy, oBin, oUn, oLoadKid, oStoreTree, oField, oExtract, oNil, oSliceQ, oLoadRow, takeCells, TS.atRow, TS.ex, treeMode, AV.isOwn, TK.isSl, nilTk, nilsB, oLenQ, oLen, nodupB, treeOf, kidAbs, kidRows, TK.isCell, D.toL, oLoad, oStore, oMake, oIndexAddr, ↓reduceIte, reduceCtorEq, Nat.reduceBEq, Nat.reduceAdd, Nat.reduceMul, Nat.reduceLT, Nat.reduceSub, Nat.reduceLeDiff, Nat.reduceEqDiff, Nat.reduceBneDiff, Int.reduceToNat, decide_eq_true_eq, decide_eq_false_iff_not, beq_iff_eq, Int.toNat_natCast]
    refine e_loop _ _ _ _ _ _ _ _ (fun k : Nat => [.any, .any, .any, .ptr 0 0, .any, .any, .any, .l 9 (pRows ps), .v (.int .i64 (ps.length : Int)), .v (.int .i64 (k : Int))] ++ List.replicate (Try.f155.ntmps - 10) .any) (fun k => [(0, .var 29 [.v (.int .i64 f'), .v (.int .i64 t'), .v (.int .i64 p'), .v (.int .i64 h'), .v (.int .i64 i'), .v (.int .i64 a'), .v (.bool m'), .v (.bool u'), .l 1 (rowsOfBytes xs)])]) (fun k => k ≤ ps.length ∧ haveB (ps.take k) ⟨f', t', p', h', i', a', m', u', xs⟩ = false) (fun k => ps.length - k) 1 (fun k => by simp) ?_ fun k hk' => ?_
    · exact ⟨0, [(0, some 0)], ⟨Nat.zero_le _, rfl⟩, ⟨⟨trivial, trivial, trivial, ⟨rfl, rfl, rfl⟩, trivial, trivial, trivial, ⟨rfl, rfl, rfl⟩, ⟨rfl, rfl, rfl⟩, ⟨rfl, rfl, rfl⟩, fitT_rep _ _ rfl⟩, ⟨.inl rfl, rfl, rfl, rfl, trivial⟩, by simp [rn, hpAt]⟩, by simp [keepIds]⟩
    obtain ⟨hk1, hk2⟩ := hk'
    have w2 : IntKind.i64.wrap ((k : Int) + 1) = ((k + 1 : Nat) : Int) := by rw [wrap_id] <;> omega
    by_cases h : k < ps.length
    · have hrow := pRows_get ps k h
      have hlt : ((k : Int) < (ps.length : Int)) = True := eq_true (by omega)
      have h0 : (0 ≤ (k : Int)) = True := eq_true (by omega)
      have hs : haveB (ps.take (k + 1)) ⟨f', t', p', h', i', a', m', u', xs⟩ = (decide (ps[k].a = a') && (ps[k].m == m') && decide (ps[k].d = xs)) := by
        rw [haveB, List.take_add_one, List.getElem?_eq_getElem h, List.any_append, ← haveB, hk2]; simp
      have yes : haveB (ps.take (k + 1)) ⟨f', t', p', h', i', a', m', u', xs⟩ = true → haveB ps ⟨f', t', p', h', i', a', m', u', xs⟩ = true := fun e => by
        obtain ⟨x, hx, he⟩ := List.any_eq_true.1 e
        exact List.any_eq_true.2 ⟨x, List.mem_of_mem_take hx, he⟩
      simp (maxSteps := 3000000) only [Try.f155, pRows_len, rowsOf_len, bytesOf_rows, hrow, hlt, h0, ByteArray.toList_mk, D.toI, dB, D.toB, D.toL, pRow, tYs, evL, implies_true, oMin, oCopy, oBin, oUn, oLoadKid, oStoreTree, oField, oExtract, oNil, oSliceQ, oLoadRow, takeCells, TS.atRow, TS.ex, treeMode, AV.isOwn, TK.isSl, nilTk, nilsB, oLenQ, oLen, nodupB, treeOf, kidAbs, kidRows, TK.isCell, D.toL, oLoad, oStore, oMake, oIndexAddr, ↓reduceIte, reduceCtorEq, Nat.reduceBEq, Nat.reduceAdd, Nat.reduceMul, Nat.reduceLT, Nat.reduceSub, Nat.reduceLeDiff, Nat.reduceEqDiff, Nat.reduceBneDiff, Int.reduceToNat, decide_eq_true_eq, decide_eq_false_iff_not, beq_iff_eq, Int.toNat_natCast, loopK_normal, loopK_exit, loopK_ret, w2]
      by_cases e1 : ps[k].a = a'
      · rw [if_pos e1]
        by_cases e2 : ps[k].m = m'
        · rw [if_pos e2]
          by_cases e3 : ps[k].d = xs
          · rw [if_pos e3, yes (by rw [hs]; simp [e1, e2, e3])]
            exact ⟨_, [], rfl, ⟨⟨⟨rfl, rfl, rfl⟩, trivial⟩, trivial, by simp [rn, hpAt]⟩⟩
          · rw [if_neg e3]
            exact ⟨k + 1, [(0, some 0)], ⟨by omega, by rw [hs]; simp [e3]⟩, by omega, ⟨⟨trivial, trivial, trivial, ⟨rfl, rfl, rfl⟩, trivial, trivial, trivial, ⟨rfl, rfl, rfl⟩, ⟨rfl, rfl, rfl⟩, ⟨rfl, rfl, rfl⟩, fitT_rep _ _ rfl⟩, ⟨.inl rfl, rfl, rfl, rfl, trivial⟩, by simp [rn, hpAt]⟩, by simp [keepIds]⟩
        · rw [if_neg e2]
          exact ⟨k + 1, [(0, some 0)], ⟨by omega, by rw [hs]; simp [e2]⟩, by omega, ⟨⟨trivial, trivial, trivial, ⟨rfl, rfl, rfl⟩, trivial, trivial, trivial, ⟨rfl, rfl, rfl⟩, ⟨rfl, rfl, rfl⟩, ⟨rfl, rfl, rfl⟩, fitT_rep _ _ rfl⟩, ⟨.inl rfl, rfl, rfl, rfl, trivial⟩, by simp [rn, hpAt]⟩, by simp [keepIds]⟩
      · rw [if_neg e1]
        exact ⟨k + 1, [(0, some 0)], ⟨by omega, by rw [hs]; simp [e1]⟩, by omega, ⟨⟨trivial, trivial, trivial, ⟨rfl, rfl, rfl⟩, trivial, trivial, trivial, ⟨rfl, rfl, rfl⟩, ⟨rfl, rfl, rfl⟩, ⟨rfl, rfl, rfl⟩, fitT_rep _ _ rfl⟩, ⟨.inl rfl, rfl, rfl, rfl, trivial⟩, by simp [rn, hpAt]⟩, by simp [keepIds]⟩
    · have hlt : ((k : Int) < (ps.length : Int)) = False := eq_false (by omega)
      simp (maxSteps := 3000000) only [Try.f155, pRows_len, hlt, tYs, evL, implies_true, oMin, oCopy, oBin, oUn, oLoadKid, oStoreTree, oField, oExtract, oNil, oSliceQ, oLoadRow, takeCells, TS.atRow, TS.ex, treeMode, AV.isOwn, TK.isSl, nilTk, nilsB, oLenQ, oLen, nodupB, treeOf, kidAbs, kidRows, TK.isCell, D.toL, oLoad, oStore, oMake, oIndexAddr, ↓reduceIte, reduceCtorEq, Nat.reduceBEq, Nat.reduceAdd, Nat.reduceMul, Nat.reduceLT, Nat.reduceSub, Nat.reduceLeDiff, Nat.reduceEqDiff, Nat.reduceBneDiff, Int.reduceToNat, decide_eq_true_eq, decide_eq_false_iff_not, beq_iff_eq, Int.toNat_natCast, loopK_normal, loopK_exit, loopK_ret, w2]
      obtain rfl : k = ps.length := by omega
      rw [List.take_length] at hk2
      rw [hk2]
      exact ⟨_, [], rfl, ⟨⟨⟨rfl, rfl, rfl⟩, trivial⟩, trivial, by simp [rn, hpAt]⟩⟩
  · cases hg
set_option maxRecDepth 100000 in
theorem piecesWith_ok : PureOk Try.prog 156 g_piecesWith := by
  refine PureOk.of_vc (G := pcd) pcd_ok mixed Try.func156 (by kernel_rfl) rfl ?_
  intro args cnd r bs hg hc
  unfold g_piecesWith at hg
  split at hg
  · rename_i sz' rows' f t p h i a m u sz rows
    cases hg
    obtain ⟨⟨ps, rfl, hn, hd⟩, xs, rfl, hl⟩ := hc
    rw [psOf_rows, bytesOf_rows]
    refine ⟨⟨rfl, by simp [flatB], by simp [AV.ids, AV.ids.idsL]⟩, [.l 9 (pRows ps), .agg [.v (.int .i64 f), .v (.int .i64 t), .v (.int .i64 p), .v (.int .i64 h), .v (.int .i64 i), .v (.int .i64 a), .v (.bool m), .v (.bool u), .l 1 (rowsOfBytes xs)]], rfl, fun w vs h => CvL.ok (.cons (.l _ _ _ (pRows_w ps)) (.cons (.cons (.refl _) (.cons (.refl _) (.cons (.refl _) (.cons (.refl _) (.cons (.refl _) (.cons (.refl _) (.cons (.refl _) (.cons (.refl _) (.cons (.l _ _ _ (rowsOf_w xs)) .nil))))))))) .nil)) h, ?_⟩
    simp (maxSteps := 3000000) only [Try.f156, pcd, pRows_len, tYs, evL, implies_true, oMin, oCopy, oBin, oUn, oLoadKid, oStoreTree, oField, oExtract, oNil, oSliceQ, oLoadRow, takeCells, TS.atRow, TS.ex, treeMode, AV.isOwn, TK.isSl, nilTk, nilsB, oLenQ, oLen, nodupB, treeOf, kidAbs, kidRows, TK.isCell, D.toL, oLoad, oStore, oMake, oIndexAddr, ↓reduceIte, reduceCtorEq, Nat.reduceBEq, Nat.reduceAdd, Nat.reduceMul, Nat.reduceLT, Nat.reduceSub, Nat.reduceLeDiff, Nat.reduceEqDiff, Nat.reduceBneDiff, Int.reduceToNat, decide_eq_true_eq, decide_eq_false_iff_not, beq_iff_eq, Int.toNat_natCast]
    refine e_loop _ _ _ _ _ _ _ _ (fun k : Nat => [.l 9 (pRows ps), .any, .any, .ptr 0 0, .any, .v (.int .i64 (k : Int))] ++ List.replicate (Try.f156.ntmps - 6) .any) (fun k => [(0, .var 29 [.v (.int .i64 f), .v (.int .i64 t), .v (.int .i64 p), .v (.int .i64 h), .v (.int .i64 i), .v (.int .i64 a), .v (.bool m), .v (.bool u), .l 1 (rowsOfBytes xs)])]) (fun k => k ≤ ps.length ∧ ∀ j, j < k → (ps.getD j pk0).a ≤ a) (fun k => ps.length - k) 1 (fun k => by simp) ?_ fun k hk' => ?_
    · exact ⟨0, [(0, some 0)], ⟨Nat.zero_le _, fun j hj => by omega⟩, ⟨⟨⟨rfl, rfl, rfl⟩, trivial, trivial, ⟨rfl, rfl, rfl⟩, trivial, ⟨rfl, rfl, rfl⟩, fitT_rep _ _ rfl⟩, ⟨.inl rfl, rfl, rfl, rfl, trivial⟩, by simp [rn, hpAt]⟩, by simp [keepIds]⟩
    obtain ⟨hk1, hk2⟩ := hk'
    have w2 : IntKind.i64.wrap ((k : Int) + 1) = ((k + 1 : Nat) : Int) := by rw [wrap_id] <;> omega
    by_cases hk : k < ps.length
    · have hrow := pRows_get ps k hk
      have hlt : ((k : Int) < (ps.length : Int)) = True := eq_true (by omega)
      have h0 : (0 ≤ (k : Int)) = True := eq_true (by omega)
      simp (maxSteps := 3000000) only [Try.f156, pcd, g_piecesCopied, g_packetCopied, pRows_len, rowsOf_len, bytesOf_rows, hrow, hlt, h0, pRows_take, pRows_drop, List.take_length, D.toI, dB, D.toB, D.toL, pRow, tYs, evL, implies_true, oMin, oCopy, oBin, oUn, oLoadKid, oStoreTree, oField, oExtract, oNil, oSliceQ, oLoadRow, takeCells, TS.atRow, TS.ex, treeMode, AV.isOwn, TK.isSl, nilTk, nilsB, oLenQ, oLen, nodupB, treeOf, kidAbs, kidRows, TK.isCell, D.toL, oLoad, oStore, oMake, oIndexAddr, ↓reduceIte, reduceCtorEq, Nat.reduceBEq, Nat.reduceAdd, Nat.reduceMul, Nat.reduceLT, Nat.reduceSub, Nat.reduceLeDiff, Nat.reduceEqDiff, Nat.reduceBneDiff, Int.reduceToNat, decide_eq_true_eq, decide_eq_false_iff_not, beq_iff_eq, Int.toNat_natCast, loopK_normal, loopK_exit, loopK_ret, w2]
      refine ⟨by kernel_rfl, ?_⟩
      by_cases e1 : ps[k].a ≤ a
      · rw [if_pos e1]
        exact ⟨k + 1, [(0, some 0)], ⟨by omega, fun j hj => by
          by_cases hjk : j = k
          · rw [hjk, pk_get hk]; exact e1
          · exact hk2 j (by omega)⟩, by omega, ⟨⟨⟨rfl, rfl, rfl⟩, trivial, trivial, ⟨rfl, rfl, rfl⟩, trivial, ⟨rfl, rfl, rfl⟩, fitT_rep _ _ rfl⟩, ⟨.inl rfl, rfl, rfl, rfl, trivial⟩, by simp [rn, hpAt]⟩, by simp [keepIds]⟩
      · rw [if_neg e1]
        have hw : wAt ps a = k := wAt_eq hk1 hk2 (.inr (by rw [pk_get hk]; exact e1))
        rw [show pRows (ps.take k) ++ [D.v (.int .i64 f), D.v (.int .i64 t), D.v (.int .i64 p), D.v (.int .i64 h), D.v (.int .i64 i), D.v (.int .i64 a), D.v (.bool m), D.v (.bool u), D.l 1 (rowsOfBytes xs)] :: pRows (ps.drop k) = pRows (insK ps ⟨f, t, p, h, i, a, m, u, xs⟩) from insK_at (q := ⟨f, t, p, h, i, a, m, u, xs⟩) hw]
        exact ⟨hk1, ⟨_, rfl, pMid_take ⟨hn, hd⟩ k⟩, ⟨_, rfl, hl⟩, ⟨by simp only [List.length_append, pRows_len, List.length_take, List.length_drop, List.length_cons, List.length_nil]; omega, by simp only [List.length_append, pRows_len, List.length_take, List.length_drop, List.length_cons, List.length_nil]; omega⟩, by kernel_rfl, hk1, ⟨_, rfl, pMid_drop ⟨hn, hd⟩ k⟩, ⟨by simp only [List.length_append, pRows_len, List.length_take, List.length_drop, List.length_cons, List.length_nil]; omega, by simp only [List.length_append, pRows_len, List.length_take, List.length_drop, List.length_cons, List.length_nil]; omega⟩, _, [(0, some _)], rfl, ⟨⟨⟨rfl, rfl, rfl⟩, trivial⟩, ⟨.inl rfl, rfl, rfl, rfl, trivial⟩, by simp [rn, hpAt]⟩⟩
    · have hlt : ((k : Int) < (ps.length : Int)) = False := eq_false (by omega)
      simp (maxSteps := 3000000) only [Try.f156, pcd, g_piecesCopied, g_packetCopied, pRows_len, rowsOf_len, bytesOf_rows, hlt, pRows_take, pRows_drop, List.take_length, D.toI, dB, D.toB, D.toL, pRow, tYs, evL, implies_true, oMin, oCopy, oBin, oUn, oLoadKid, oStoreTree, oField, oExtract, oNil, oSliceQ, oLoadRow, takeCells, TS.atRow, TS.ex, treeMode, AV.isOwn, TK.isSl, nilTk, nilsB, oLenQ, oLen, nodupB, treeOf, kidAbs, kidRows, TK.isCell, D.toL, oLoad, oStore, oMake, oIndexAddr, ↓reduceIte, reduceCtorEq, Nat.reduceBEq, Nat.reduceAdd, Nat.reduceMul, Nat.reduceLT, Nat.reduceSub, Nat.reduceLeDiff, Nat.reduceEqDiff, Nat.reduceBneDiff, Int.reduceToNat, decide_eq_true_eq, decide_eq_false_iff_not, beq_iff_eq, Int.toNat_natCast, loopK_normal, loopK_exit, loopK_ret, w2]
      have hw : wAt ps a = k := wAt_eq hk1 hk2 (.inl (by omega))
      refine ⟨by kernel_rfl, ?_⟩
      rw [show pRows (ps.take k) ++ [D.v (.int .i64 f), D.v (.int .i64 t), D.v (.int .i64 p), D.v (.int .i64 h), D.v (.int .i64 i), D.v (.int .i64 a), D.v (.bool m), D.v (.bool u), D.l 1 (rowsOfBytes xs)] :: pRows (ps.drop k) = pRows (insK ps ⟨f, t, p, h, i, a, m, u, xs⟩) from insK_at (q := ⟨f, t, p, h, i, a, m, u, xs⟩) hw]
      exact ⟨⟨by omega, hk1⟩, ⟨_, rfl, pMid_take ⟨hn, hd⟩ k⟩, ⟨_, rfl, hl⟩, ⟨by simp only [List.length_append, pRows_len, List.length_take, List.length_drop, List.length_cons, List.length_nil]; omega, by simp only [List.length_append, pRows_len, List.length_take, List.length_drop, List.length_cons, List.length_nil]; omega⟩, by kernel_rfl, ⟨by omega, hk1⟩, ⟨_, rfl, pMid_drop ⟨hn, hd⟩ k⟩, ⟨by simp only [List.length_append, pRows_len, List.length_take, List.length_drop, List.length_cons, List.length_nil]; omega, by simp only [List.length_append, pRows_len, List.length_take, List.length_drop, List.length_cons, List.length_nil]; omega⟩, _, [(0, some _)], rfl, ⟨⟨⟨rfl, rfl, rfl⟩, trivial⟩, ⟨.inl rfl, rfl, rfl, rfl, trivial⟩, by simp [rn, hpAt]⟩⟩
  · cases hg
def g_partPut : PC := fun args => match args with
  | [.agg [.l _ rows', .v (.int .i64 un)], .agg [.v (.int .i64 f), .v (.int .i64 t), .v (.int .i64 p), .v (.int .i64 h), .v (.int .i64 i), .v (.int .i64 a), .v (.bool m), .v (.bool u), .l _ rows]] => some ((∃ ps, rows' = pRows ps ∧ pMid ps) ∧ ∃ xs, rows = rowsOfBytes xs ∧ xs.length ≤ 1048576,
      .tup [.agg [.own 0, .v (.int .i64 (putU (psOf rows') un ⟨f, t, p, h, i, a, m, u, bytesOfRows rows⟩))], .v (.bool (putO (psOf rows') un ⟨f, t, p, h, i, a, m, u, bytesOfRows rows⟩).isSome)], [.tr .whole 29 9 [.cell, .cell, .cell, .cell, .cell, .cell, .cell, .cell, .sl 5 1 [.cell]] (pRows (putL (psOf rows') un ⟨f, t, p, h, i, a, m, u, bytesOfRows rows⟩))])
  | _ => none
def ppt : List (FuncId × Abs) := [(53, pureAbs g_partOk), (19, pureAbs g_packetOk), (119, pureAbs g_ofOne), (155, pureAbs g_have), (121, pureAbs g_partCopied), (156, pureAbs g_piecesWith)]
theorem ppt_ok : ∀ p ∈ ppt, CallOk Try.prog p.1 p.2 := by
  intro p hp
  simp only [ppt, List.mem_cons, List.not_mem_nil, or_false] at hp
  rcases hp with rfl | rfl | rfl | rfl | rfl | rfl
  · exact implPartOk_ok.call
  · exact implPacketOk_ok.call
  · exact ofOne_ok.call
  · exact have_ok.call
  · exact partCopied_ok.call
  · exact piecesWith_ok.call
set_option maxRecDepth 100000 in
theorem implPartPut_ok : PureOk Try.prog 123 g_partPut := by
  refine PureOk.of_vc (G := ppt) ppt_ok mixed Try.func123 (by kernel_rfl) rfl ?_
  intro args cnd r bs hg hc
  unfold g_partPut at hg
  split at hg
  · rename_i sz' rows' un f t p h i a m u sz rows
    cases hg
    obtain ⟨⟨ps, rfl, hm⟩, xs, rfl, hl⟩ := hc
    rw [psOf_rows, bytesOf_rows]
    have hO : putO ps un ⟨f, t, p, h, i, a, m, u, xs⟩ = if (partB ps un && pkB f t p h i a m u xs.length && same4 (ps.getD 0 pk0) ⟨f, t, p, h, i, a, m, u, xs⟩) = true then (if haveB ps ⟨f, t, p, h, i, a, m, u, xs⟩ = true then some ps else if partB (insK ps ⟨f, t, p, h, i, a, m, u, xs⟩) un = true then some (insK ps ⟨f, t, p, h, i, a, m, u, xs⟩) else none) else none := rfl
    have no : putO ps un ⟨f, t, p, h, i, a, m, u, xs⟩ = none → putU ps un ⟨f, t, p, h, i, a, m, u, xs⟩ = 0 ∧ putL ps un ⟨f, t, p, h, i, a, m, u, xs⟩ = [] := fun e => by rw [putU, putL, e]; exact ⟨rfl, rfl⟩
    have yes : ∀ l, putO ps un ⟨f, t, p, h, i, a, m, u, xs⟩ = some l → putU ps un ⟨f, t, p, h, i, a, m, u, xs⟩ = un ∧ putL ps un ⟨f, t, p, h, i, a, m, u, xs⟩ = l := fun l e => by rw [putU, putL, e]; exact ⟨rfl, rfl⟩
    refine ⟨⟨rfl, by simp [flatB], by simp [AV.ids, AV.ids.idsL]⟩, [.agg [.l 9 (pRows ps), .v (.int .i64 un)], .agg [.v (.int .i64 f), .v (.int .i64 t), .v (.int .i64 p), .v (.int .i64 h), .v (.int .i64 i), .v (.int .i64 a), .v (.bool m), .v (.bool u), .l 1 (rowsOfBytes xs)]], rfl, fun w vs h => CvL.ok (.cons (.cons (.l _ _ _ (pRows_w ps)) (.cons (.refl _) .nil)) (.cons (.cons (.refl _) (.cons (.refl _) (.cons (.refl _) (.cons (.refl _) (.cons (.refl _) (.cons (.refl _) (.cons (.refl _) (.cons (.refl _) (.cons (.l _ _ _ (rowsOf_w xs)) .nil))))))))) .nil)) h, ?_⟩
    by_cases h1 : partB ps un = true
    · obtain ⟨q1, q2, q3, q4, q5⟩ := partB_all h1
      have hrow := pRows_get ps 0 q3
      have w1 : ((0 : Int) < (ps.length : Int)) = True := eq_true (by omega)
      simp (maxSteps := 3000000) only [Try.f123, ppt, g_partOk, g_packetOk, g_ofOne, g_have, g_partCopied, g_piecesWith, psOf_rows, bytesOf_rows, pRows_len, rowsOf_len, h1, hrow, w1, pk_eta, Int.le_refl, D.toI, dB, D.toB, D.toL, pRow, tYs, evL, implies_true, oMin, oCopy, oBin, oUn, oLoadKid, oStoreTree, oField, oExtract, oNil, oSliceQ, oLoadRow, takeCells, TS.atRow, TS.ex, treeMode, AV.isOwn, TK.isSl, nilTk, nilsB, oLenQ, oLen, nodupB, treeOf, kidAbs, kidRows, TK.isCell, D.toL, oLoad, oStore, oMake, oIndexAddr, ↓reduceIte, reduceCtorEq, Nat.reduceBEq, Nat.reduceAdd, Nat.reduceMul, Nat.reduceLT, Nat.reduceSub, Nat.reduceLeDiff, Nat.reduceEqDiff, Nat.reduceBneDiff, Int.reduceToNat, decide_eq_true_eq, decide_eq_false_iff_not, beq_iff_eq, Int.toNat_natCast]
      refine ⟨⟨_, rfl, hm⟩, ?_⟩
      rw [h1, Bool.true_and, pk_get q3] at hO
      by_cases h2 : pkB f t p h i a m u xs.length = true
      · rw [h2, Bool.true_and] at hO
        rw [if_pos (by simp [h2])]
        by_cases h3 : same4 ps[0] ⟨f, t, p, h, i, a, m, u, xs⟩ = true
        · rw [if_pos h3] at hO
          refine ⟨by kernel_rfl, ?_⟩
          rw [if_neg (by simp [h3])]
          refine ⟨⟨⟨_, rfl, hm.1⟩, _, rfl⟩, ?_⟩
          by_cases h4 : haveB ps ⟨f, t, p, h, i, a, m, u, xs⟩ = true
          · rw [if_pos h4] at hO
            obtain ⟨e1, e2⟩ := yes _ hO
            rw [if_pos h4, e1, e2, hO]
            exact ⟨⟨_, rfl, hm⟩, _, [(0, some _)], rfl, ⟨⟨⟨rfl, rfl, rfl⟩, trivial⟩, ⟨.inl rfl, rfl, rfl, rfl, trivial⟩, by simp [rn, hpAt]⟩⟩
          · rw [if_neg h4] at hO
            rw [if_neg h4]
            refine ⟨⟨⟨_, rfl, hm⟩, _, rfl, hl⟩, by kernel_rfl, ⟨_, rfl, insK_mid hm (partB_len h1) hl⟩, ?_⟩
            by_cases h5 : partB (insK ps ⟨f, t, p, h, i, a, m, u, xs⟩) un = true
            · rw [if_pos h5] at hO
              obtain ⟨e1, e2⟩ := yes _ hO
              rw [if_neg (by simp [h5]), e1, e2, hO]
              exact ⟨_, [(0, some _)], rfl, ⟨⟨⟨rfl, rfl, rfl⟩, trivial⟩, ⟨.inl rfl, rfl, rfl, rfl, trivial⟩, by simp [rn, hpAt]⟩⟩
            · rw [if_neg h5] at hO
              obtain ⟨e1, e2⟩ := no hO
              rw [if_pos (by simp [h5]), e1, e2, hO]
              exact ⟨_, [(0, none)], rfl, ⟨⟨⟨rfl, rfl, rfl⟩, trivial⟩, ⟨⟨by omega, rfl, rfl⟩, rfl, rfl, rfl, trivial⟩, by simp [rn, hpAt]⟩⟩
        · rw [if_neg h3] at hO
          obtain ⟨e1, e2⟩ := no hO
          rw [if_pos (by simp [h3]), e1, e2, hO]
          exact ⟨by kernel_rfl, _, [(0, none)], rfl, ⟨⟨⟨rfl, rfl, rfl⟩, trivial⟩, ⟨⟨by omega, rfl, rfl⟩, rfl, rfl, rfl, trivial⟩, by simp [rn, hpAt]⟩⟩
      · rw [Bool.eq_false_iff.2 h2, Bool.false_and, if_neg (by simp)] at hO
        obtain ⟨e1, e2⟩ := no hO
        rw [if_neg (by simp [h2]), e1, e2, hO]
        exact ⟨by kernel_rfl, _, [(0, none)], rfl, ⟨⟨⟨rfl, rfl, rfl⟩, trivial⟩, ⟨⟨by omega, rfl, rfl⟩, rfl, rfl, rfl, trivial⟩, by simp [rn, hpAt]⟩⟩
    · rw [Bool.eq_false_iff.2 h1, Bool.false_and, Bool.false_and, if_neg (by simp)] at hO
      obtain ⟨e1, e2⟩ := no hO
      simp (maxSteps := 3000000) only [Try.f123, ppt, g_partOk, g_packetOk, g_ofOne, g_have, g_partCopied, g_piecesWith, psOf_rows, bytesOf_rows, pRows_len, rowsOf_len, Bool.eq_false_iff.2 h1, e1, e2, hO, Option.isSome_none, tYs, evL, implies_true, oMin, oCopy, oBin, oUn, oLoadKid, oStoreTree, oField, oExtract, oNil, oSliceQ, oLoadRow, takeCells, TS.atRow, TS.ex, treeMode, AV.isOwn, TK.isSl, nilTk, nilsB, oLenQ, oLen, nodupB, treeOf, kidAbs, kidRows, TK.isCell, D.toL, oLoad, oStore, oMake, oIndexAddr, ↓reduceIte, reduceCtorEq, Nat.reduceBEq, Nat.reduceAdd, Nat.reduceMul, Nat.reduceLT, Nat.reduceSub, Nat.reduceLeDiff, Nat.reduceEqDiff, Nat.reduceBneDiff, Int.reduceToNat, decide_eq_true_eq, decide_eq_false_iff_not, beq_iff_eq, Int.toNat_natCast]
      exact ⟨⟨_, rfl, hm⟩, by kernel_rfl, _, [(0, none)], rfl, ⟨⟨⟨rfl, rfl, rfl⟩, trivial⟩, ⟨⟨by omega, rfl, rfl⟩, rfl, rfl, rfl, trivial⟩, by simp [rn, hpAt]⟩⟩
  · cases hg
end Go.Proofs.Ytegffkmakkccaaa
