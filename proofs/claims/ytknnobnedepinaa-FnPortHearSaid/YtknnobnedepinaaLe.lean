import Derived.Test.YtknnobnedepinaaLd
set_option linter.unusedVariables false
set_option linter.unusedSimpArgs false
namespace Go.Proofs.Ytknnobnedepinaa
open Go.RowKit
set_option linter.unusedSimpArgs false
theorem insP_at : ∀ {l : List Po} {x : Int} {k : Nat}, k ≤ l.length → (∀ j, j < k → (l.getD j po0).n < x) → (k = l.length ∨ x < (l.getD k po0).n) → insP l x = l.take k ++ ⟨x, []⟩ :: l.drop k
  | [], x, k, h1, _, _ => by
    obtain rfl : k = 0 := by simpa using h1
    rfl
  | p :: t, x, k, h1, h2, h3 => by
    cases k with
    | zero =>
      rcases h3 with h3 | h3
      · simp at h3
      · simp only [List.getD_cons_zero] at h3
        rw [insP, if_pos h3]; rfl
    | succ k =>
      have h0 := h2 0 (by omega)
      simp only [List.getD_cons_zero] at h0
      rw [insP, if_neg (by omega), insP_at (l := t) (k := k) (by simpa using h1) (fun j hj => by simpa using h2 (j + 1) (by omega)) (by simpa using h3)]
      rfl
def g_portsWith : PC := fun args => match args with
  | [.l _ rows, .v (.int .i64 x)] => some (∃ l, rows = poRows l ∧ poMid l ∧ ∀ p ∈ l, p.n ≠ x, .own 0, [.tr .whole 53 2 [.cell, .sl 24 4 [.cell, .cell, .cell, .sl 5 1 [.cell]]] (poRows (insP (posOf rows) x))])
  | _ => none
def g_portListen : PC := fun args => match args with
  | [.l _ rows, .v (.int .i64 x)] => some (∃ l, rows = poRows l ∧ poMid l, .tup [.own 0, .v (.bool (plB (posOf rows) x))], [.tr .whole 53 2 [.cell, .sl 24 4 [.cell, .cell, .cell, .sl 5 1 [.cell]]] (poRows (plV (posOf rows) x))])
  | _ => none
def pow : List (FuncId × Abs) := [(70, pureAbs g_portsCopied)]
theorem pow_ok : ∀ p ∈ pow, CallOk Try.prog p.1 p.2 := by
  intro p hp
  simp only [pow, List.mem_cons, List.not_mem_nil, or_false] at hp
  rcases hp with rfl
  · exact portsCopied_ok.call
set_option maxHeartbeats 1000000 in
set_option maxRecDepth 100000 in
theorem portsWith_ok : PureOk Try.prog 71 g_portsWith := by
  refine PureOk.of_vc (G := pow) pow_ok mixed Try.func71 (by kernel_rfl) rfl ?_
  intro args cnd r bs hg hc
  unfold g_portsWith at hg
  split at hg
  · rename_i sz rows x
    cases hg
    obtain ⟨l, rfl, hm, hx⟩ := hc
    rw [posOf_rows]
    have hn := hm.1
    refine ⟨⟨rfl, by simp [flatB], by simp [AV.ids, AV.ids.idsL]⟩, [.l 2 (poRows l), .v (.int .i64 x)], rfl, fun w vs h => CvL.ok (.cons (.l _ _ _ (poRows_w l)) (.cons (.refl _) .nil)) h, ?_⟩
    simp (maxSteps := 3000000) only [Try.f71, pow, poRows_len, tYs, evL, implies_true, oMin, oCopy, oBin, oUn, oLoadKid, oStoreTree, oField, oExtract, oNil, oSliceQ, oLoadRow, takeCells, TS.atRow, TS.ex, treeMode, AV.isOwn, TK.isSl, nilTk, nilsB, oLenQ, oLen, nodupB, treeOf, kidAbs, kidRows, TK.isCell, D.toL, oLoad, oStore, oMake, oIndexAddr, ↓reduceIte, reduceCtorEq, Nat.reduceBEq, Nat.reduceAdd, Nat.reduceMul, Nat.reduceLT, Nat.reduceSub, Nat.reduceLeDiff, Nat.reduceEqDiff, Nat.reduceBneDiff, Int.reduceToNat, decide_eq_true_eq, decide_eq_false_iff_not, beq_iff_eq, Int.toNat_natCast]
    refine e_loop _ _ _ _ _ _ _ _ (fun k : Nat => [.l 2 (poRows l), .v (.int .i64 x), .any, .any, .any, .v (.int .i64 (k : Int))] ++ List.replicate (Try.f71.ntmps - 6) .any) (fun k => []) (fun k => k ≤ l.length ∧ ∀ j, j < k → (l.getD j po0).n < x) (fun k => l.length - k) 0 (fun k => by simp) ?_ fun k hk' => ?_
    · exact ⟨0, [], ⟨Nat.zero_le _, fun j hj => by omega⟩, ⟨⟨⟨rfl, rfl, rfl⟩, ⟨rfl, rfl, rfl⟩, trivial, trivial, trivial, ⟨rfl, rfl, rfl⟩, fitT_rep _ _ rfl⟩, trivial, by simp [rn, hpAt]⟩, by simp [keepIds]⟩
    obtain ⟨hk1, hk2⟩ := hk'
    have w2 : IntKind.i64.wrap ((k : Int) + 1) = ((k + 1 : Nat) : Int) := by rw [wrap_id] <;> omega
    by_cases hk : k < l.length
    · have hrow := poRows_get l k hk
      have hlt : ((k : Int) < (l.length : Int)) = True := eq_true (by omega)
      have h0 : (0 ≤ (k : Int)) = True := eq_true (by omega)
      by_cases h1 : l[k].n < x
      · have h1c : (l[k].n < x) = True := eq_true h1
        simp (maxSteps := 3000000) only [Try.f71, pow, poRows_len, mRows_len, rowsOf_len, bytesOf_rows, msOf_rows, posOf_rows, hrow, hlt, h0, h1c, D.toI, D.toL, poRow, tYs, evL, implies_true, oMin, oCopy, oBin, oUn, oLoadKid, oStoreTree, oField, oExtract, oNil, oSliceQ, oLoadRow, takeCells, TS.atRow, TS.ex, treeMode, AV.isOwn, TK.isSl, nilTk, nilsB, oLenQ, oLen, nodupB, treeOf, kidAbs, kidRows, TK.isCell, D.toL, oLoad, oStore, oMake, oIndexAddr, ↓reduceIte, reduceCtorEq, Nat.reduceBEq, Nat.reduceAdd, Nat.reduceMul, Nat.reduceLT, Nat.reduceSub, Nat.reduceLeDiff, Nat.reduceEqDiff, Nat.reduceBneDiff, Int.reduceToNat, decide_eq_true_eq, decide_eq_false_iff_not, beq_iff_eq, Int.toNat_natCast, loopK_normal, loopK_exit, loopK_ret, w2]
        exact ⟨k + 1, [], ⟨by omega, fun j hj => by
          by_cases e : j = k
          · rw [e, po_get hk]; exact h1
          · exact hk2 j (by omega)⟩, by omega, ⟨⟨⟨rfl, rfl, rfl⟩, ⟨rfl, rfl, rfl⟩, trivial, trivial, trivial, ⟨rfl, rfl, rfl⟩, fitT_rep _ _ rfl⟩, trivial, by simp [rn, hpAt]⟩, by simp [keepIds]⟩
      · have h1c : (l[k].n < x) = False := eq_false h1
        have hk3 : k = l.length ∨ x < (l.getD k po0).n := .inr (by
          rw [po_get hk]
          have := hx _ (List.getElem_mem hk)
          omega)
        have e1 : poRows (l.take k) ++ [[D.v (.int .i64 x), D.l 4 []]] = poRows (l.take k ++ [⟨x, []⟩]) := by rw [← poRows_app]; rfl
        have e2 : poRows (l.take k ++ [⟨x, []⟩]) ++ poRows (l.drop k) = poRows (insP l x) := by rw [poRows_app, insP_at hk1 hk2 hk3, List.append_assoc]; rfl
        have c1 : (poRows (l.take k)).length = k := by rw [poRows_len, List.length_take]; omega
        have c2 : (poRows (l.take k ++ [⟨x, []⟩])).length = k + 1 := by rw [poRows_len, List.length_append, List.length_take]; simp; omega
        have c3 : (poRows (l.drop k)).length = l.length - k := by rw [poRows_len, List.length_drop]
        simp (maxSteps := 3000000) only [Try.f71, pow, poRows_len, mRows_len, rowsOf_len, bytesOf_rows, msOf_rows, posOf_rows, g_portsCopied, poRows_take, poRows_drop, List.take_length, Int.toNat_natCast, e1, e2, c1, c2, c3, hrow, hlt, h0, h1c, D.toI, D.toL, poRow, tYs, evL, implies_true, oMin, oCopy, oBin, oUn, oLoadKid, oStoreTree, oField, oExtract, oNil, oSliceQ, oLoadRow, takeCells, TS.atRow, TS.ex, treeMode, AV.isOwn, TK.isSl, nilTk, nilsB, oLenQ, oLen, nodupB, treeOf, kidAbs, kidRows, TK.isCell, D.toL, oLoad, oStore, oMake, oIndexAddr, ↓reduceIte, reduceCtorEq, Nat.reduceBEq, Nat.reduceAdd, Nat.reduceMul, Nat.reduceLT, Nat.reduceSub, Nat.reduceLeDiff, Nat.reduceEqDiff, Nat.reduceBneDiff, Int.reduceToNat, decide_eq_true_eq, decide_eq_false_iff_not, beq_iff_eq, Int.toNat_natCast, loopK_normal, loopK_exit, loopK_ret, w2]
        exact ⟨by omega, ⟨_, rfl, poMid_take hm _⟩, ⟨by omega, by omega⟩, by omega, ⟨_, rfl, poMid_drop hm _⟩, ⟨by omega, by omega⟩, _, [(0, some _)], rfl, ⟨⟨⟨rfl, rfl, rfl⟩, trivial⟩, ⟨.inl rfl, rfl, rfl, rfl, trivial⟩, by simp [rn, hpAt]⟩⟩
    · have hlt : ((k : Int) < (l.length : Int)) = False := eq_false (by omega)
      have hk3 : k = l.length ∨ x < (l.getD k po0).n := .inl (by omega)
      have e1 : poRows (l.take k) ++ [[D.v (.int .i64 x), D.l 4 []]] = poRows (l.take k ++ [⟨x, []⟩]) := by rw [← poRows_app]; rfl
      have e2 : poRows (l.take k ++ [⟨x, []⟩]) ++ poRows (l.drop k) = poRows (insP l x) := by rw [poRows_app, insP_at hk1 hk2 hk3, List.append_assoc]; rfl
      have c1 : (poRows (l.take k)).length = k := by rw [poRows_len, List.length_take]; omega
      have c2 : (poRows (l.take k ++ [⟨x, []⟩])).length = k + 1 := by rw [poRows_len, List.length_append, List.length_take]; simp; omega
      have c3 : (poRows (l.drop k)).length = l.length - k := by rw [poRows_len, List.length_drop]
      simp (maxSteps := 3000000) only [Try.f71, pow, poRows_len, mRows_len, rowsOf_len, bytesOf_rows, msOf_rows, posOf_rows, g_portsCopied, poRows_take, poRows_drop, List.take_length, Int.toNat_natCast, e1, e2, c1, c2, c3, hlt, D.toI, D.toL, poRow, tYs, evL, implies_true, oMin, oCopy, oBin, oUn, oLoadKid, oStoreTree, oField, oExtract, oNil, oSliceQ, oLoadRow, takeCells, TS.atRow, TS.ex, treeMode, AV.isOwn, TK.isSl, nilTk, nilsB, oLenQ, oLen, nodupB, treeOf, kidAbs, kidRows, TK.isCell, D.toL, oLoad, oStore, oMake, oIndexAddr, ↓reduceIte, reduceCtorEq, Nat.reduceBEq, Nat.reduceAdd, Nat.reduceMul, Nat.reduceLT, Nat.reduceSub, Nat.reduceLeDiff, Nat.reduceEqDiff, Nat.reduceBneDiff, Int.reduceToNat, decide_eq_true_eq, decide_eq_false_iff_not, beq_iff_eq, Int.toNat_natCast, loopK_normal, loopK_exit, loopK_ret, w2]
      exact ⟨⟨by omega, by omega⟩, ⟨_, rfl, poMid_take hm _⟩, ⟨by omega, by omega⟩, ⟨by omega, by omega⟩, ⟨_, rfl, poMid_drop hm _⟩, ⟨by omega, by omega⟩, _, [(0, some _)], rfl, ⟨⟨⟨rfl, rfl, rfl⟩, trivial⟩, ⟨.inl rfl, rfl, rfl, rfl, trivial⟩, by simp [rn, hpAt]⟩⟩
  · cases hg
def pol : List (FuncId × Abs) := [(28, pureAbs g_portsOk), (58, pureAbs g_isPort), (69, pureAbs g_portAt), (70, pureAbs g_portsCopied), (71, pureAbs g_portsWith)]
theorem pol_ok : ∀ p ∈ pol, CallOk Try.prog p.1 p.2 := by
  intro p hp
  simp only [pol, List.mem_cons, List.not_mem_nil, or_false] at hp
  rcases hp with rfl | rfl | rfl | rfl | rfl
  · exact implPortsOk_ok.call
  · exact isPort_ok.call
  · exact portAt_ok.call
  · exact portsCopied_ok.call
  · exact portsWith_ok.call
theorem poI_none {l : List Po} {x : Int} (h : poAt l x = none) : poI l x = -1 := by rw [poI, h]
theorem poI_some {l : List Po} {x : Int} {n : Nat} (h : poAt l x = some n) : poI l x = (n : Int) := by rw [poI, h]
set_option maxHeartbeats 2000000 in
set_option maxRecDepth 100000 in
theorem implPortListen_ok : PureOk Try.prog 31 g_portListen := by
  refine PureOk.of_vc (G := pol) pol_ok mixed Try.func31 (by kernel_rfl) rfl ?_
  intro args cnd r bs hg hc
  unfold g_portListen at hg
  split at hg
  · rename_i sz rows x
    cases hg
    obtain ⟨l, rfl, hm⟩ := hc
    rw [posOf_rows]
    have hn := hm.1
    refine ⟨⟨rfl, by simp [flatB], by simp [AV.ids, AV.ids.idsL]⟩, [.l 2 (poRows l), .v (.int .i64 x)], rfl, fun w vs h => CvL.ok (.cons (.l _ _ _ (poRows_w l)) (.cons (.refl _) .nil)) h, ?_⟩
    rcases hb : posB l with _ | _
    · have e1 : plB l x = false := by rw [plB, hb]; rfl
      have e2 : plV l x = [] := by rw [plV, if_neg (by rw [hb]; simp)]
      rw [e1, e2]
      simp (maxSteps := 3000000) only [Try.f31, pol, g_portsOk, g_isPort, g_portAt, g_portsCopied, g_portsWith, poRows_len, posOf_rows, Bool.not_true, Bool.not_false, hb, ↓reduceIte, Bool.false_eq_true, tYs, evL, implies_true, oMin, oCopy, oBin, oUn, oLoadKid, oStoreTree, oField, oExtract, oNil, oSliceQ, oLoadRow, takeCells, TS.atRow, TS.ex, treeMode, AV.isOwn, TK.isSl, nilTk, nilsB, oLenQ, oLen, nodupB, treeOf, kidAbs, kidRows, TK.isCell, D.toL, oLoad, oStore, oMake, oIndexAddr, ↓reduceIte, reduceCtorEq, Nat.reduceBEq, Nat.reduceAdd, Nat.reduceMul, Nat.reduceLT, Nat.reduceSub, Nat.reduceLeDiff, Nat.reduceEqDiff, Nat.reduceBneDiff, Int.reduceToNat, decide_eq_true_eq, decide_eq_false_iff_not, beq_iff_eq, Int.toNat_natCast]
      exact ⟨⟨_, rfl, hm⟩, _, [(0, none)], rfl, ⟨⟨⟨rfl, rfl, rfl⟩, trivial⟩, ⟨⟨by omega, rfl, rfl⟩, rfl, rfl, rfl, trivial⟩, by simp [rn, hpAt]⟩⟩
    rcases hx : inZ x 1 255 with _ | _
    · have e1 : plB l x = false := by rw [plB, hx]; simp
      have e2 : plV l x = [] := by rw [plV, if_neg (by rw [hx]; simp)]
      rw [e1, e2]
      simp (maxSteps := 3000000) only [Try.f31, pol, g_portsOk, g_isPort, g_portAt, g_portsCopied, g_portsWith, poRows_len, posOf_rows, Bool.not_true, Bool.not_false, hb, hx, ↓reduceIte, Bool.false_eq_true, tYs, evL, implies_true, oMin, oCopy, oBin, oUn, oLoadKid, oStoreTree, oField, oExtract, oNil, oSliceQ, oLoadRow, takeCells, TS.atRow, TS.ex, treeMode, AV.isOwn, TK.isSl, nilTk, nilsB, oLenQ, oLen, nodupB, treeOf, kidAbs, kidRows, TK.isCell, D.toL, oLoad, oStore, oMake, oIndexAddr, ↓reduceIte, reduceCtorEq, Nat.reduceBEq, Nat.reduceAdd, Nat.reduceMul, Nat.reduceLT, Nat.reduceSub, Nat.reduceLeDiff, Nat.reduceEqDiff, Nat.reduceBneDiff, Int.reduceToNat, decide_eq_true_eq, decide_eq_false_iff_not, beq_iff_eq, Int.toNat_natCast]
      exact ⟨⟨_, rfl, hm⟩, _, [(0, none)], rfl, ⟨⟨⟨rfl, rfl, rfl⟩, trivial⟩, ⟨⟨by omega, rfl, rfl⟩, rfl, rfl, rfl, trivial⟩, by simp [rn, hpAt]⟩⟩
    have same : plB l x = false → plV l x = l := fun h => by rw [plV, if_pos (by rw [hb, hx]; rfl), if_neg (by rw [h]; decide)]
    cases ha : poAt l x with
    | some n =>
      have e1 : plB l x = false := by rw [plB, ha]; simp
      have hge : ((n : Int) ≥ 0) = True := eq_true (by omega)
      rw [e1, same e1]
      simp (maxSteps := 3000000) only [Try.f31, pol, g_portsOk, g_isPort, g_portAt, g_portsCopied, g_portsWith, poRows_len, posOf_rows, Bool.not_true, Bool.not_false, hb, hx, poI_some ha, hge, ↓reduceIte, Bool.false_eq_true, tYs, evL, implies_true, oMin, oCopy, oBin, oUn, oLoadKid, oStoreTree, oField, oExtract, oNil, oSliceQ, oLoadRow, takeCells, TS.atRow, TS.ex, treeMode, AV.isOwn, TK.isSl, nilTk, nilsB, oLenQ, oLen, nodupB, treeOf, kidAbs, kidRows, TK.isCell, D.toL, oLoad, oStore, oMake, oIndexAddr, ↓reduceIte, reduceCtorEq, Nat.reduceBEq, Nat.reduceAdd, Nat.reduceMul, Nat.reduceLT, Nat.reduceSub, Nat.reduceLeDiff, Nat.reduceEqDiff, Nat.reduceBneDiff, Int.reduceToNat, decide_eq_true_eq, decide_eq_false_iff_not, beq_iff_eq, Int.toNat_natCast]
      exact ⟨⟨_, rfl, hm⟩, ⟨_, rfl, hn⟩, ⟨_, rfl, hm⟩, _, [(0, some _)], rfl, ⟨⟨⟨rfl, rfl, rfl⟩, trivial⟩, ⟨.inl rfl, rfl, rfl, rfl, trivial⟩, by simp [rn, hpAt]⟩⟩
    | none =>
      have hge : (((-1 : Int)) ≥ 0) = False := eq_false (by omega)
      by_cases h4 : l.length = 4
      · have e1 : plB l x = false := by rw [plB, h4]; simp
        have h4b : ((l.length : Int) == 4) = true := beq_iff_eq.2 (by omega)
        have h4c : ((l.length : Int) = 4) = True := eq_true (by omega)
        rw [e1, same e1]
        simp (maxSteps := 3000000) only [Try.f31, pol, g_portsOk, g_isPort, g_portAt, g_portsCopied, g_portsWith, poRows_len, posOf_rows, Bool.not_true, Bool.not_false, hb, hx, poI_none ha, hge, h4b, h4c, ↓reduceIte, Bool.false_eq_true, tYs, evL, implies_true, oMin, oCopy, oBin, oUn, oLoadKid, oStoreTree, oField, oExtract, oNil, oSliceQ, oLoadRow, takeCells, TS.atRow, TS.ex, treeMode, AV.isOwn, TK.isSl, nilTk, nilsB, oLenQ, oLen, nodupB, treeOf, kidAbs, kidRows, TK.isCell, D.toL, oLoad, oStore, oMake, oIndexAddr, ↓reduceIte, reduceCtorEq, Nat.reduceBEq, Nat.reduceAdd, Nat.reduceMul, Nat.reduceLT, Nat.reduceSub, Nat.reduceLeDiff, Nat.reduceEqDiff, Nat.reduceBneDiff, Int.reduceToNat, decide_eq_true_eq, decide_eq_false_iff_not, beq_iff_eq, Int.toNat_natCast]
        exact ⟨⟨_, rfl, hm⟩, ⟨_, rfl, hn⟩, ⟨_, rfl, hm⟩, _, [(0, some _)], rfl, ⟨⟨⟨rfl, rfl, rfl⟩, trivial⟩, ⟨.inl rfl, rfl, rfl, rfl, trivial⟩, by simp [rn, hpAt]⟩⟩
      · have hl4 := (posB_iff.1 hb).1
        have e1 : plB l x = true := by rw [plB, hb, hx, ha, decide_eq_true (show l.length < 4 by omega)]; rfl
        have e2 : plV l x = insP l x := by rw [plV, if_pos (by rw [hb, hx]; rfl), if_pos e1]
        have h4b : ((l.length : Int) == 4) = false := by rw [beq_eq_false_iff_ne]; omega
        have h4c : ((l.length : Int) = 4) = False := eq_false (by omega)
        rw [e1, e2]
        simp (maxSteps := 3000000) only [Try.f31, pol, g_portsOk, g_isPort, g_portAt, g_portsCopied, g_portsWith, poRows_len, posOf_rows, Bool.not_true, Bool.not_false, hb, hx, poI_none ha, hge, h4b, h4c, ↓reduceIte, Bool.false_eq_true, tYs, evL, implies_true, oMin, oCopy, oBin, oUn, oLoadKid, oStoreTree, oField, oExtract, oNil, oSliceQ, oLoadRow, takeCells, TS.atRow, TS.ex, treeMode, AV.isOwn, TK.isSl, nilTk, nilsB, oLenQ, oLen, nodupB, treeOf, kidAbs, kidRows, TK.isCell, D.toL, oLoad, oStore, oMake, oIndexAddr, ↓reduceIte, reduceCtorEq, Nat.reduceBEq, Nat.reduceAdd, Nat.reduceMul, Nat.reduceLT, Nat.reduceSub, Nat.reduceLeDiff, Nat.reduceEqDiff, Nat.reduceBneDiff, Int.reduceToNat, decide_eq_true_eq, decide_eq_false_iff_not, beq_iff_eq, Int.toNat_natCast]
        exact ⟨⟨_, rfl, hm⟩, ⟨_, rfl, hn⟩, ⟨_, rfl, hm, poAt_none.1 ha⟩, _, [(0, some _)], rfl, ⟨⟨⟨rfl, rfl, rfl⟩, trivial⟩, ⟨.inl rfl, rfl, rfl, rfl, trivial⟩, by simp [rn, hpAt]⟩⟩
  · cases hg
def prB (f t p h i a : Int) (m u : Bool) (n : Nat) (o : Int) : Bool := pkB f t p h i a m u n && decide (t = o) && decide (a = 0) && !m
def miOk (f t p h i a : Int) (m u : Bool) (xs : List UInt8) (o : Int) : Bool := prB f t p h i a m u xs.length o && decide (p = 2) && mfOk f o xs
def g_reached : PC := fun args => match args with
  | [.agg [.v (.int .i64 f), .v (.int .i64 t), .v (.int .i64 p), .v (.int .i64 h), .v (.int .i64 i), .v (.int .i64 a), .v (.bool m), .v (.bool u), .l _ rows], .v (.int .i64 o)] => some (True, .v (.bool (prB f t p h i a m u rows.length o)), [])
  | _ => none
def g_mailIn : PC := fun args => match args with
  | [.agg [.v (.int .i64 f), .v (.int .i64 t), .v (.int .i64 p), .v (.int .i64 h), .v (.int .i64 i), .v (.int .i64 a), .v (.bool m), .v (.bool u), .l _ rows], .v (.int .i64 o)] => some (∃ xs, rows = rowsOfBytes xs ∧ xs.length ≤ 1048576, .tup [.agg [.v (.int .i64 (if miOk f t p h i a m u (bytesOfRows rows) o = true then f else 0)), .v (.int .i64 (if miOk f t p h i a m u (bytesOfRows rows) o = true then (((bytesOfRows rows).getD 0 0).toNat : Int) else 0)), .v (.int .i64 (if miOk f t p h i a m u (bytesOfRows rows) o = true then (((bytesOfRows rows).getD 1 0).toNat : Int) else 0)), .own 0], .v (.bool (miOk f t p h i a m u (bytesOfRows rows) o))], [.sl 5 1 (rowsOfBytes (if miOk f t p h i a m u (bytesOfRows rows) o = true then ((bytesOfRows rows).drop 3).take ((bytesOfRows rows).length - 5) else []))])
  | _ => none
def g_portHear : PC := fun args => match args with
  | [.l _ rows', .v (.int .i64 o), .agg [.v (.int .i64 f), .v (.int .i64 t), .v (.int .i64 p), .v (.int .i64 h), .v (.int .i64 i), .v (.int .i64 a), .v (.bool m), .v (.bool u), .l _ rows]] => some ((∃ l, rows' = poRows l ∧ poMid l) ∧ ∃ xs, rows = rowsOfBytes xs ∧ xs.length ≤ 1048576, .tup [.own 0, .v (.int .i64 (pHearN (posOf rows') o ⟨f, t, p, h, i, a, m, u, bytesOfRows rows⟩))], [.tr .whole 53 2 [.cell, .sl 24 4 [.cell, .cell, .cell, .sl 5 1 [.cell]]] (poRows (pHearV (posOf rows') o ⟨f, t, p, h, i, a, m, u, bytesOfRows rows⟩))])
  | _ => none
def prc : List (FuncId × Abs) := [(97, pureAbs g_packetOk)]
theorem prc_ok : ∀ p ∈ prc, CallOk Try.prog p.1 p.2 := by
  intro p hp
  simp only [prc, List.mem_cons, List.not_mem_nil, or_false] at hp
  rcases hp with rfl
  · exact implPacketOk_ok.call
set_option maxRecDepth 100000 in
theorem packetReached_ok : PureOk Try.prog 90 g_reached := by
  refine PureOk.of_vc (G := prc) prc_ok mixed Try.func90 (by kernel_rfl) rfl ?_
  intro args cnd r bs hg hc
  unfold g_reached at hg
  split at hg
  · rename_i f t p h i a m u sz rows o
    cases hg
    refine ⟨⟨rfl, by simp, by simp [AV.ids, AV.ids.idsL]⟩, _, rfl, fun w vs h => h, ?_⟩
    simp (maxSteps := 3000000) only [Try.f90, prc, g_packetOk, tYs, evL, implies_true, oMin, oCopy, oBin, oUn, oLoadKid, oStoreTree, oField, oExtract, oNil, oSliceQ, oLoadRow, takeCells, TS.atRow, TS.ex, treeMode, AV.isOwn, TK.isSl, nilTk, nilsB, oLenQ, oLen, nodupB, treeOf, kidAbs, kidRows, TK.isCell, D.toL, oLoad, oStore, oMake, oIndexAddr, ↓reduceIte, reduceCtorEq, Nat.reduceBEq, Nat.reduceAdd, Nat.reduceMul, Nat.reduceLT, Nat.reduceSub, Nat.reduceLeDiff, Nat.reduceEqDiff, Nat.reduceBneDiff, Int.reduceToNat, decide_eq_true_eq, decide_eq_false_iff_not, beq_iff_eq, Int.toNat_natCast]
    rcases hB : pkB f t p h i a m u rows.length with _ | _
    · rw [if_neg (by simp), prB, hB]
      exact ⟨_, [], rfl, ⟨⟨⟨rfl, rfl, rfl⟩, trivial⟩, trivial, by simp [rn, hpAt]⟩⟩
    rw [if_pos rfl]
    by_cases h1 : t = o
    · rw [if_pos h1]
      by_cases h2 : a = 0
      · rw [if_pos h2, prB, hB, decide_eq_true h1, decide_eq_true h2]
        exact ⟨_, [], rfl, ⟨⟨⟨rfl, rfl, rfl⟩, trivial⟩, trivial, by simp [rn, hpAt]⟩⟩
      · rw [if_neg h2, prB, hB, decide_eq_true h1, decide_eq_false h2]
        exact ⟨_, [], rfl, ⟨⟨⟨rfl, rfl, rfl⟩, trivial⟩, trivial, by simp [rn, hpAt]⟩⟩
    · rw [if_neg h1, prB, hB, decide_eq_false h1]
      exact ⟨_, [], rfl, ⟨⟨⟨rfl, rfl, rfl⟩, trivial⟩, trivial, by simp [rn, hpAt]⟩⟩
  · cases hg
def mic : List (FuncId × Abs) := [(90, pureAbs g_reached), (23, pureAbs g_mailFrom)]
theorem mic_ok : ∀ p ∈ mic, CallOk Try.prog p.1 p.2 := by
  intro p hp
  simp only [mic, List.mem_cons, List.not_mem_nil, or_false] at hp
  rcases hp with rfl | rfl
  · exact packetReached_ok.call
  · exact implMailFrom_ok.call
set_option maxHeartbeats 1000000 in
set_option maxRecDepth 100000 in
theorem mailIn_ok : PureOk Try.prog 75 g_mailIn := by
  refine PureOk.of_vc (G := mic) mic_ok mixed Try.func75 (by kernel_rfl) rfl ?_
  intro args cnd r bs hg hc
  unfold g_mailIn at hg
  split at hg
  · rename_i f t p h i a m u sz rows o
    cases hg
    obtain ⟨xs, rfl, hl⟩ := hc
    rw [bytesOf_rows]
    refine ⟨⟨rfl, by simpa [flatB] using rowsOf_flat (if miOk f t p h i a m u xs o = true then (xs.drop 3).take (xs.length - 5) else []), by simp [AV.ids, AV.ids.idsL]⟩, [.agg [.v (.int .i64 f), .v (.int .i64 t), .v (.int .i64 p), .v (.int .i64 h), .v (.int .i64 i), .v (.int .i64 a), .v (.bool m), .v (.bool u), (.l 1 (rowsOfBytes xs))], .v (.int .i64 o)], rfl, fun w vs h => CvL.ok (.cons (.cons (.refl _) (.cons (.refl _) (.cons (.refl _) (.cons (.refl _) (.cons (.refl _) (.cons (.refl _) (.cons (.refl _) (.cons (.refl _) (.cons (.l _ _ _ (rowsOf_w xs)) .nil))))))))) (.cons (.refl _) .nil)) h, ?_⟩
    rcases hr : prB f t p h i a m u xs.length o with _ | _
    · have e : miOk f t p h i a m u xs o = false := by rw [miOk, hr]; rfl
      rw [e]
      simp (maxSteps := 3000000) only [Try.f75, mic, g_reached, g_mailFrom, bytesOf_rows, rowsOf_len, Bool.not_true, Bool.not_false, hr, rowsOf_nil, ↓reduceIte, Bool.false_eq_true, tYs, evL, implies_true, oMin, oCopy, oBin, oUn, oLoadKid, oStoreTree, oField, oExtract, oNil, oSliceQ, oLoadRow, takeCells, TS.atRow, TS.ex, treeMode, AV.isOwn, TK.isSl, nilTk, nilsB, oLenQ, oLen, nodupB, treeOf, kidAbs, kidRows, TK.isCell, D.toL, oLoad, oStore, oMake, oIndexAddr, ↓reduceIte, reduceCtorEq, Nat.reduceBEq, Nat.reduceAdd, Nat.reduceMul, Nat.reduceLT, Nat.reduceSub, Nat.reduceLeDiff, Nat.reduceEqDiff, Nat.reduceBneDiff, Int.reduceToNat, decide_eq_true_eq, decide_eq_false_iff_not, beq_iff_eq, Int.toNat_natCast]
      exact ⟨_, [(0, none)], rfl, ⟨⟨⟨rfl, rfl, rfl⟩, trivial⟩, ⟨⟨by omega, rfl⟩, rfl, rfl, rfl, trivial⟩, by simp [rn, hpAt]⟩⟩
    by_cases hp : p = 2
    · have hp2 : (p != 2) = false := by simp [hp]
      have e : miOk f t p h i a m u xs o = mfOk f o xs := by rw [miOk, hr, decide_eq_true hp]; rfl
      rw [e]
      simp (maxSteps := 3000000) only [Try.f75, mic, g_reached, g_mailFrom, bytesOf_rows, rowsOf_len, Bool.not_true, Bool.not_false, hr, hp2, ↓reduceIte, Bool.false_eq_true, tYs, evL, implies_true, oMin, oCopy, oBin, oUn, oLoadKid, oStoreTree, oField, oExtract, oNil, oSliceQ, oLoadRow, takeCells, TS.atRow, TS.ex, treeMode, AV.isOwn, TK.isSl, nilTk, nilsB, oLenQ, oLen, nodupB, treeOf, kidAbs, kidRows, TK.isCell, D.toL, oLoad, oStore, oMake, oIndexAddr, ↓reduceIte, reduceCtorEq, Nat.reduceBEq, Nat.reduceAdd, Nat.reduceMul, Nat.reduceLT, Nat.reduceSub, Nat.reduceLeDiff, Nat.reduceEqDiff, Nat.reduceBneDiff, Int.reduceToNat, decide_eq_true_eq, decide_eq_false_iff_not, beq_iff_eq, Int.toNat_natCast]
      rcases hq : mfOk f o xs with _ | _
      · obtain ⟨n1, n2, n3, n4⟩ := mf_neg hq
        rw [n1, n2, n3, n4]
        exact ⟨⟨_, rfl, hl⟩, _, [(0, some _)], rfl, ⟨⟨⟨rfl, rfl, rfl⟩, trivial⟩, ⟨.inl rfl, rfl, rfl, rfl, trivial⟩, by simp [rn, hpAt]⟩⟩
      · obtain ⟨n1, n2, n3, n4⟩ := mf_pos hq
        rw [n1, n2, n3, n4]
        exact ⟨⟨_, rfl, hl⟩, _, [(0, some _)], rfl, ⟨⟨⟨rfl, rfl, rfl⟩, trivial⟩, ⟨.inl rfl, rfl, rfl, rfl, trivial⟩, by simp [rn, hpAt]⟩⟩
    · have hp2 : (p != 2) = true := by simp [hp]
      have e : miOk f t p h i a m u xs o = false := by rw [miOk, decide_eq_false hp, Bool.and_false, Bool.false_and]
      rw [e]
      simp (maxSteps := 3000000) only [Try.f75, mic, g_reached, g_mailFrom, bytesOf_rows, rowsOf_len, Bool.not_true, Bool.not_false, hr, hp2, rowsOf_nil, ↓reduceIte, Bool.false_eq_true, tYs, evL, implies_true, oMin, oCopy, oBin, oUn, oLoadKid, oStoreTree, oField, oExtract, oNil, oSliceQ, oLoadRow, takeCells, TS.atRow, TS.ex, treeMode, AV.isOwn, TK.isSl, nilTk, nilsB, oLenQ, oLen, nodupB, treeOf, kidAbs, kidRows, TK.isCell, D.toL, oLoad, oStore, oMake, oIndexAddr, ↓reduceIte, reduceCtorEq, Nat.reduceBEq, Nat.reduceAdd, Nat.reduceMul, Nat.reduceLT, Nat.reduceSub, Nat.reduceLeDiff, Nat.reduceEqDiff, Nat.reduceBneDiff, Int.reduceToNat, decide_eq_true_eq, decide_eq_false_iff_not, beq_iff_eq, Int.toNat_natCast]
      exact ⟨_, [(0, none)], rfl, ⟨⟨⟨rfl, rfl, rfl⟩, trivial⟩, ⟨⟨by omega, rfl⟩, rfl, rfl, rfl, trivial⟩, by simp [rn, hpAt]⟩⟩
  · cases hg
def g_mailInT : PC := fun args => match args with
  | [.agg [.v (.int .i64 f), .v (.int .i64 t), .v (.int .i64 p), .v (.int .i64 h), .v (.int .i64 i), .v (.int .i64 a), .v (.bool m), .v (.bool u), .l _ rows], .v (.int .i64 o)] => some (∃ xs, rows = rowsOfBytes xs ∧ xs.length ≤ 1048576, .tup [.agg [.v (.int .i64 (if miOk f t p h i a m u (bytesOfRows rows) o = true then f else 0)), .v (.int .i64 (if miOk f t p h i a m u (bytesOfRows rows) o = true then (((bytesOfRows rows).getD 0 0).toNat : Int) else 0)), .v (.int .i64 (if miOk f t p h i a m u (bytesOfRows rows) o = true then (((bytesOfRows rows).getD 1 0).toNat : Int) else 0)), .own 0], .v (.bool (miOk f t p h i a m u (bytesOfRows rows) o))], [.tr .whole 5 1 [.cell] (rowsOfBytes (if miOk f t p h i a m u (bytesOfRows rows) o = true then ((bytesOfRows rows).drop 3).take ((bytesOfRows rows).length - 5) else []))])
  | _ => none
theorem mailInT_ok : PureOk Try.prog 75 g_mailInT := mailIn_ok.toTree fun args c r bs' h => by
  unfold g_mailInT at h
  split at h
  · cases h; exact ⟨_, rfl, rfl⟩
  · cases h
def phc : List (FuncId × Abs) := [(28, pureAbs g_portsOk), (70, pureAbs g_portsCopied), (75, pureAbs g_mailInT), (69, pureAbs g_portAt)]
theorem phc_ok : ∀ p ∈ phc, CallOk Try.prog p.1 p.2 := by
  intro p hp
  simp only [phc, List.mem_cons, List.not_mem_nil, or_false] at hp
  rcases hp with rfl | rfl | rfl | rfl
  · exact implPortsOk_ok.call
  · exact portsCopied_ok.call
  · exact mailInT_ok.call
  · exact portAt_ok.call
theorem ph_ok {l : List Po} {f t p h i a o : Int} {m u : Bool} {xs : List UInt8} (hb : posB l = true) : phOkP l o ⟨f, t, p, h, i, a, m, u, xs⟩ = miOk f t p h i a m u xs o := by
  rw [phOkP, miOk, prB, hb, Bool.true_and, Bool.eq_iff_iff]
  simp only [Pk.ok, Bool.and_eq_true, decide_eq_true_eq]
  constructor
  · rintro ⟨⟨⟨⟨⟨h1, h2⟩, h3⟩, h4⟩, h5⟩, h6⟩
    have h7 : 0 ≤ a := by
      simp only [pkB, pkR, Bool.and_eq_true, decide_eq_true_eq] at h1
      omega
    subst h3
    exact ⟨⟨⟨⟨⟨h1, rfl⟩, by omega⟩, h5⟩, h2⟩, h6⟩
  · rintro ⟨⟨⟨⟨⟨h1, h2⟩, h3⟩, h4⟩, h5⟩, h6⟩
    subst h2
    exact ⟨⟨⟨⟨⟨h1, h5⟩, rfl⟩, by omega⟩, h4⟩, h6⟩
theorem hearN_of {l : List Po} {o : Int} {x : Pk} (h : phOkP l o x = true) : pHearN l o x = (match poAt l (mfM x.f x.d).t with | none => 3 | some n => if (l.getD n po0).row.length = 3 then 0 else 1) := if_pos h
theorem hearN_no {l : List Po} {o : Int} {x : Pk} (h : phOkP l o x = false) : pHearN l o x = 0 := if_neg (by rw [h]; decide)
set_option maxHeartbeats 4000000 in
set_option maxRecDepth 100000 in
theorem implPortHear_ok : PureOk Try.prog 35 g_portHear := by
  refine PureOk.of_vc (G := phc) phc_ok mixed Try.func35 (by kernel_rfl) rfl ?_
  intro args cnd r bs hg hc
  unfold g_portHear at hg
  split at hg
  · rename_i sz' rows' o f t p h i a m u sz rows
    cases hg
    obtain ⟨⟨l, rfl, hm⟩, xs, rfl, hl⟩ := hc
    rw [posOf_rows, bytesOf_rows]
    have hn := hm.1
    refine ⟨⟨rfl, by simp [flatB], by simp [AV.ids, AV.ids.idsL]⟩, [.l 2 (poRows l), .v (.int .i64 o), .agg [.v (.int .i64 f), .v (.int .i64 t), .v (.int .i64 p), .v (.int .i64 h), .v (.int .i64 i), .v (.int .i64 a), .v (.bool m), .v (.bool u), (.l 1 (rowsOfBytes xs))]], rfl, fun w vs h => CvL.ok (.cons (.l _ _ _ (poRows_w l)) (.cons (.refl _) (.cons (.cons (.refl _) (.cons (.refl _) (.cons (.refl _) (.cons (.refl _) (.cons (.refl _) (.cons (.refl _) (.cons (.refl _) (.cons (.refl _) (.cons (.l _ _ _ (rowsOf_w xs)) .nil))))))))) .nil))) h, ?_⟩
    rcases hb : posB l with _ | _
    · have e0 : phOkP l o ⟨f, t, p, h, i, a, m, u, xs⟩ = false := by rw [phOkP, hb]; rfl
      have e2 : pHearV l o ⟨f, t, p, h, i, a, m, u, xs⟩ = [] := by rw [pHearV, if_neg (by rw [hb]; simp)]
      rw [hearN_no e0, e2]
      simp (maxSteps := 3000000) only [Try.f35, phc, g_portsOk, g_portsCopied, g_mailInT, g_portAt, bytesOf_rows, rowsOf_len, poRows_len, mRows_len, posOf_rows, Bool.not_true, Bool.not_false, D.toI, D.toL, poRow, hb, ↓reduceIte, Bool.false_eq_true, tYs, evL, implies_true, oMin, oCopy, oBin, oUn, oLoadKid, oStoreTree, oField, oExtract, oNil, oSliceQ, oLoadRow, takeCells, TS.atRow, TS.ex, treeMode, AV.isOwn, TK.isSl, nilTk, nilsB, oLenQ, oLen, nodupB, treeOf, kidAbs, kidRows, TK.isCell, D.toL, oLoad, oStore, oMake, oIndexAddr, ↓reduceIte, reduceCtorEq, Nat.reduceBEq, Nat.reduceAdd, Nat.reduceMul, Nat.reduceLT, Nat.reduceSub, Nat.reduceLeDiff, Nat.reduceEqDiff, Nat.reduceBneDiff, Int.reduceToNat, decide_eq_true_eq, decide_eq_false_iff_not, beq_iff_eq, Int.toNat_natCast]
      exact ⟨⟨_, rfl, hm⟩, _, [(0, none)], rfl, ⟨⟨⟨rfl, rfl, rfl⟩, trivial⟩, ⟨⟨by omega, rfl, rfl⟩, rfl, rfl, rfl, trivial⟩, by simp [rn, hpAt]⟩⟩
    have hph := ph_ok (f := f) (t := t) (p := p) (h := h) (i := i) (a := a) (o := o) (m := m) (u := u) (xs := xs) hb
    rcases hq : miOk f t p h i a m u xs o with _ | _
    · rw [hq] at hph
      have e2 : pHearV l o ⟨f, t, p, h, i, a, m, u, xs⟩ = l := hear_else hb (by rw [hearN_no hph]; decide)
      rw [hearN_no hph, e2]
      simp (maxSteps := 3000000) only [Try.f35, phc, g_portsOk, g_portsCopied, g_mailInT, g_portAt, bytesOf_rows, rowsOf_len, poRows_len, mRows_len, posOf_rows, Bool.not_true, Bool.not_false, D.toI, D.toL, poRow, hb, hq, rowsOf_nil, ↓reduceIte, Bool.false_eq_true, tYs, evL, implies_true, oMin, oCopy, oBin, oUn, oLoadKid, oStoreTree, oField, oExtract, oNil, oSliceQ, oLoadRow, takeCells, TS.atRow, TS.ex, treeMode, AV.isOwn, TK.isSl, nilTk, nilsB, oLenQ, oLen, nodupB, treeOf, kidAbs, kidRows, TK.isCell, D.toL, oLoad, oStore, oMake, oIndexAddr, ↓reduceIte, reduceCtorEq, Nat.reduceBEq, Nat.reduceAdd, Nat.reduceMul, Nat.reduceLT, Nat.reduceSub, Nat.reduceLeDiff, Nat.reduceEqDiff, Nat.reduceBneDiff, Int.reduceToNat, decide_eq_true_eq, decide_eq_false_iff_not, beq_iff_eq, Int.toNat_natCast]
      exact ⟨⟨_, rfl, hm⟩, ⟨_, rfl, hm⟩, ⟨_, rfl, hl⟩, _, [(0, some _)], rfl, ⟨⟨⟨rfl, rfl, rfl⟩, trivial⟩, ⟨.inl rfl, rfl, rfl, rfl, trivial⟩, by simp [rn, hpAt]⟩⟩
    rw [hq] at hph
    have hN := hearN_of hph
    have hM : (mfM f xs).t = ((xs.getD 1 0).toNat : Int) := rfl
    dsimp only at hN
    rw [hM] at hN
    cases ha : poAt l ((xs.getD 1 0).toNat : Int) with
    | none =>
      rw [ha] at hN
      dsimp only at hN
      have e2 : pHearV l o ⟨f, t, p, h, i, a, m, u, xs⟩ = l := hear_else hb (by rw [hN]; decide)
      have hlt : ((-1 : Int) < 0) = True := eq_true (by omega)
      rw [hN, e2]
      simp (maxSteps := 3000000) only [Try.f35, phc, g_portsOk, g_portsCopied, g_mailInT, g_portAt, bytesOf_rows, rowsOf_len, poRows_len, mRows_len, posOf_rows, Bool.not_true, Bool.not_false, D.toI, D.toL, poRow, hb, hq, poI_none ha, hlt, ↓reduceIte, Bool.false_eq_true, tYs, evL, implies_true, oMin, oCopy, oBin, oUn, oLoadKid, oStoreTree, oField, oExtract, oNil, oSliceQ, oLoadRow, takeCells, TS.atRow, TS.ex, treeMode, AV.isOwn, TK.isSl, nilTk, nilsB, oLenQ, oLen, nodupB, treeOf, kidAbs, kidRows, TK.isCell, D.toL, oLoad, oStore, oMake, oIndexAddr, ↓reduceIte, reduceCtorEq, Nat.reduceBEq, Nat.reduceAdd, Nat.reduceMul, Nat.reduceLT, Nat.reduceSub, Nat.reduceLeDiff, Nat.reduceEqDiff, Nat.reduceBneDiff, Int.reduceToNat, decide_eq_true_eq, decide_eq_false_iff_not, beq_iff_eq, Int.toNat_natCast]
      exact ⟨⟨_, rfl, hm⟩, ⟨_, rfl, hm⟩, ⟨_, rfl, hl⟩, ⟨_, rfl, hn⟩, _, [(0, some _)], rfl, ⟨⟨⟨rfl, rfl, rfl⟩, trivial⟩, ⟨.inl rfl, rfl, rfl, rfl, trivial⟩, by simp [rn, hpAt]⟩⟩
    | some n =>
      rw [ha] at hN
      dsimp only at hN
      obtain ⟨hnl, hnx⟩ := poAt_some ha
      have hx := hm.2 l[n] (List.getElem_mem hnl)
      have hlt : ((n : Int) < 0) = False := eq_false (by omega)
      have hrow := poRows_get l n hnl
      rw [po_get hnl] at hN
      have eS : (poRows l).set n [.v (.int .i64 l[n].n), .l 4 (mRows l[n].row)] = poRows l := by
        rw [poRows_set, List.set_getElem_self]
      by_cases h3 : l[n].row.length = 3
      · rw [if_pos h3] at hN
        have e2 : pHearV l o ⟨f, t, p, h, i, a, m, u, xs⟩ = l := hear_else hb (by rw [hN]; decide)
        have h3b : ((l[n].row.length : Int) == 3) = true := beq_iff_eq.2 (by omega)
        rw [hN, e2]
        simp (maxSteps := 3000000) only [Try.f35, phc, g_portsOk, g_portsCopied, g_mailInT, g_portAt, bytesOf_rows, rowsOf_len, poRows_len, mRows_len, posOf_rows, Bool.not_true, Bool.not_false, D.toI, D.toL, poRow, hb, hq, poI_some ha, hlt, hrow, h3b, eS, Int.toNat_natCast, ↓reduceIte, Bool.false_eq_true, tYs, evL, implies_true, oMin, oCopy, oBin, oUn, oLoadKid, oStoreTree, oField, oExtract, oNil, oSliceQ, oLoadRow, takeCells, TS.atRow, TS.ex, treeMode, AV.isOwn, TK.isSl, nilTk, nilsB, oLenQ, oLen, nodupB, treeOf, kidAbs, kidRows, TK.isCell, D.toL, oLoad, oStore, oMake, oIndexAddr, ↓reduceIte, reduceCtorEq, Nat.reduceBEq, Nat.reduceAdd, Nat.reduceMul, Nat.reduceLT, Nat.reduceSub, Nat.reduceLeDiff, Nat.reduceEqDiff, Nat.reduceBneDiff, Int.reduceToNat, decide_eq_true_eq, decide_eq_false_iff_not, beq_iff_eq, Int.toNat_natCast]
        exact ⟨⟨_, rfl, hm⟩, ⟨_, rfl, hm⟩, ⟨_, rfl, hl⟩, ⟨_, rfl, hn⟩, ⟨by omega, by omega⟩, hnl, _, [(0, some _)], rfl, ⟨⟨⟨rfl, rfl, rfl⟩, trivial⟩, ⟨.inl rfl, rfl, rfl, rfl, trivial⟩, by simp [rn, hpAt]⟩⟩
      · rw [if_neg h3] at hN
        have h3b : ((l[n].row.length : Int) == 3) = false := by rw [beq_eq_false_iff_ne]; omega
        have e2 : pHearV l o ⟨f, t, p, h, i, a, m, u, xs⟩ = putM l n (mfM f xs) := by
          rw [pHearV, if_pos hb, if_pos hN]
          dsimp only
          rw [hM, ha]
        have e3 : mRows l[n].row ++ [[D.v (.int .i64 f), D.v (.int .i64 ((xs.getD 0 0).toNat : Int)), D.v (.int .i64 ((xs.getD 1 0).toNat : Int)), D.l 1 (rowsOfBytes ((xs.drop 3).take (xs.length - 5)))]] = mRows (l[n].row ++ [mfM f xs]) := by
          rw [← mRows_app]; rfl
        have e4 : (poRows l).set n [.v (.int .i64 l[n].n), .l 4 (mRows (l[n].row ++ [mfM f xs]))] = poRows (putM l n (mfM f xs)) := by
          rw [putM, po_get hnl, ← poRows_set]
        rw [hN, e2]
        simp (maxSteps := 3000000) only [Try.f35, phc, g_portsOk, g_portsCopied, g_mailInT, g_portAt, bytesOf_rows, rowsOf_len, poRows_len, mRows_len, posOf_rows, Bool.not_true, Bool.not_false, D.toI, D.toL, poRow, hb, hq, poI_some ha, hlt, hrow, h3b, eS, e3, e4, Int.toNat_natCast, ↓reduceIte, Bool.false_eq_true, tYs, evL, implies_true, oMin, oCopy, oBin, oUn, oLoadKid, oStoreTree, oField, oExtract, oNil, oSliceQ, oLoadRow, takeCells, TS.atRow, TS.ex, treeMode, AV.isOwn, TK.isSl, nilTk, nilsB, oLenQ, oLen, nodupB, treeOf, kidAbs, kidRows, TK.isCell, D.toL, oLoad, oStore, oMake, oIndexAddr, ↓reduceIte, reduceCtorEq, Nat.reduceBEq, Nat.reduceAdd, Nat.reduceMul, Nat.reduceLT, Nat.reduceSub, Nat.reduceLeDiff, Nat.reduceEqDiff, Nat.reduceBneDiff, Int.reduceToNat, decide_eq_true_eq, decide_eq_false_iff_not, beq_iff_eq, Int.toNat_natCast]
        have hx1 := hx.1
        refine ⟨⟨_, rfl, hm⟩, ⟨_, rfl, hm⟩, ⟨_, rfl, hl⟩, ⟨_, rfl, hn⟩, ⟨by omega, by omega⟩, hnl, ⟨by omega, by omega⟩, hnl, ⟨by omega, by omega⟩, ⟨by omega, by omega⟩, hnl, by kernel_rfl, ?_⟩
        exact ⟨_, [(0, some _)], rfl, ⟨⟨⟨rfl, rfl, rfl⟩, trivial⟩, ⟨.inl rfl, rfl, rfl, rfl, trivial⟩, by simp [rn, hpAt]⟩⟩
  · cases hg
end Go.Proofs.Ytknnobnedepinaa
