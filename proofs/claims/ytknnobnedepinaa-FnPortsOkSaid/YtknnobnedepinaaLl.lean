import Derived.Test.YtknnobnedepinaaLk
set_option linter.unusedVariables false
set_option linter.unusedSimpArgs false
namespace Go.Proofs.Ytknnobnedepinaa
open Go.RowKit
set_option linter.unusedSimpArgs false
def g_samePorts : PC := fun args => match args with
  | [.l _ rows, .l _ rows'] => some (∃ l, rows = poRows l ∧ rows' = poRows l ∧ poMid l, .v (.bool true), [])
  | _ => none
def spp : List (FuncId × Abs) := [(24, pureAbs g_sameMail)]
theorem spp_ok : ∀ p ∈ spp, CallOk Try.prog p.1 p.2 := by
  intro p hp
  simp only [spp, List.mem_cons, List.not_mem_nil, or_false] at hp
  rcases hp with rfl
  · exact sameMail_ok.call
set_option maxHeartbeats 4000000 in
set_option maxRecDepth 100000 in
theorem samePorts_ok : PureOk Try.prog 33 g_samePorts := by
  refine PureOk.of_vc (G := spp) spp_ok mixed Try.func33 (by kernel_rfl) rfl ?_
  intro args cnd r bs hg hc
  unfold g_samePorts at hg
  split at hg
  · rename_i sz rows sz' rows'
    cases hg
    obtain ⟨l, rfl, rfl, hm⟩ := hc
    have hnn := hm.1
    refine ⟨⟨rfl, by simp, by simp [AV.ids, AV.ids.idsL]⟩, [.l 2 (poRows l), .l 2 (poRows l)], rfl, fun w vs h => CvL.ok (.cons (.l _ _ _ (poRows_w l)) (.cons (.l _ _ _ (poRows_w l)) .nil)) h, ?_⟩
    simp (maxSteps := 3000000) only [Try.f33, spp, poRows_len, bne_self_eq_false, Bool.false_eq_true, ↓reduceIte, tYs, evL, implies_true, oMin, oCopy, oBin, oUn, oLoadKid, oStoreTree, oField, oExtract, oNil, oSliceQ, oLoadRow, takeCells, TS.atRow, TS.ex, treeMode, AV.isOwn, TK.isSl, nilTk, nilsB, oLenQ, oLen, nodupB, treeOf, kidAbs, kidRows, TK.isCell, D.toL, oLoad, oStore, oMake, oIndexAddr, ↓reduceIte, reduceCtorEq, Nat.reduceBEq, Nat.reduceAdd, Nat.reduceMul, Nat.reduceLT, Nat.reduceSub, Nat.reduceLeDiff, Nat.reduceEqDiff, Nat.reduceBneDiff, Int.reduceToNat, decide_eq_true_eq, decide_eq_false_iff_not, beq_iff_eq, Int.toNat_natCast]
    refine e_loop _ _ _ _ _ _ _ _ (fun k : Nat => [.l 2 (poRows l), .l 2 (poRows l), .any, .any, .any, .v (.int .i64 (k : Int))] ++ List.replicate (Try.f33.ntmps - 6) .any) (fun k => []) (fun k => k ≤ l.length) (fun k => l.length - k) 0 (fun k => by simp) ?_ fun k hk' => ?_
    · exact ⟨0, [], Nat.zero_le _, ⟨⟨⟨rfl, rfl, rfl⟩, ⟨rfl, rfl, rfl⟩, trivial, trivial, trivial, ⟨rfl, rfl, rfl⟩, fitT_rep _ _ rfl⟩, trivial, by simp [rn, hpAt]⟩, by simp [keepIds]⟩
    have hk1 := hk'
    have w2 : IntKind.i64.wrap ((k : Int) + 1) = ((k + 1 : Nat) : Int) := by rw [wrap_id] <;> omega
    by_cases hk : k < l.length
    · have hrow := poRows_get l k hk
      have hlt : ((k : Int) < (l.length : Int)) = True := eq_true (by omega)
      have h0 : (0 ≤ (k : Int)) = True := eq_true (by omega)
      have hx := hm.2 l[k] (List.getElem_mem hk)
      have hx1 := hx.1
      simp (maxSteps := 3000000) only [Try.f33, spp, g_sameMail, poRows_len, mRows_len, rowsOf_len, bytesOf_rows, posOf_rows, hrow, hlt, h0, w2, D.toI, D.toL, poRow, mlRow, Bool.not_true, Bool.not_false, ne_eq, bne_self_eq_false, and_self, decide_true, ↓reduceIte, Bool.false_eq_true, tYs, evL, implies_true, oMin, oCopy, oBin, oUn, oLoadKid, oStoreTree, oField, oExtract, oNil, oSliceQ, oLoadRow, takeCells, TS.atRow, TS.ex, treeMode, AV.isOwn, TK.isSl, nilTk, nilsB, oLenQ, oLen, nodupB, treeOf, kidAbs, kidRows, TK.isCell, D.toL, oLoad, oStore, oMake, oIndexAddr, ↓reduceIte, reduceCtorEq, Nat.reduceBEq, Nat.reduceAdd, Nat.reduceMul, Nat.reduceLT, Nat.reduceSub, Nat.reduceLeDiff, Nat.reduceEqDiff, Nat.reduceBneDiff, Int.reduceToNat, decide_eq_true_eq, decide_eq_false_iff_not, beq_iff_eq, Int.toNat_natCast, loopK_normal, loopK_exit, loopK_ret]
      refine ⟨by kernel_rfl, ?_⟩
      refine e_loop _ _ _ _ _ _ _ _ (fun j : Nat => [.l 2 (poRows l), .l 2 (poRows l), .any, .any, .any, .v (.int .i64 (k : Int)), .v (.int .i64 (j : Int))] ++ List.replicate (Try.f33.ntmps - 7) .any) (fun j => []) (fun j => j ≤ l[k].row.length) (fun j => l[k].row.length - j) 0 (fun j => by simp) ?_ fun j hj' => ?_
      · exact ⟨0, [], Nat.zero_le _, ⟨⟨⟨rfl, rfl, rfl⟩, ⟨rfl, rfl, rfl⟩, trivial, trivial, trivial, ⟨rfl, rfl, rfl⟩, ⟨rfl, rfl, rfl⟩, fitT_rep _ _ rfl⟩, trivial, by simp [rn, hpAt]⟩, by simp [keepIds]⟩
      have hj1 := hj'
      have wj : IntKind.i64.wrap ((j : Int) + 1) = ((j + 1 : Nat) : Int) := by rw [wrap_id] <;> omega
      by_cases hj : j < l[k].row.length
      · have hrm := mRows_get l[k].row j hj
        have hjl : ((j : Int) < (l[k].row.length : Int)) = True := eq_true (by omega)
        have hj0 : (0 ≤ (j : Int)) = True := eq_true (by omega)
        simp (maxSteps := 3000000) only [Try.f33, spp, g_sameMail, poRows_len, mRows_len, rowsOf_len, bytesOf_rows, posOf_rows, hrow, hlt, h0, hrm, hjl, hj0, wj, D.toI, D.toL, poRow, mlRow, Bool.not_true, Bool.not_false, ne_eq, bne_self_eq_false, and_self, decide_true, ↓reduceIte, Bool.false_eq_true, tYs, evL, implies_true, oMin, oCopy, oBin, oUn, oLoadKid, oStoreTree, oField, oExtract, oNil, oSliceQ, oLoadRow, takeCells, TS.atRow, TS.ex, treeMode, AV.isOwn, TK.isSl, nilTk, nilsB, oLenQ, oLen, nodupB, treeOf, kidAbs, kidRows, TK.isCell, D.toL, oLoad, oStore, oMake, oIndexAddr, ↓reduceIte, reduceCtorEq, Nat.reduceBEq, Nat.reduceAdd, Nat.reduceMul, Nat.reduceLT, Nat.reduceSub, Nat.reduceLeDiff, Nat.reduceEqDiff, Nat.reduceBneDiff, Int.reduceToNat, decide_eq_true_eq, decide_eq_false_iff_not, beq_iff_eq, Int.toNat_natCast, loopK_normal, loopK_exit, loopK_ret]
        refine ⟨⟨_, rfl⟩, by kernel_rfl, ?_⟩
        exact ⟨j + 1, [], by omega, by omega, ⟨⟨⟨rfl, rfl, rfl⟩, ⟨rfl, rfl, rfl⟩, trivial, trivial, trivial, ⟨rfl, rfl, rfl⟩, ⟨rfl, rfl, rfl⟩, fitT_rep _ _ rfl⟩, trivial, by simp [rn, hpAt]⟩, by simp [keepIds]⟩
      · have hjl : ((j : Int) < (l[k].row.length : Int)) = False := eq_false (by omega)
        simp (maxSteps := 3000000) only [Try.f33, spp, g_sameMail, poRows_len, mRows_len, rowsOf_len, bytesOf_rows, posOf_rows, hrow, hlt, h0, hjl, w2, D.toI, D.toL, poRow, mlRow, Bool.not_true, Bool.not_false, ne_eq, bne_self_eq_false, and_self, decide_true, ↓reduceIte, Bool.false_eq_true, tYs, evL, implies_true, oMin, oCopy, oBin, oUn, oLoadKid, oStoreTree, oField, oExtract, oNil, oSliceQ, oLoadRow, takeCells, TS.atRow, TS.ex, treeMode, AV.isOwn, TK.isSl, nilTk, nilsB, oLenQ, oLen, nodupB, treeOf, kidAbs, kidRows, TK.isCell, D.toL, oLoad, oStore, oMake, oIndexAddr, ↓reduceIte, reduceCtorEq, Nat.reduceBEq, Nat.reduceAdd, Nat.reduceMul, Nat.reduceLT, Nat.reduceSub, Nat.reduceLeDiff, Nat.reduceEqDiff, Nat.reduceBneDiff, Int.reduceToNat, decide_eq_true_eq, decide_eq_false_iff_not, beq_iff_eq, Int.toNat_natCast, loopK_normal, loopK_exit, loopK_ret]
        exact ⟨k + 1, [], by omega, by omega, ⟨⟨⟨rfl, rfl, rfl⟩, ⟨rfl, rfl, rfl⟩, trivial, trivial, trivial, ⟨rfl, rfl, rfl⟩, fitT_rep _ _ rfl⟩, trivial, by simp [rn, hpAt]⟩, by simp [keepIds]⟩
    · have hlt : ((k : Int) < (l.length : Int)) = False := eq_false (by omega)
      simp (maxSteps := 3000000) only [Try.f33, spp, g_sameMail, poRows_len, mRows_len, rowsOf_len, bytesOf_rows, posOf_rows, hlt, D.toI, D.toL, poRow, mlRow, Bool.not_true, Bool.not_false, ne_eq, bne_self_eq_false, and_self, decide_true, ↓reduceIte, Bool.false_eq_true, tYs, evL, implies_true, oMin, oCopy, oBin, oUn, oLoadKid, oStoreTree, oField, oExtract, oNil, oSliceQ, oLoadRow, takeCells, TS.atRow, TS.ex, treeMode, AV.isOwn, TK.isSl, nilTk, nilsB, oLenQ, oLen, nodupB, treeOf, kidAbs, kidRows, TK.isCell, D.toL, oLoad, oStore, oMake, oIndexAddr, ↓reduceIte, reduceCtorEq, Nat.reduceBEq, Nat.reduceAdd, Nat.reduceMul, Nat.reduceLT, Nat.reduceSub, Nat.reduceLeDiff, Nat.reduceEqDiff, Nat.reduceBneDiff, Int.reduceToNat, decide_eq_true_eq, decide_eq_false_iff_not, beq_iff_eq, Int.toNat_natCast, loopK_normal, loopK_exit, loopK_ret]
      exact ⟨_, [], rfl, ⟨⟨⟨rfl, rfl, rfl⟩, trivial⟩, trivial, by simp [rn, hpAt]⟩⟩
  · cases hg
def pktP (v : PkV) : Pk := ⟨v.f, v.t, v.pr, v.h, v.i, v.a, v.m, v.u, v.d⟩
def dhM (xs : List UInt8) : MlW := mwV xs (lpQ xs 0 15) 0
def dhX (xs : List UInt8) : Int := pickV xs (dhM xs).q 9
def dhP (xs : List UInt8) : Pk :=
  if dhX xs = 0 then pktP (pktV xs ((dhM xs).q + 1) 2)
  else if dhX xs = 1 then ⟨(dhM xs).a, 3, pickV xs ((dhM xs).q + 1) 4, 3, 0, 0, false, false, mlV (mwM (dhM xs)) 3⟩
  else if dhX xs = 2 then ⟨pickV xs ((dhM xs).q + 1) 5, 3, 2, 3, 0, 0, false, false, mlV (mwM (dhM xs)) 3⟩
  else ⟨(dhM xs).a, 3, 2, 3, 0, 0, false, false, mlV (mwM (dhM xs)) 3⟩
def g_drawPo : PC := fun args => match args with
  | [.l _ rows] => some (∃ xs, rows = rowsOfBytes xs, .l 2 (poRows (lpL ((bytesOfRows rows).take 2000) 0 2)), [])
  | _ => none
def g_drawPl : PC := fun args => match args with
  | [.l _ rows] => some (∃ xs, rows = rowsOfBytes xs, .tup [.l 2 (poRows (lpL ((bytesOfRows rows).take 2000) 0 15)), .v (.int .i64 (pickV ((bytesOfRows rows).take 2000) (lpQ ((bytesOfRows rows).take 2000) 0 15) 8))], [])
  | _ => none
def g_drawPh : PC := fun args => match args with
  | [.l _ rows] => some (∃ xs, rows = rowsOfBytes xs, .tup [.l 2 (poRows (lpL ((bytesOfRows rows).take 2000) 0 15)), .v (.int .i64 3), .agg [.v (.int .i64 (dhP ((bytesOfRows rows).take 2000)).f), .v (.int .i64 (dhP ((bytesOfRows rows).take 2000)).t), .v (.int .i64 (dhP ((bytesOfRows rows).take 2000)).p), .v (.int .i64 (dhP ((bytesOfRows rows).take 2000)).h), .v (.int .i64 (dhP ((bytesOfRows rows).take 2000)).i), .v (.int .i64 (dhP ((bytesOfRows rows).take 2000)).a), .v (.bool (dhP ((bytesOfRows rows).take 2000)).m), .v (.bool (dhP ((bytesOfRows rows).take 2000)).u), .l 1 (rowsOfBytes (dhP ((bytesOfRows rows).take 2000)).d)]], [])
  | _ => none
def ndp : List (FuncId × Abs) := [(56, ownAbs g_open), (61, ownAbs g_pick), (67, ownAbs g_ports), (55, ownAbs g_mail), (22, pureAbs g_mailBytes), (74, ownAbs g_packet)]
theorem ndp_ok : ∀ p ∈ ndp, CallOk Try.prog p.1 p.2 := by
  intro p hp
  simp only [ndp, List.mem_cons, List.not_mem_nil, or_false] at hp
  rcases hp with rfl | rfl | rfl | rfl | rfl | rfl
  · exact open_ok.call
  · exact pick_ok.call
  · exact l20Ports_ok.call
  · exact l20Mail_ok.call
  · exact specMailBytes_ok.call
  · exact packet_ok.call
set_option maxRecDepth 100000 in
theorem drawPortsOk_ok : OwnOk Try.prog 27 (ocOf g_drawPo) := by
  refine OwnOk.of_vcD (G := ndp) ndp_ok mixed Try.func27 (by kernel_rfl) rfl ?_
  intro args cnd r bs hg hc
  unfold g_drawPo at hg
  split at hg
  · rename_i sz rows
    cases hg
    obtain ⟨xs, rfl⟩ := hc
    rw [bytesOf_rows]
    have hx : (∃ ys, rowsOfBytes (List.take 2000 xs) = rowsOfBytes ys ∧ ys.length ≤ 2000) = True := eq_true ⟨_, rfl, by rw [List.length_take]; omega⟩
    refine ⟨⟨rfl, by simp [AV.ids, AV.ids.idsL]⟩, [.l 1 (rowsOfBytes xs)], rfl, fun w Z s vs h => CvL.ok (.cons (.l _ _ _ (rowsOf_w xs)) .nil) h, ?_⟩
    simp (maxSteps := 3000000) only [Try.f27, ndp, g_open, g_ports, bytesOf_rows, rowsOf_len, hx, tYs, evL, implies_true, oMin, oCopy, oBin, oUn, oLoadKid, oStoreTree, oField, oExtract, oNil, oSliceQ, oLoadRow, takeCells, TS.atRow, TS.ex, treeMode, AV.isOwn, TK.isSl, nilTk, nilsB, oLenQ, oLen, nodupB, treeOf, kidAbs, kidRows, TK.isCell, D.toL, oLoad, oStore, oMake, oIndexAddr, ↓reduceIte, reduceCtorEq, Nat.reduceBEq, Nat.reduceAdd, Nat.reduceMul, Nat.reduceLT, Nat.reduceSub, Nat.reduceLeDiff, Nat.reduceEqDiff, Nat.reduceBneDiff, Int.reduceToNat, decide_eq_true_eq, decide_eq_false_iff_not, beq_iff_eq, Int.toNat_natCast, doneD_ret, doneD_normal]
    (repeat (refine And.intro ?_ ?_; focus (((repeat' apply And.intro) <;> first | exact rowsOf_w _ | omega | (simp only [List.length_append, rowsOf_len, List.length_cons, List.length_nil, marks_len, List.length_take, List.length_drop, List.length_set]; omega) | exact ⟨_, rfl⟩ | (refine ⟨_, rfl, ?_⟩; omega) | (refine ⟨_, rfl, ?_⟩; simp only [List.length_append, rowsOf_len, List.length_cons, List.length_nil, marks_len, List.length_take, List.length_drop, List.length_set]; omega) | kernel_rfl | (simp; done)); done)))
    exact ⟨_, rfl, rfl⟩
  · cases hg
set_option maxRecDepth 100000 in
theorem drawPortListen_ok : OwnOk Try.prog 30 (ocOf g_drawPl) := by
  refine OwnOk.of_vcD (G := ndp) ndp_ok mixed Try.func30 (by kernel_rfl) rfl ?_
  intro args cnd r bs hg hc
  unfold g_drawPl at hg
  split at hg
  · rename_i sz rows
    cases hg
    obtain ⟨xs, rfl⟩ := hc
    rw [bytesOf_rows]
    have hx : (∃ ys, rowsOfBytes (List.take 2000 xs) = rowsOfBytes ys ∧ ys.length ≤ 2000) = True := eq_true ⟨_, rfl, by rw [List.length_take]; omega⟩
    obtain ⟨ys, hys⟩ : ∃ ys, ys = List.take 2000 xs := ⟨_, rfl⟩
    rw [← hys] at hx ⊢
    have hQb := (lpL_mid ys 0 15 (by omega)).2
    obtain ⟨Q, hQ⟩ : ∃ Q, Q = lpQ ys 0 15 := ⟨_, rfl⟩
    have hQ' := hQ.symm
    rw [hQ'] at hQb ⊢
    refine ⟨⟨rfl, by simp [AV.ids, AV.ids.idsL]⟩, [.l 1 (rowsOfBytes xs)], rfl, fun w Z s vs h => CvL.ok (.cons (.l _ _ _ (rowsOf_w xs)) .nil) h, ?_⟩
    simp (maxSteps := 3000000) only [Try.f30, ndp, g_open, g_ports, g_pick, bytesOf_rows, rowsOf_len, ← hys, hx, hQ', tYs, evL, implies_true, oMin, oCopy, oBin, oUn, oLoadKid, oStoreTree, oField, oExtract, oNil, oSliceQ, oLoadRow, takeCells, TS.atRow, TS.ex, treeMode, AV.isOwn, TK.isSl, nilTk, nilsB, oLenQ, oLen, nodupB, treeOf, kidAbs, kidRows, TK.isCell, D.toL, oLoad, oStore, oMake, oIndexAddr, ↓reduceIte, reduceCtorEq, Nat.reduceBEq, Nat.reduceAdd, Nat.reduceMul, Nat.reduceLT, Nat.reduceSub, Nat.reduceLeDiff, Nat.reduceEqDiff, Nat.reduceBneDiff, Int.reduceToNat, decide_eq_true_eq, decide_eq_false_iff_not, beq_iff_eq, Int.toNat_natCast, doneD_ret, doneD_normal]
    (repeat (refine And.intro ?_ ?_; focus (((repeat' apply And.intro) <;> first | exact rowsOf_w _ | omega | (simp only [List.length_append, rowsOf_len, List.length_cons, List.length_nil, marks_len, List.length_take, List.length_drop, List.length_set]; omega) | exact ⟨_, rfl⟩ | (refine ⟨_, rfl, ?_⟩; omega) | (refine ⟨_, rfl, ?_⟩; simp only [List.length_append, rowsOf_len, List.length_cons, List.length_nil, marks_len, List.length_take, List.length_drop, List.length_set]; omega) | kernel_rfl | (simp; done)); done)))
    exact ⟨_, rfl, rfl⟩
  · cases hg
set_option maxHeartbeats 4000000 in
set_option maxRecDepth 100000 in
theorem drawPortHear_ok : OwnOk Try.prog 34 (ocOf g_drawPh) := by
  refine OwnOk.of_vcD (G := ndp) ndp_ok mixed Try.func34 (by kernel_rfl) rfl ?_
  intro args cnd r bs hg hc
  unfold g_drawPh at hg
  split at hg
  · rename_i sz rows
    cases hg
    obtain ⟨xs, rfl⟩ := hc
    rw [bytesOf_rows]
    have hx : (∃ ys, rowsOfBytes (List.take 2000 xs) = rowsOfBytes ys ∧ ys.length ≤ 2000) = True := eq_true ⟨_, rfl, by rw [List.length_take]; omega⟩
    obtain ⟨ys, hys⟩ : ∃ ys, ys = List.take 2000 xs := ⟨_, rfl⟩
    rw [← hys] at hx ⊢
    have hQb := (lpL_mid ys 0 15 (by omega)).2
    obtain ⟨Q, hQ⟩ : ∃ Q, Q = lpQ ys 0 15 := ⟨_, rfl⟩
    have hQ' := hQ.symm
    rw [hQ'] at hQb
    have hM : dhM ys = mwV ys Q 0 := by rw [dhM, hQ']
    have hW := mwV_q ys Q 0
    have hbd := mwV_bd ys Q 0 (by omega)
    obtain ⟨V, hV⟩ : ∃ V, mwV ys Q 0 = V := ⟨_, rfl⟩
    rw [hV] at hM hW hbd
    obtain ⟨B, hB⟩ : ∃ B, mlV ⟨V.a, V.f, V.t, V.d⟩ 3 = B := ⟨_, rfl⟩
    have hBs : mlV (mwM V) 3 = B := hB
    have hXs : dhX ys = pickV ys V.q 9 := by rw [dhX, hM]
    obtain ⟨P, hP⟩ : ∃ P, dhP ys = P := ⟨_, rfl⟩
    rw [hP]
    rw [dhP, hM, hXs, hBs] at hP
    refine ⟨⟨rfl, by simp [AV.ids, AV.ids.idsL]⟩, [.l 1 (rowsOfBytes xs)], rfl, fun w Z s vs h => CvL.ok (.cons (.l _ _ _ (rowsOf_w xs)) .nil) h, ?_⟩
    by_cases h0 : pickV ys V.q 9 = 0
    · have c0 : (pickV ys V.q 9 = 0) = True := eq_true h0
      rw [if_pos h0] at hP
      subst hP
      simp (maxSteps := 3000000) only [Try.f34, ndp, g_open, g_ports, g_mail, g_pick, g_mailBytes, g_packet, bytesOf_rows, rowsOf_len, row_toI, row_nil, row_head, ← hys, hx, hQ', hV, hB, c0, ↓reduceIte, Bool.false_eq_true, tYs, evL, implies_true, oMin, oCopy, oBin, oUn, oLoadKid, oStoreTree, oField, oExtract, oNil, oSliceQ, oLoadRow, takeCells, TS.atRow, TS.ex, treeMode, AV.isOwn, TK.isSl, nilTk, nilsB, oLenQ, oLen, nodupB, treeOf, kidAbs, kidRows, TK.isCell, D.toL, oLoad, oStore, oMake, oIndexAddr, ↓reduceIte, reduceCtorEq, Nat.reduceBEq, Nat.reduceAdd, Nat.reduceMul, Nat.reduceLT, Nat.reduceSub, Nat.reduceLeDiff, Nat.reduceEqDiff, Nat.reduceBneDiff, Int.reduceToNat, decide_eq_true_eq, decide_eq_false_iff_not, beq_iff_eq, Int.toNat_natCast, doneD_ret, doneD_normal]
      (repeat (refine And.intro ?_ ?_; focus (((repeat' apply And.intro) <;> first | exact rowsOf_w _ | omega | (simp only [List.length_append, rowsOf_len, List.length_cons, List.length_nil, marks_len, List.length_take, List.length_drop, List.length_set]; omega) | exact ⟨_, rfl⟩ | (refine ⟨_, rfl, ?_⟩; omega) | (refine ⟨_, rfl, ?_⟩; simp only [List.length_append, rowsOf_len, List.length_cons, List.length_nil, marks_len, List.length_take, List.length_drop, List.length_set]; omega) | kernel_rfl | (simp; done)); done)))
      exact ⟨_, rfl, rfl⟩
    rw [if_neg h0] at hP
    have c0 : (pickV ys V.q 9 = 0) = False := eq_false h0
    by_cases h1 : pickV ys V.q 9 = 1
    · have c1 : (pickV ys V.q 9 = 1) = True := eq_true h1
      rw [if_pos h1] at hP
      subst hP
      simp (maxSteps := 3000000) only [Try.f34, ndp, g_open, g_ports, g_mail, g_pick, g_mailBytes, g_packet, bytesOf_rows, rowsOf_len, row_toI, row_nil, row_head, ← hys, hx, hQ', hV, hB, c0, c1, ↓reduceIte, Bool.false_eq_true, tYs, evL, implies_true, oMin, oCopy, oBin, oUn, oLoadKid, oStoreTree, oField, oExtract, oNil, oSliceQ, oLoadRow, takeCells, TS.atRow, TS.ex, treeMode, AV.isOwn, TK.isSl, nilTk, nilsB, oLenQ, oLen, nodupB, treeOf, kidAbs, kidRows, TK.isCell, D.toL, oLoad, oStore, oMake, oIndexAddr, ↓reduceIte, reduceCtorEq, Nat.reduceBEq, Nat.reduceAdd, Nat.reduceMul, Nat.reduceLT, Nat.reduceSub, Nat.reduceLeDiff, Nat.reduceEqDiff, Nat.reduceBneDiff, Int.reduceToNat, decide_eq_true_eq, decide_eq_false_iff_not, beq_iff_eq, Int.toNat_natCast, doneD_ret, doneD_normal]
      (repeat (refine And.intro ?_ ?_; focus (((repeat' apply And.intro) <;> first | exact rowsOf_w _ | omega | (simp only [List.length_append, rowsOf_len, List.length_cons, List.length_nil, marks_len, List.length_take, List.length_drop, List.length_set]; omega) | exact ⟨_, rfl⟩ | (refine ⟨_, rfl, ?_⟩; omega) | (refine ⟨_, rfl, ?_⟩; simp only [List.length_append, rowsOf_len, List.length_cons, List.length_nil, marks_len, List.length_take, List.length_drop, List.length_set]; omega) | kernel_rfl | (simp; done)); done)))
      exact ⟨_, rfl, rfl⟩
    rw [if_neg h1] at hP
    have c1 : (pickV ys V.q 9 = 1) = False := eq_false h1
    by_cases h2 : pickV ys V.q 9 = 2
    · have c2 : (pickV ys V.q 9 = 2) = True := eq_true h2
      rw [if_pos h2] at hP
      subst hP
      simp (maxSteps := 3000000) only [Try.f34, ndp, g_open, g_ports, g_mail, g_pick, g_mailBytes, g_packet, bytesOf_rows, rowsOf_len, row_toI, row_nil, row_head, ← hys, hx, hQ', hV, hB, c0, c1, c2, ↓reduceIte, Bool.false_eq_true, tYs, evL, implies_true, oMin, oCopy, oBin, oUn, oLoadKid, oStoreTree, oField, oExtract, oNil, oSliceQ, oLoadRow, takeCells, TS.atRow, TS.ex, treeMode, AV.isOwn, TK.isSl, nilTk, nilsB, oLenQ, oLen, nodupB, treeOf, kidAbs, kidRows, TK.isCell, D.toL, oLoad, oStore, oMake, oIndexAddr, ↓reduceIte, reduceCtorEq, Nat.reduceBEq, Nat.reduceAdd, Nat.reduceMul, Nat.reduceLT, Nat.reduceSub, Nat.reduceLeDiff, Nat.reduceEqDiff, Nat.reduceBneDiff, Int.reduceToNat, decide_eq_true_eq, decide_eq_false_iff_not, beq_iff_eq, Int.toNat_natCast, doneD_ret, doneD_normal]
      (repeat (refine And.intro ?_ ?_; focus (((repeat' apply And.intro) <;> first | exact rowsOf_w _ | omega | (simp only [List.length_append, rowsOf_len, List.length_cons, List.length_nil, marks_len, List.length_take, List.length_drop, List.length_set]; omega) | exact ⟨_, rfl⟩ | (refine ⟨_, rfl, ?_⟩; omega) | (refine ⟨_, rfl, ?_⟩; simp only [List.length_append, rowsOf_len, List.length_cons, List.length_nil, marks_len, List.length_take, List.length_drop, List.length_set]; omega) | kernel_rfl | (simp; done)); done)))
      exact ⟨_, rfl, rfl⟩
    rw [if_neg h2] at hP
    subst hP
    have c2 : (pickV ys V.q 9 = 2) = False := eq_false h2
    simp (maxSteps := 3000000) only [Try.f34, ndp, g_open, g_ports, g_mail, g_pick, g_mailBytes, g_packet, bytesOf_rows, rowsOf_len, row_toI, row_nil, row_head, ← hys, hx, hQ', hV, hB, c0, c1, c2, ↓reduceIte, Bool.false_eq_true, tYs, evL, implies_true, oMin, oCopy, oBin, oUn, oLoadKid, oStoreTree, oField, oExtract, oNil, oSliceQ, oLoadRow, takeCells, TS.atRow, TS.ex, treeMode, AV.isOwn, TK.isSl, nilTk, nilsB, oLenQ, oLen, nodupB, treeOf, kidAbs, kidRows, TK.isCell, D.toL, oLoad, oStore, oMake, oIndexAddr, ↓reduceIte, reduceCtorEq, Nat.reduceBEq, Nat.reduceAdd, Nat.reduceMul, Nat.reduceLT, Nat.reduceSub, Nat.reduceLeDiff, Nat.reduceEqDiff, Nat.reduceBneDiff, Int.reduceToNat, decide_eq_true_eq, decide_eq_false_iff_not, beq_iff_eq, Int.toNat_natCast, doneD_ret, doneD_normal]
    (repeat (refine And.intro ?_ ?_; focus (((repeat' apply And.intro) <;> first | exact rowsOf_w _ | omega | (simp only [List.length_append, rowsOf_len, List.length_cons, List.length_nil, marks_len, List.length_take, List.length_drop, List.length_set]; omega) | exact ⟨_, rfl⟩ | (refine ⟨_, rfl, ?_⟩; omega) | (refine ⟨_, rfl, ?_⟩; simp only [List.length_append, rowsOf_len, List.length_cons, List.length_nil, marks_len, List.length_take, List.length_drop, List.length_set]; omega) | kernel_rfl | (simp; done)); done)))
    exact ⟨_, rfl, rfl⟩
  · cases hg
end Go.Proofs.Ytknnobnedepinaa
