import Derived.Test.YtknnobnedepinaaLl
set_option linter.unusedVariables false
set_option linter.unusedSimpArgs false
namespace Go.Proofs.Ytknnobnedepinaa
open Go.RowKit
set_option linter.unusedSimpArgs false
theorem posOf_nil : posOf [] = [] := rfl
theorem posB_nil : posB [] = true := rfl
theorem poMid_nil : poMid [] := ⟨by decide, fun x hx => by cases hx⟩
theorem implPortHearS_ok : OwnOk Try.prog 35 (ocOf g_portHearS) := implPortHear_ok.toSl fun args c r bs' h => by
  unfold g_portHearS at h
  split at h
  · cases h
    exact ⟨_, rfl, rfl, fun b hb => by rw [List.mem_singleton.1 hb]; rfl⟩
  · cases h
def llp : List (FuncId × Abs) := [(18, pureAbs g_alive), (28, pureAbs g_portsOk), (29, pureAbs g_portsOk), (27, ownAbs (ocOf g_drawPo))]
theorem llp_ok : ∀ p ∈ llp, CallOk Try.prog p.1 p.2 := by
  intro p hp
  simp only [llp, List.mem_cons, List.not_mem_nil, or_false] at hp
  rcases hp with rfl | rfl | rfl | rfl
  · exact alive_ok.call
  · exact implPortsOk_ok.call
  · exact specPortsOk_ok.call
  · exact drawPortsOk_ok.call
set_option maxHeartbeats 8000000 in
set_option maxRecDepth 100000 in
theorem lawPortsOk_ok : PureOk Try.prog 6 g_true := by
  refine PureOk.of_vc (G := llp) llp_ok mixed Try.func6 (by kernel_rfl) rfl ?_
  intro args cnd r bs hg hc
  unfold g_true at hg
  split at hg
  · rename_i sz rows
    cases hg
    obtain ⟨xs, rfl⟩ := hc
    refine ⟨⟨rfl, by simp, by simp [AV.ids, AV.ids.idsL]⟩, [.l 1 (rowsOfBytes xs)], rfl, fun w vs h => CvL.ok (.cons (.l _ _ _ (rowsOf_w xs)) .nil) h, ?_⟩
    obtain ⟨ys, hys⟩ : ∃ ys, ys = List.take 2000 xs := ⟨_, rfl⟩
    by_cases h20 : (xs.length : Int) > 1048576
    · have e20 : ((xs.length : Int) > 1048576) = True := eq_true h20
      simp (maxSteps := 3000000) only [Try.f6, llp, e20, g_alive, g_portsOk, ocOf, g_drawPo, bytesOf_rows, rowsOf_len, ↓reduceIte, Bool.false_eq_true, Bool.not_true, Bool.not_false, posOf_nil, posB_nil, poRows_len, mRows_len, posOf_rows, D.toI, D.toL, poRow, mlRow, tYs, evL, implies_true, oMin, oCopy, oBin, oUn, oLoadKid, oStoreTree, oField, oExtract, oNil, oSliceQ, oLoadRow, takeCells, TS.atRow, TS.ex, treeMode, AV.isOwn, TK.isSl, nilTk, nilsB, oLenQ, oLen, nodupB, treeOf, kidAbs, kidRows, TK.isCell, D.toL, oLoad, oStore, oMake, oIndexAddr, ↓reduceIte, reduceCtorEq, Nat.reduceBEq, Nat.reduceAdd, Nat.reduceMul, Nat.reduceLT, Nat.reduceSub, Nat.reduceLeDiff, Nat.reduceEqDiff, Nat.reduceBneDiff, Int.reduceToNat, decide_eq_true_eq, decide_eq_false_iff_not, beq_iff_eq, Int.toNat_natCast, loopK_normal, loopK_exit, loopK_ret, bne_self_eq_false, List.length_nil, Int.ofNat_zero]
      exact ⟨_, [], rfl, ⟨⟨⟨rfl, rfl, rfl⟩, trivial⟩, trivial, by simp [rn, hpAt]⟩⟩
    have e20 : ((xs.length : Int) > 1048576) = False := eq_false h20
    have hm := (lpL_mid ys 0 2 (by omega)).1.1
    obtain ⟨l, hl⟩ : ∃ l, l = lpL ys 0 2 := ⟨_, rfl⟩
    have hl' := hl.symm
    rw [hl'] at hm
    clear hl
    have hn := hm.1
    rcases hok : posB l with _ | _
    · simp (maxSteps := 3000000) only [Try.f6, llp, e20, ← hys, hl', hok, e20, g_alive, g_portsOk, ocOf, g_drawPo, bytesOf_rows, rowsOf_len, ↓reduceIte, Bool.false_eq_true, Bool.not_true, Bool.not_false, posOf_nil, posB_nil, poRows_len, mRows_len, posOf_rows, D.toI, D.toL, poRow, mlRow, tYs, evL, implies_true, oMin, oCopy, oBin, oUn, oLoadKid, oStoreTree, oField, oExtract, oNil, oSliceQ, oLoadRow, takeCells, TS.atRow, TS.ex, treeMode, AV.isOwn, TK.isSl, nilTk, nilsB, oLenQ, oLen, nodupB, treeOf, kidAbs, kidRows, TK.isCell, D.toL, oLoad, oStore, oMake, oIndexAddr, ↓reduceIte, reduceCtorEq, Nat.reduceBEq, Nat.reduceAdd, Nat.reduceMul, Nat.reduceLT, Nat.reduceSub, Nat.reduceLeDiff, Nat.reduceEqDiff, Nat.reduceBneDiff, Int.reduceToNat, decide_eq_true_eq, decide_eq_false_iff_not, beq_iff_eq, Int.toNat_natCast, loopK_normal, loopK_exit, loopK_ret, bne_self_eq_false, List.length_nil, Int.ofNat_zero]
      refine ⟨⟨xs, rfl⟩, ⟨_, rfl, hm⟩, ⟨_, rfl, hm⟩, ?_⟩
      refine e_loop _ _ _ _ _ _ _ _ (fun k : Nat => [.any, .any, .any, .l 2 (poRows l), .v (.bool false), .v (.int .i64 (k : Int))] ++ List.replicate (Try.f6.ntmps - 6) .any) (fun k => []) (fun k => k ≤ l.length) (fun k => l.length - k) 0 (fun k => by simp) ?_ fun k hk' => ?_
      · exact ⟨0, [], Nat.zero_le _, ⟨⟨trivial, trivial, trivial, ⟨rfl, rfl, rfl⟩, ⟨rfl, rfl, rfl⟩, ⟨rfl, rfl, rfl⟩, fitT_rep _ _ rfl⟩, trivial, by simp [rn, hpAt]⟩, by simp [keepIds]⟩
      by_cases hk : k < l.length
      · have c1 : ((k : Int) < (l.length : Int)) = True := eq_true (by omega)
        simp (maxSteps := 3000000) only [Try.f6, llp, e20, ← hys, hl', hok, c1, g_alive, g_portsOk, ocOf, g_drawPo, bytesOf_rows, rowsOf_len, ↓reduceIte, Bool.false_eq_true, Bool.not_true, Bool.not_false, posOf_nil, posB_nil, poRows_len, mRows_len, posOf_rows, D.toI, D.toL, poRow, mlRow, tYs, evL, implies_true, oMin, oCopy, oBin, oUn, oLoadKid, oStoreTree, oField, oExtract, oNil, oSliceQ, oLoadRow, takeCells, TS.atRow, TS.ex, treeMode, AV.isOwn, TK.isSl, nilTk, nilsB, oLenQ, oLen, nodupB, treeOf, kidAbs, kidRows, TK.isCell, D.toL, oLoad, oStore, oMake, oIndexAddr, ↓reduceIte, reduceCtorEq, Nat.reduceBEq, Nat.reduceAdd, Nat.reduceMul, Nat.reduceLT, Nat.reduceSub, Nat.reduceLeDiff, Nat.reduceEqDiff, Nat.reduceBneDiff, Int.reduceToNat, decide_eq_true_eq, decide_eq_false_iff_not, beq_iff_eq, Int.toNat_natCast, loopK_normal, loopK_exit, loopK_ret, bne_self_eq_false, List.length_nil, Int.ofNat_zero]
        refine ⟨⟨[], rfl, poMid_nil⟩, ?_⟩
        exact ⟨_, [], rfl, ⟨⟨⟨rfl, rfl, rfl⟩, trivial⟩, trivial, by simp [rn, hpAt]⟩⟩
      · have c1 : ((k : Int) < (l.length : Int)) = False := eq_false (by omega)
        simp (maxSteps := 3000000) only [Try.f6, llp, e20, ← hys, hl', hok, c1, g_alive, g_portsOk, ocOf, g_drawPo, bytesOf_rows, rowsOf_len, ↓reduceIte, Bool.false_eq_true, Bool.not_true, Bool.not_false, posOf_nil, posB_nil, poRows_len, mRows_len, posOf_rows, D.toI, D.toL, poRow, mlRow, tYs, evL, implies_true, oMin, oCopy, oBin, oUn, oLoadKid, oStoreTree, oField, oExtract, oNil, oSliceQ, oLoadRow, takeCells, TS.atRow, TS.ex, treeMode, AV.isOwn, TK.isSl, nilTk, nilsB, oLenQ, oLen, nodupB, treeOf, kidAbs, kidRows, TK.isCell, D.toL, oLoad, oStore, oMake, oIndexAddr, ↓reduceIte, reduceCtorEq, Nat.reduceBEq, Nat.reduceAdd, Nat.reduceMul, Nat.reduceLT, Nat.reduceSub, Nat.reduceLeDiff, Nat.reduceEqDiff, Nat.reduceBneDiff, Int.reduceToNat, decide_eq_true_eq, decide_eq_false_iff_not, beq_iff_eq, Int.toNat_natCast, loopK_normal, loopK_exit, loopK_ret, bne_self_eq_false, List.length_nil, Int.ofNat_zero]
        refine ⟨⟨[], rfl, poMid_nil⟩, ?_⟩
        exact ⟨_, [], rfl, ⟨⟨⟨rfl, rfl, rfl⟩, trivial⟩, trivial, by simp [rn, hpAt]⟩⟩
    · simp (maxSteps := 3000000) only [Try.f6, llp, e20, ← hys, hl', hok, e20, g_alive, g_portsOk, ocOf, g_drawPo, bytesOf_rows, rowsOf_len, ↓reduceIte, Bool.false_eq_true, Bool.not_true, Bool.not_false, posOf_nil, posB_nil, poRows_len, mRows_len, posOf_rows, D.toI, D.toL, poRow, mlRow, tYs, evL, implies_true, oMin, oCopy, oBin, oUn, oLoadKid, oStoreTree, oField, oExtract, oNil, oSliceQ, oLoadRow, takeCells, TS.atRow, TS.ex, treeMode, AV.isOwn, TK.isSl, nilTk, nilsB, oLenQ, oLen, nodupB, treeOf, kidAbs, kidRows, TK.isCell, D.toL, oLoad, oStore, oMake, oIndexAddr, ↓reduceIte, reduceCtorEq, Nat.reduceBEq, Nat.reduceAdd, Nat.reduceMul, Nat.reduceLT, Nat.reduceSub, Nat.reduceLeDiff, Nat.reduceEqDiff, Nat.reduceBneDiff, Int.reduceToNat, decide_eq_true_eq, decide_eq_false_iff_not, beq_iff_eq, Int.toNat_natCast, loopK_normal, loopK_exit, loopK_ret, bne_self_eq_false, List.length_nil, Int.ofNat_zero]
      refine ⟨⟨xs, rfl⟩, ⟨_, rfl, hm⟩, ⟨_, rfl, hm⟩, ?_⟩
      refine e_loop _ _ _ _ _ _ _ _ (fun k : Nat => [.any, .any, .any, .l 2 (poRows l), .v (.bool true), .v (.int .i64 (k : Int))] ++ List.replicate (Try.f6.ntmps - 6) .any) (fun k => []) (fun k => k ≤ l.length) (fun k => l.length - k) 0 (fun k => by simp) ?_ fun k hk' => ?_
      · exact ⟨0, [], Nat.zero_le _, ⟨⟨trivial, trivial, trivial, ⟨rfl, rfl, rfl⟩, ⟨rfl, rfl, rfl⟩, ⟨rfl, rfl, rfl⟩, fitT_rep _ _ rfl⟩, trivial, by simp [rn, hpAt]⟩, by simp [keepIds]⟩
      have hk1 : k ≤ l.length := hk'
      have w2 : IntKind.i64.wrap ((k : Int) + 1) = ((k + 1 : Nat) : Int) := by rw [wrap_id] <;> omega
      by_cases hk : k < l.length
      · have c1 : ((k : Int) < (l.length : Int)) = True := eq_true (by omega)
        have ht := posB_take hok k
        have hT := poRows_take l k
        have hTl : (poRows (l.take k)).length = k := by rw [poRows_len, List.length_take]; omega
        simp (maxSteps := 3000000) only [Try.f6, llp, e20, ← hys, hl', hok, c1, ht, hT, hTl, w2, List.nil_append, List.drop_zero, Int.toNat_zero, Nat.sub_zero, g_alive, g_portsOk, ocOf, g_drawPo, bytesOf_rows, rowsOf_len, ↓reduceIte, Bool.false_eq_true, Bool.not_true, Bool.not_false, posOf_nil, posB_nil, poRows_len, mRows_len, posOf_rows, D.toI, D.toL, poRow, mlRow, tYs, evL, implies_true, oMin, oCopy, oBin, oUn, oLoadKid, oStoreTree, oField, oExtract, oNil, oSliceQ, oLoadRow, takeCells, TS.atRow, TS.ex, treeMode, AV.isOwn, TK.isSl, nilTk, nilsB, oLenQ, oLen, nodupB, treeOf, kidAbs, kidRows, TK.isCell, D.toL, oLoad, oStore, oMake, oIndexAddr, ↓reduceIte, reduceCtorEq, Nat.reduceBEq, Nat.reduceAdd, Nat.reduceMul, Nat.reduceLT, Nat.reduceSub, Nat.reduceLeDiff, Nat.reduceEqDiff, Nat.reduceBneDiff, Int.reduceToNat, decide_eq_true_eq, decide_eq_false_iff_not, beq_iff_eq, Int.toNat_natCast, loopK_normal, loopK_exit, loopK_ret, bne_self_eq_false, List.length_nil, Int.ofNat_zero]
        refine ⟨⟨by omega, by omega⟩, ⟨by omega, by omega, poRows_w _⟩, ⟨_, rfl, poMid_take hm k⟩, ?_⟩
        exact ⟨k + 1, [], by omega, by omega, ⟨⟨trivial, trivial, trivial, ⟨rfl, rfl, rfl⟩, ⟨rfl, rfl, rfl⟩, ⟨rfl, rfl, rfl⟩, fitT_rep _ _ rfl⟩, trivial, by simp [rn, hpAt]⟩, by simp [keepIds]⟩
      · have c1 : ((k : Int) < (l.length : Int)) = False := eq_false (by omega)
        simp (maxSteps := 3000000) only [Try.f6, llp, e20, ← hys, hl', hok, c1, g_alive, g_portsOk, ocOf, g_drawPo, bytesOf_rows, rowsOf_len, ↓reduceIte, Bool.false_eq_true, Bool.not_true, Bool.not_false, posOf_nil, posB_nil, poRows_len, mRows_len, posOf_rows, D.toI, D.toL, poRow, mlRow, tYs, evL, implies_true, oMin, oCopy, oBin, oUn, oLoadKid, oStoreTree, oField, oExtract, oNil, oSliceQ, oLoadRow, takeCells, TS.atRow, TS.ex, treeMode, AV.isOwn, TK.isSl, nilTk, nilsB, oLenQ, oLen, nodupB, treeOf, kidAbs, kidRows, TK.isCell, D.toL, oLoad, oStore, oMake, oIndexAddr, ↓reduceIte, reduceCtorEq, Nat.reduceBEq, Nat.reduceAdd, Nat.reduceMul, Nat.reduceLT, Nat.reduceSub, Nat.reduceLeDiff, Nat.reduceEqDiff, Nat.reduceBneDiff, Int.reduceToNat, decide_eq_true_eq, decide_eq_false_iff_not, beq_iff_eq, Int.toNat_natCast, loopK_normal, loopK_exit, loopK_ret, bne_self_eq_false, List.length_nil, Int.ofNat_zero]
        refine ⟨⟨[], rfl, poMid_nil⟩, ?_⟩
        exact ⟨_, [], rfl, ⟨⟨⟨rfl, rfl, rfl⟩, trivial⟩, trivial, by simp [rn, hpAt]⟩⟩
  · cases hg
def llq : List (FuncId × Abs) := [(18, pureAbs g_alive), (33, pureAbs g_samePorts), (28, pureAbs g_portsOk), (31, pureAbs g_portListen), (32, pureAbs g_portListen), (30, ownAbs (ocOf g_drawPl))]
theorem llq_ok : ∀ p ∈ llq, CallOk Try.prog p.1 p.2 := by
  intro p hp
  simp only [llq, List.mem_cons, List.not_mem_nil, or_false] at hp
  rcases hp with rfl | rfl | rfl | rfl | rfl | rfl
  · exact alive_ok.call
  · exact samePorts_ok.call
  · exact implPortsOk_ok.call
  · exact implPortListen_ok.call
  · exact specPortListen_ok.call
  · exact drawPortListen_ok.call
set_option maxHeartbeats 8000000 in
set_option maxRecDepth 100000 in
theorem lawPortListen_ok : PureOk Try.prog 7 g_true := by
  refine PureOk.of_vc (G := llq) llq_ok mixed Try.func7 (by kernel_rfl) rfl ?_
  intro args cnd r bs hg hc
  unfold g_true at hg
  split at hg
  · rename_i sz rows
    cases hg
    obtain ⟨xs, rfl⟩ := hc
    refine ⟨⟨rfl, by simp, by simp [AV.ids, AV.ids.idsL]⟩, [.l 1 (rowsOfBytes xs)], rfl, fun w vs h => CvL.ok (.cons (.l _ _ _ (rowsOf_w xs)) .nil) h, ?_⟩
    obtain ⟨ys, hys⟩ : ∃ ys, ys = List.take 2000 xs := ⟨_, rfl⟩
    by_cases h20 : (xs.length : Int) > 1048576
    · have e20 : ((xs.length : Int) > 1048576) = True := eq_true h20
      simp (maxSteps := 3000000) only [Try.f7, llq, e20, g_alive, g_samePorts, g_portsOk, g_portListen, ocOf, g_drawPl, bytesOf_rows, rowsOf_len, ↓reduceIte, Bool.false_eq_true, Bool.not_true, Bool.not_false, posOf_nil, posB_nil, poRows_len, mRows_len, posOf_rows, D.toI, D.toL, poRow, mlRow, tYs, evL, implies_true, oMin, oCopy, oBin, oUn, oLoadKid, oStoreTree, oField, oExtract, oNil, oSliceQ, oLoadRow, takeCells, TS.atRow, TS.ex, treeMode, AV.isOwn, TK.isSl, nilTk, nilsB, oLenQ, oLen, nodupB, treeOf, kidAbs, kidRows, TK.isCell, D.toL, oLoad, oStore, oMake, oIndexAddr, ↓reduceIte, reduceCtorEq, Nat.reduceBEq, Nat.reduceAdd, Nat.reduceMul, Nat.reduceLT, Nat.reduceSub, Nat.reduceLeDiff, Nat.reduceEqDiff, Nat.reduceBneDiff, Int.reduceToNat, decide_eq_true_eq, decide_eq_false_iff_not, beq_iff_eq, Int.toNat_natCast, loopK_normal, loopK_exit, loopK_ret, bne_self_eq_false, List.length_nil, Int.ofNat_zero]
      exact ⟨_, [], rfl, ⟨⟨⟨rfl, rfl, rfl⟩, trivial⟩, trivial, by simp [rn, hpAt]⟩⟩
    have e20 : ((xs.length : Int) > 1048576) = False := eq_false h20
    obtain ⟨⟨hm, hl5⟩, hQ1, hQ2⟩ := lpL_mid ys 0 15 (by omega)
    obtain ⟨l, hl⟩ : ∃ l, l = lpL ys 0 15 := ⟨_, rfl⟩
    have hl' := hl.symm
    rw [hl'] at hm hl5
    clear hl
    have hn := hm.1
    obtain ⟨x, hx⟩ : ∃ x, x = pickV ys (lpQ ys 0 15) 8 := ⟨_, rfl⟩
    have hx' := hx.symm
    clear hx
    rcases hb : plB l x with _ | _
    · rcases pl_no hb with hv | hv
      · simp (maxSteps := 3000000) only [Try.f7, llq, e20, ← hys, hl', hx', hb, hv, g_alive, g_samePorts, g_portsOk, g_portListen, ocOf, g_drawPl, bytesOf_rows, rowsOf_len, ↓reduceIte, Bool.false_eq_true, Bool.not_true, Bool.not_false, posOf_nil, posB_nil, poRows_len, mRows_len, posOf_rows, D.toI, D.toL, poRow, mlRow, tYs, evL, implies_true, oMin, oCopy, oBin, oUn, oLoadKid, oStoreTree, oField, oExtract, oNil, oSliceQ, oLoadRow, takeCells, TS.atRow, TS.ex, treeMode, AV.isOwn, TK.isSl, nilTk, nilsB, oLenQ, oLen, nodupB, treeOf, kidAbs, kidRows, TK.isCell, D.toL, oLoad, oStore, oMake, oIndexAddr, ↓reduceIte, reduceCtorEq, Nat.reduceBEq, Nat.reduceAdd, Nat.reduceMul, Nat.reduceLT, Nat.reduceSub, Nat.reduceLeDiff, Nat.reduceEqDiff, Nat.reduceBneDiff, Int.reduceToNat, decide_eq_true_eq, decide_eq_false_iff_not, beq_iff_eq, Int.toNat_natCast, loopK_normal, loopK_exit, loopK_ret, bne_self_eq_false, List.length_nil, Int.ofNat_zero]
        refine ⟨⟨xs, rfl⟩, ⟨_, rfl, hm⟩, ⟨_, rfl, hm⟩, ⟨_, rfl, rfl, poMid_nil⟩, ?_⟩
        exact ⟨_, [], rfl, ⟨⟨⟨rfl, rfl, rfl⟩, trivial⟩, trivial, by simp [rn, hpAt]⟩⟩
      · by_cases h0 : l.length = 0
        · have c0 : ((l.length : Int) = 0) = True := eq_true (by omega)
          have c0b : ((l.length : Int) == 0) = true := beq_iff_eq.2 (by omega)
          simp (maxSteps := 3000000) only [Try.f7, llq, e20, ← hys, hl', hx', hb, hv, c0, c0b, g_alive, g_samePorts, g_portsOk, g_portListen, ocOf, g_drawPl, bytesOf_rows, rowsOf_len, ↓reduceIte, Bool.false_eq_true, Bool.not_true, Bool.not_false, posOf_nil, posB_nil, poRows_len, mRows_len, posOf_rows, D.toI, D.toL, poRow, mlRow, tYs, evL, implies_true, oMin, oCopy, oBin, oUn, oLoadKid, oStoreTree, oField, oExtract, oNil, oSliceQ, oLoadRow, takeCells, TS.atRow, TS.ex, treeMode, AV.isOwn, TK.isSl, nilTk, nilsB, oLenQ, oLen, nodupB, treeOf, kidAbs, kidRows, TK.isCell, D.toL, oLoad, oStore, oMake, oIndexAddr, ↓reduceIte, reduceCtorEq, Nat.reduceBEq, Nat.reduceAdd, Nat.reduceMul, Nat.reduceLT, Nat.reduceSub, Nat.reduceLeDiff, Nat.reduceEqDiff, Nat.reduceBneDiff, Int.reduceToNat, decide_eq_true_eq, decide_eq_false_iff_not, beq_iff_eq, Int.toNat_natCast, loopK_normal, loopK_exit, loopK_ret, bne_self_eq_false, List.length_nil, Int.ofNat_zero]
          refine ⟨⟨xs, rfl⟩, ⟨_, rfl, hm⟩, ⟨_, rfl, hm⟩, ⟨_, rfl, rfl, hm⟩, ?_⟩
          exact ⟨_, [], rfl, ⟨⟨⟨rfl, rfl, rfl⟩, trivial⟩, trivial, by simp [rn, hpAt]⟩⟩
        · have c0 : ((l.length : Int) = 0) = False := eq_false (by omega)
          have c0b : ((l.length : Int) == 0) = false := by rw [beq_eq_false_iff_ne]; omega
          simp (maxSteps := 3000000) only [Try.f7, llq, e20, ← hys, hl', hx', hb, hv, c0, c0b, g_alive, g_samePorts, g_portsOk, g_portListen, ocOf, g_drawPl, bytesOf_rows, rowsOf_len, ↓reduceIte, Bool.false_eq_true, Bool.not_true, Bool.not_false, posOf_nil, posB_nil, poRows_len, mRows_len, posOf_rows, D.toI, D.toL, poRow, mlRow, tYs, evL, implies_true, oMin, oCopy, oBin, oUn, oLoadKid, oStoreTree, oField, oExtract, oNil, oSliceQ, oLoadRow, takeCells, TS.atRow, TS.ex, treeMode, AV.isOwn, TK.isSl, nilTk, nilsB, oLenQ, oLen, nodupB, treeOf, kidAbs, kidRows, TK.isCell, D.toL, oLoad, oStore, oMake, oIndexAddr, ↓reduceIte, reduceCtorEq, Nat.reduceBEq, Nat.reduceAdd, Nat.reduceMul, Nat.reduceLT, Nat.reduceSub, Nat.reduceLeDiff, Nat.reduceEqDiff, Nat.reduceBneDiff, Int.reduceToNat, decide_eq_true_eq, decide_eq_false_iff_not, beq_iff_eq, Int.toNat_natCast, loopK_normal, loopK_exit, loopK_ret, bne_self_eq_false, List.length_nil, Int.ofNat_zero]
          refine ⟨⟨xs, rfl⟩, ⟨_, rfl, hm⟩, ⟨_, rfl, hm⟩, ⟨_, rfl, rfl, hm⟩, ⟨_, rfl, rfl, hm⟩, ?_⟩
          exact ⟨_, [], rfl, ⟨⟨⟨rfl, rfl, rfl⟩, trivial⟩, trivial, by simp [rn, hpAt]⟩⟩
    · obtain ⟨v1, v2, v3, v4⟩ := pl_yes hb
      have vm := poMid_ok v1
      obtain ⟨V, hV⟩ : ∃ V, plV l x = V := ⟨_, rfl⟩
      rw [hV] at v1 v2 v3 v4 vm
      have w1 : IntKind.i64.wrap ((l.length : Int) + 1) = (V.length : Int) := by rw [wrap_id (by omega) (by omega), v2]; omega
      simp (maxSteps := 3000000) only [Try.f7, llq, e20, ← hys, hl', hx', hb, hV, v1, v3, v4, w1, beq_self_eq_true, g_alive, g_samePorts, g_portsOk, g_portListen, ocOf, g_drawPl, bytesOf_rows, rowsOf_len, ↓reduceIte, Bool.false_eq_true, Bool.not_true, Bool.not_false, posOf_nil, posB_nil, poRows_len, mRows_len, posOf_rows, D.toI, D.toL, poRow, mlRow, tYs, evL, implies_true, oMin, oCopy, oBin, oUn, oLoadKid, oStoreTree, oField, oExtract, oNil, oSliceQ, oLoadRow, takeCells, TS.atRow, TS.ex, treeMode, AV.isOwn, TK.isSl, nilTk, nilsB, oLenQ, oLen, nodupB, treeOf, kidAbs, kidRows, TK.isCell, D.toL, oLoad, oStore, oMake, oIndexAddr, ↓reduceIte, reduceCtorEq, Nat.reduceBEq, Nat.reduceAdd, Nat.reduceMul, Nat.reduceLT, Nat.reduceSub, Nat.reduceLeDiff, Nat.reduceEqDiff, Nat.reduceBneDiff, Int.reduceToNat, decide_eq_true_eq, decide_eq_false_iff_not, beq_iff_eq, Int.toNat_natCast, loopK_normal, loopK_exit, loopK_ret, bne_self_eq_false, List.length_nil, Int.ofNat_zero]
      refine ⟨⟨xs, rfl⟩, ⟨_, rfl, hm⟩, ⟨_, rfl, hm⟩, ⟨_, rfl, rfl, vm⟩, ⟨_, rfl, vm⟩, ⟨_, rfl, vm⟩, ⟨_, rfl, rfl, vm⟩, ?_⟩
      exact ⟨_, [], rfl, ⟨⟨⟨rfl, rfl, rfl⟩, trivial⟩, trivial, by simp [rn, hpAt]⟩⟩
  · cases hg
def hMore (n k : Nat) : Int := if n < k then 1 else 0
theorem hMore_lt {n k : Nat} (h : k ≤ n) : hMore n k = 0 := if_neg (by omega)
theorem hMore_gt {n k : Nat} (h : n < k) : hMore n k = 1 := if_pos h
theorem dhP_len (xs : List UInt8) : (dhP xs).d.length ≤ 1048576 := by
  have h1 := (pktV_q xs ((dhM xs).q + 1) 2).2.2
  have h2 := mlV_len2 (mwM (dhM xs)) 3
  unfold dhP
  repeat' split
  all_goals (first | (show (pktV xs ((dhM xs).q + 1) 2).d.length ≤ 1048576; omega) | (show (mlV (mwM (dhM xs)) 3).length ≤ 1048576; omega))
def llr : List (FuncId × Abs) := [(18, pureAbs g_alive), (24, pureAbs g_sameMail), (33, pureAbs g_samePorts), (28, pureAbs g_portsOk), (23, pureAbs g_mailFrom), (35, ownAbs (ocOf g_portHearS)), (36, ownAbs (ocOf g_portHearS)), (34, ownAbs (ocOf g_drawPh))]
theorem llr_ok : ∀ p ∈ llr, CallOk Try.prog p.1 p.2 := by
  intro p hp
  simp only [llr, List.mem_cons, List.not_mem_nil, or_false] at hp
  rcases hp with rfl | rfl | rfl | rfl | rfl | rfl | rfl | rfl
  · exact alive_ok.call
  · exact sameMail_ok.call
  · exact samePorts_ok.call
  · exact implPortsOk_ok.call
  · exact implMailFrom_ok.call
  · exact implPortHearS_ok.call
  · exact specPortHearS_ok.call
  · exact drawPortHear_ok.call
set_option maxHeartbeats 8000000 in
set_option maxRecDepth 100000 in
theorem lawPortHear_ok : PureOk Try.prog 8 g_true := by
  refine PureOk.of_vc (G := llr) llr_ok mixed Try.func8 (by kernel_rfl) rfl ?_
  intro args cnd r bs hg hc
  unfold g_true at hg
  split at hg
  · rename_i sz rows
    cases hg
    obtain ⟨xs, rfl⟩ := hc
    refine ⟨⟨rfl, by simp, by simp [AV.ids, AV.ids.idsL]⟩, [.l 1 (rowsOfBytes xs)], rfl, fun w vs h => CvL.ok (.cons (.l _ _ _ (rowsOf_w xs)) .nil) h, ?_⟩
    obtain ⟨ys, hys⟩ : ∃ ys, ys = List.take 2000 xs := ⟨_, rfl⟩
    by_cases h20 : (xs.length : Int) > 1048576
    · have e20 : ((xs.length : Int) > 1048576) = True := eq_true h20
      simp (maxSteps := 3000000) only [Try.f8, llr, e20, g_alive, g_sameMail, g_samePorts, g_portsOk, g_mailFrom, ocOf, g_portHearS, g_drawPh, bytesOf_rows, rowsOf_len, ↓reduceIte, Bool.false_eq_true, Bool.not_true, Bool.not_false, posOf_nil, posB_nil, poRows_len, mRows_len, posOf_rows, D.toI, D.toL, poRow, mlRow, tYs, evL, implies_true, oMin, oCopy, oBin, oUn, oLoadKid, oStoreTree, oField, oExtract, oNil, oSliceQ, oLoadRow, takeCells, TS.atRow, TS.ex, treeMode, AV.isOwn, TK.isSl, nilTk, nilsB, oLenQ, oLen, nodupB, treeOf, kidAbs, kidRows, TK.isCell, D.toL, oLoad, oStore, oMake, oIndexAddr, ↓reduceIte, reduceCtorEq, Nat.reduceBEq, Nat.reduceAdd, Nat.reduceMul, Nat.reduceLT, Nat.reduceSub, Nat.reduceLeDiff, Nat.reduceEqDiff, Nat.reduceBneDiff, Int.reduceToNat, decide_eq_true_eq, decide_eq_false_iff_not, beq_iff_eq, Int.toNat_natCast, loopK_normal, loopK_exit, loopK_ret, bne_self_eq_false, List.length_nil, Int.ofNat_zero]
      exact ⟨_, [], rfl, ⟨⟨⟨rfl, rfl, rfl⟩, trivial⟩, trivial, by simp [rn, hpAt]⟩⟩
    have e20 : ((xs.length : Int) > 1048576) = False := eq_false h20
    obtain ⟨⟨hm, hl5⟩, hQ1, hQ2⟩ := lpL_mid ys 0 15 (by omega)
    obtain ⟨l, hl⟩ : ∃ l, l = lpL ys 0 15 := ⟨_, rfl⟩
    have hl' := hl.symm
    rw [hl'] at hm hl5
    clear hl
    have hn := hm.1
    have hd := dhP_len ys
    obtain ⟨P, hP⟩ : ∃ P, P = dhP ys := ⟨_, rfl⟩
    have hP' := hP.symm
    rw [hP'] at hd
    clear hP
    obtain ⟨f, t, p, h, i, a, m, u, d⟩ := P
    obtain ⟨N, hN⟩ : ∃ N, N = pHearN l 3 ⟨f, t, p, h, i, a, m, u, d⟩ := ⟨_, rfl⟩
    have hNN := hN.symm
    obtain ⟨V, hV⟩ : ∃ V, V = pHearV l 3 ⟨f, t, p, h, i, a, m, u, d⟩ := ⟨_, rfl⟩
    have hVV := hV.symm
    dsimp only at hd
    clear hN hV
    rcases hb : posB l with _ | _
    · have e0 : phOkP l 3 ⟨f, t, p, h, i, a, m, u, d⟩ = false := by rw [phOkP, hb]; rfl
      have eN : N = 0 := by rw [← hNN]; exact hearN_no e0
      have eV : V = [] := by rw [← hVV, pHearV, if_neg (by rw [hb]; decide)]
      subst eN
      subst eV
      simp (maxSteps := 3000000) only [Try.f8, llr, e20, ← hys, hl', hP', hNN, hVV, hb, g_alive, g_sameMail, g_samePorts, g_portsOk, g_mailFrom, ocOf, g_portHearS, g_drawPh, bytesOf_rows, rowsOf_len, ↓reduceIte, Bool.false_eq_true, Bool.not_true, Bool.not_false, posOf_nil, posB_nil, poRows_len, mRows_len, posOf_rows, D.toI, D.toL, poRow, mlRow, tYs, evL, implies_true, oMin, oCopy, oBin, oUn, oLoadKid, oStoreTree, oField, oExtract, oNil, oSliceQ, oLoadRow, takeCells, TS.atRow, TS.ex, treeMode, AV.isOwn, TK.isSl, nilTk, nilsB, oLenQ, oLen, nodupB, treeOf, kidAbs, kidRows, TK.isCell, D.toL, oLoad, oStore, oMake, oIndexAddr, ↓reduceIte, reduceCtorEq, Nat.reduceBEq, Nat.reduceAdd, Nat.reduceMul, Nat.reduceLT, Nat.reduceSub, Nat.reduceLeDiff, Nat.reduceEqDiff, Nat.reduceBneDiff, Int.reduceToNat, decide_eq_true_eq, decide_eq_false_iff_not, beq_iff_eq, Int.toNat_natCast, loopK_normal, loopK_exit, loopK_ret, bne_self_eq_false, List.length_nil, Int.ofNat_zero]
      refine ⟨⟨xs, rfl⟩, ⟨⟨_, rfl, hm⟩, _, rfl, hd⟩, ⟨⟨_, rfl, hm⟩, _, rfl, hd⟩, ⟨_, rfl, rfl, poMid_nil⟩, ⟨_, rfl, hm⟩, ?_⟩
      exact ⟨_, [], rfl, ⟨⟨⟨rfl, rfl, rfl⟩, trivial⟩, trivial, by simp [rn, hpAt]⟩⟩
    by_cases h1 : N = 1
    rotate_left
    · have eV : V = l := by rw [← hVV]; exact hear_else hb (by rw [hNN]; exact h1)
      subst eV
      have n1 : (N != 1) = true := by simpa using h1
      have n1c : (N = 1) = False := eq_false h1
      simp (maxSteps := 3000000) only [Try.f8, llr, e20, ← hys, hl', hP', hNN, hVV, hb, n1, n1c, g_alive, g_sameMail, g_samePorts, g_portsOk, g_mailFrom, ocOf, g_portHearS, g_drawPh, bytesOf_rows, rowsOf_len, ↓reduceIte, Bool.false_eq_true, Bool.not_true, Bool.not_false, posOf_nil, posB_nil, poRows_len, mRows_len, posOf_rows, D.toI, D.toL, poRow, mlRow, tYs, evL, implies_true, oMin, oCopy, oBin, oUn, oLoadKid, oStoreTree, oField, oExtract, oNil, oSliceQ, oLoadRow, takeCells, TS.atRow, TS.ex, treeMode, AV.isOwn, TK.isSl, nilTk, nilsB, oLenQ, oLen, nodupB, treeOf, kidAbs, kidRows, TK.isCell, D.toL, oLoad, oStore, oMake, oIndexAddr, ↓reduceIte, reduceCtorEq, Nat.reduceBEq, Nat.reduceAdd, Nat.reduceMul, Nat.reduceLT, Nat.reduceSub, Nat.reduceLeDiff, Nat.reduceEqDiff, Nat.reduceBneDiff, Int.reduceToNat, decide_eq_true_eq, decide_eq_false_iff_not, beq_iff_eq, Int.toNat_natCast, loopK_normal, loopK_exit, loopK_ret, bne_self_eq_false, List.length_nil, Int.ofNat_zero]
      refine ⟨⟨xs, rfl⟩, ⟨⟨_, rfl, hm⟩, _, rfl, hd⟩, ⟨⟨_, rfl, hm⟩, _, rfl, hd⟩, ⟨_, rfl, rfl, hm⟩, ⟨_, rfl, hm⟩, ⟨_, rfl, rfl, hm⟩, ?_⟩
      exact ⟨_, [], rfl, ⟨⟨⟨rfl, rfl, rfl⟩, trivial⟩, trivial, by simp [rn, hpAt]⟩⟩
    subst h1
    obtain ⟨hok, hVb, n, hn', hnx, hVe⟩ := hear_here hNN
    rw [hVV] at hVb hVe
    dsimp only at hok
    obtain ⟨m1, m2, m3, m4⟩ := mf_pos hok
    have hvm := poMid_ok hVb
    have hVl : V.length = l.length := by rw [hVe, List.length_set]
    simp (maxSteps := 3000000) only [Try.f8, llr, e20, ← hys, hl', hP', hNN, hVV, hb, hok, m1, m2, m3, m4, g_alive, g_sameMail, g_samePorts, g_portsOk, g_mailFrom, ocOf, g_portHearS, g_drawPh, bytesOf_rows, rowsOf_len, ↓reduceIte, Bool.false_eq_true, Bool.not_true, Bool.not_false, posOf_nil, posB_nil, poRows_len, mRows_len, posOf_rows, D.toI, D.toL, poRow, mlRow, tYs, evL, implies_true, oMin, oCopy, oBin, oUn, oLoadKid, oStoreTree, oField, oExtract, oNil, oSliceQ, oLoadRow, takeCells, TS.atRow, TS.ex, treeMode, AV.isOwn, TK.isSl, nilTk, nilsB, oLenQ, oLen, nodupB, treeOf, kidAbs, kidRows, TK.isCell, D.toL, oLoad, oStore, oMake, oIndexAddr, ↓reduceIte, reduceCtorEq, Nat.reduceBEq, Nat.reduceAdd, Nat.reduceMul, Nat.reduceLT, Nat.reduceSub, Nat.reduceLeDiff, Nat.reduceEqDiff, Nat.reduceBneDiff, Int.reduceToNat, decide_eq_true_eq, decide_eq_false_iff_not, beq_iff_eq, Int.toNat_natCast, loopK_normal, loopK_exit, loopK_ret, bne_self_eq_false, List.length_nil, Int.ofNat_zero]
    refine ⟨⟨xs, rfl⟩, ⟨⟨_, rfl, hm⟩, _, rfl, hd⟩, ⟨⟨_, rfl, hm⟩, _, rfl, hd⟩, ⟨_, rfl, rfl, hvm⟩, ⟨_, rfl, hm⟩, ⟨_, rfl, hd⟩, ?_⟩
    refine e_loop _ _ _ _ _ _ _ _ (fun k : Nat => [.any, .any, .any, .l 2 (poRows l), .any, .any, .own 0, .any, .any, .any, .ptr 2 0, .v (.bool true), .v (.int .i64 (hMore n k)), .v (.int .i64 (k : Int))] ++ List.replicate (Try.f8.ntmps - 14) .any) (fun k => [(0, .sl 53 2 (poRows V)), (1, .sl 5 1 (rowsOfBytes ((d.drop 3).take (d.length - 5)))), (2, .var 24 [.v (.int .i64 f), .v (.int .i64 ((d.getD 0 0).toNat : Int)), .v (.int .i64 ((d.getD 1 0).toNat : Int)), .own 1])]) (fun k => k ≤ l.length) (fun k => l.length - k) 3 (fun k => by simp) ?_ fun k hk' => ?_
    · exact ⟨0, [(0, some _), (1, some _), (2, some _)], Nat.zero_le _, ⟨⟨trivial, trivial, trivial, ⟨rfl, rfl, rfl⟩, trivial, trivial, ⟨rfl, rfl, rfl⟩, trivial, trivial, trivial, ⟨rfl, rfl, rfl⟩, ⟨rfl, rfl, rfl⟩, ⟨rfl, rfl, rfl⟩, ⟨rfl, rfl, rfl⟩, fitT_rep _ _ rfl⟩, ⟨.inl rfl, rfl, rfl, rfl, .inl rfl, rfl, rfl, rfl, .inl rfl, rfl, rfl, rfl, trivial⟩, by simp [rn, hpAt]⟩, by simp [keepIds]⟩
    have hk1 : k ≤ l.length := hk'
    have w2 : IntKind.i64.wrap ((k : Int) + 1) = ((k + 1 : Nat) : Int) := by rw [wrap_id] <;> omega
    have hrow := fun q (hq : q < l.length) => poRows_get l q hq
    have hMM : mfM f d = ⟨f, ((d.getD 0 0).toNat : Int), ((d.getD 1 0).toNat : Int), (d.drop 3).take (d.length - 5)⟩ := rfl
    by_cases hk : k < l.length
    · have c1 : ((k : Int) < (l.length : Int)) = True := eq_true (by omega)
      have c1v : ((k : Int) < (V.length : Int)) = True := eq_true (by omega)
      have c0 : (0 ≤ (k : Int)) = True := eq_true (by omega)
      have hkV : k < V.length := by omega
      have hrl := poRows_get l k hk
      have hrV := poRows_get V k hkV
      by_cases hkn : k = n
      · subst hkn
        have hVk : V[k] = ⟨l[k].n, l[k].row ++ [mfM f d]⟩ := by
          simp only [hVe, List.getElem_set_self]
        have hx := (hm.2 l[k] (List.getElem_mem hk)).1
        have hlen : (V[k].row.length : Int) = (l[k].row.length : Int) + 1 := by rw [hVk]; simp
        have hgt : ((V[k].row.length : Int) > (l[k].row.length : Int)) = True := eq_true (by omega)
        have w3 : IntKind.i64.wrap (IntKind.i64.wrap (hMore k k + (V[k].row.length : Int)) - (l[k].row.length : Int)) = hMore k (k + 1) := by
          have wa : IntKind.i64.wrap (0 + ((l[k].row.length : Int) + 1)) = (l[k].row.length : Int) + 1 := by rw [wrap_id] <;> omega
          rw [hMore_lt (Nat.le_refl _), hMore_gt (Nat.lt_succ_self _), hlen, wa, wrap_id] <;> omega
        have w4 : IntKind.i64.wrap ((V[k].row.length : Int) - 1) = (l[k].row.length : Int) := by rw [hlen, wrap_id (by omega) (by omega)]; omega
        have hlr : l[k].row.length < V[k].row.length := by omega
        have hrm := mRows_get V[k].row l[k].row.length hlr
        have hlast : V[k].row[l[k].row.length] = mfM f d := by simp only [hVk, List.getElem_concat_length]
        have hjl : ((l[k].row.length : Int) < (V[k].row.length : Int)) = True := eq_true (by omega)
        have hj0 : (0 ≤ (l[k].row.length : Int)) = True := eq_true (by omega)
        rw [hlast, hMM] at hrm
        have hnn : (V[k].n != ((d.getD 1 0).toNat : Int)) = false := by
          rw [hVk, bne_eq_false_iff_eq]; exact hnx
        simp (maxSteps := 3000000) only [Try.f8, llr, e20, ← hys, hl', hP', hNN, hVV, c1, c1v, c0, hrl, hrV, hgt, w3, w4, hjl, hj0, hrm, hnn, w2, decide_true, and_self, g_alive, g_sameMail, g_samePorts, g_portsOk, g_mailFrom, ocOf, g_portHearS, g_drawPh, bytesOf_rows, rowsOf_len, ↓reduceIte, Bool.false_eq_true, Bool.not_true, Bool.not_false, posOf_nil, posB_nil, poRows_len, mRows_len, posOf_rows, D.toI, D.toL, poRow, mlRow, tYs, evL, implies_true, oMin, oCopy, oBin, oUn, oLoadKid, oStoreTree, oField, oExtract, oNil, oSliceQ, oLoadRow, takeCells, TS.atRow, TS.ex, treeMode, AV.isOwn, TK.isSl, nilTk, nilsB, oLenQ, oLen, nodupB, treeOf, kidAbs, kidRows, TK.isCell, D.toL, oLoad, oStore, oMake, oIndexAddr, ↓reduceIte, reduceCtorEq, Nat.reduceBEq, Nat.reduceAdd, Nat.reduceMul, Nat.reduceLT, Nat.reduceSub, Nat.reduceLeDiff, Nat.reduceEqDiff, Nat.reduceBneDiff, Int.reduceToNat, decide_eq_true_eq, decide_eq_false_iff_not, beq_iff_eq, Int.toNat_natCast, loopK_normal, loopK_exit, loopK_ret, bne_self_eq_false, List.length_nil, Int.ofNat_zero]
        exact ⟨hkV, ⟨_, rfl⟩, hkV, by kernel_rfl, k + 1, [(0, some 0), (1, some 1), (2, some 2)], by omega, by omega, ⟨⟨trivial, trivial, trivial, ⟨rfl, rfl, rfl⟩, trivial, trivial, ⟨rfl, rfl, rfl⟩, trivial, trivial, trivial, ⟨rfl, rfl, rfl⟩, ⟨rfl, rfl, rfl⟩, ⟨rfl, rfl, rfl⟩, ⟨rfl, rfl, rfl⟩, fitT_rep _ _ rfl⟩, ⟨.inl rfl, rfl, rfl, rfl, .inl rfl, rfl, rfl, rfl, .inl rfl, rfl, rfl, rfl, trivial⟩, by simp [rn, hpAt]⟩, by simp [keepIds]⟩
      · have hVk : V[k] = l[k] := by
          simp only [hVe]
          rw [List.getElem_set_ne (by omega)]
        have hgt : ((l[k].row.length : Int) > (l[k].row.length : Int)) = False := eq_false (by omega)
        have hMk : hMore n k = hMore n (k + 1) := by
          rcases Nat.lt_or_ge n k with q | q
          · rw [hMore_gt q, hMore_gt (by omega)]
          · rw [hMore_lt q, hMore_lt (by omega)]
        rw [hVk] at hrV
        simp (maxSteps := 3000000) only [Try.f8, llr, e20, ← hys, hl', hP', hNN, hVV, c1, c1v, c0, hrl, hrV, hgt, w2, hMk, g_alive, g_sameMail, g_samePorts, g_portsOk, g_mailFrom, ocOf, g_portHearS, g_drawPh, bytesOf_rows, rowsOf_len, ↓reduceIte, Bool.false_eq_true, Bool.not_true, Bool.not_false, posOf_nil, posB_nil, poRows_len, mRows_len, posOf_rows, D.toI, D.toL, poRow, mlRow, tYs, evL, implies_true, oMin, oCopy, oBin, oUn, oLoadKid, oStoreTree, oField, oExtract, oNil, oSliceQ, oLoadRow, takeCells, TS.atRow, TS.ex, treeMode, AV.isOwn, TK.isSl, nilTk, nilsB, oLenQ, oLen, nodupB, treeOf, kidAbs, kidRows, TK.isCell, D.toL, oLoad, oStore, oMake, oIndexAddr, ↓reduceIte, reduceCtorEq, Nat.reduceBEq, Nat.reduceAdd, Nat.reduceMul, Nat.reduceLT, Nat.reduceSub, Nat.reduceLeDiff, Nat.reduceEqDiff, Nat.reduceBneDiff, Int.reduceToNat, decide_eq_true_eq, decide_eq_false_iff_not, beq_iff_eq, Int.toNat_natCast, loopK_normal, loopK_exit, loopK_ret, bne_self_eq_false, List.length_nil, Int.ofNat_zero]
        exact ⟨hkV, k + 1, [(0, some 0), (1, some 1), (2, some 2)], by omega, by omega, ⟨⟨trivial, trivial, trivial, ⟨rfl, rfl, rfl⟩, trivial, trivial, ⟨rfl, rfl, rfl⟩, trivial, trivial, trivial, ⟨rfl, rfl, rfl⟩, ⟨rfl, rfl, rfl⟩, ⟨rfl, rfl, rfl⟩, ⟨rfl, rfl, rfl⟩, fitT_rep _ _ rfl⟩, ⟨.inl rfl, rfl, rfl, rfl, .inl rfl, rfl, rfl, rfl, .inl rfl, rfl, rfl, rfl, trivial⟩, by simp [rn, hpAt]⟩, by simp [keepIds]⟩
    · have c1 : ((k : Int) < (l.length : Int)) = False := eq_false (by omega)
      have hM1 : hMore n k = 1 := hMore_gt (by omega)
      simp (maxSteps := 3000000) only [Try.f8, llr, e20, ← hys, hl', hP', hNN, hVV, c1, hM1, hVb, g_alive, g_sameMail, g_samePorts, g_portsOk, g_mailFrom, ocOf, g_portHearS, g_drawPh, bytesOf_rows, rowsOf_len, ↓reduceIte, Bool.false_eq_true, Bool.not_true, Bool.not_false, posOf_nil, posB_nil, poRows_len, mRows_len, posOf_rows, D.toI, D.toL, poRow, mlRow, tYs, evL, implies_true, oMin, oCopy, oBin, oUn, oLoadKid, oStoreTree, oField, oExtract, oNil, oSliceQ, oLoadRow, takeCells, TS.atRow, TS.ex, treeMode, AV.isOwn, TK.isSl, nilTk, nilsB, oLenQ, oLen, nodupB, treeOf, kidAbs, kidRows, TK.isCell, D.toL, oLoad, oStore, oMake, oIndexAddr, ↓reduceIte, reduceCtorEq, Nat.reduceBEq, Nat.reduceAdd, Nat.reduceMul, Nat.reduceLT, Nat.reduceSub, Nat.reduceLeDiff, Nat.reduceEqDiff, Nat.reduceBneDiff, Int.reduceToNat, decide_eq_true_eq, decide_eq_false_iff_not, beq_iff_eq, Int.toNat_natCast, loopK_normal, loopK_exit, loopK_ret, bne_self_eq_false, List.length_nil, Int.ofNat_zero]
      refine ⟨⟨_, rfl, hvm⟩, ?_⟩
      exact ⟨_, [], rfl, ⟨⟨⟨rfl, rfl, rfl⟩, trivial⟩, trivial, by simp [rn, hpAt]⟩⟩
  · cases hg
theorem walk_PortsOk (A : Option Addr) (n c : Nat) (xs : List UInt8) (w : World) (h : Rd w w.heap.size A n (bv xs)) (hc : n ≤ c) :
    Calls Try.prog 6 #[.slice A n c] w fun e w' => e = .returned (.bool true) ∧ Below w.heap.size w w' :=
  lawPortsOk_ok.walk (vs := [_]) (arel_cons (.l _ _ _ (rep_of_rd h hc)) arel_nil) rfl ⟨xs, rfl⟩
theorem walk_PortListen (A : Option Addr) (n c : Nat) (xs : List UInt8) (w : World) (h : Rd w w.heap.size A n (bv xs)) (hc : n ≤ c) :
    Calls Try.prog 7 #[.slice A n c] w fun e w' => e = .returned (.bool true) ∧ Below w.heap.size w w' :=
  lawPortListen_ok.walk (vs := [_]) (arel_cons (.l _ _ _ (rep_of_rd h hc)) arel_nil) rfl ⟨xs, rfl⟩
theorem walk_PortHear (A : Option Addr) (n c : Nat) (xs : List UInt8) (w : World) (h : Rd w w.heap.size A n (bv xs)) (hc : n ≤ c) :
    Calls Try.prog 8 #[.slice A n c] w fun e w' => e = .returned (.bool true) ∧ Below w.heap.size w w' :=
  lawPortHear_ok.walk (vs := [_]) (arel_cons (.l _ _ _ (rep_of_rd h hc)) arel_nil) rfl ⟨xs, rfl⟩
end Go.Proofs.Ytknnobnedepinaa
