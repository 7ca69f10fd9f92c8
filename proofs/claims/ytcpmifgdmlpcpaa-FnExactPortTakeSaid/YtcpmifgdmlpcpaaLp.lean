import Derived.Test.YtcpmifgdmlpcpaaLi
import Derived.Test.YtcpmifgdmlpcpaaR8
set_option linter.unusedVariables false
set_option linter.unusedSimpArgs false
namespace Go.Proofs.Ytcpmifgdmlpcpaa
open Go.RowKit
set_option linter.unusedSimpArgs false
def g_portTakeT : PC := fun args => match args with
  | [.l _ rows, .v (.int .i64 x)] => some (∃ l, rows = poRows l ∧ poMid l, .tup [.own 0, .agg [.v (.int .i64 (ptM (posOf rows) x).a), .v (.int .i64 (ptM (posOf rows) x).f), .v (.int .i64 (ptM (posOf rows) x).t), .own 1], .v (.bool (ptB (posOf rows) x))], [.tr .whole 44 2 [.cell, .sl 27 4 [.cell, .cell, .cell, .sl 5 1 [.cell]]] (poRows (ptV (posOf rows) x)), .tr .whole 5 1 [.cell] (rowsOfBytes (ptM (posOf rows) x).d)])
  | _ => none
def g_portTake : PC := fun args => match args with
  | [.l _ rows, .v (.int .i64 x)] => some (∃ l, rows = poRows l ∧ poMid l, .tup [.own 0, .agg [.v (.int .i64 (ptM (posOf rows) x).a), .v (.int .i64 (ptM (posOf rows) x).f), .v (.int .i64 (ptM (posOf rows) x).t), .own 1], .v (.bool (ptB (posOf rows) x))], [.tr .whole 44 2 [.cell, .sl 27 4 [.cell, .cell, .cell, .sl 5 1 [.cell]]] (poRows (ptV (posOf rows) x)), .sl 5 1 (rowsOfBytes (ptM (posOf rows) x).d)])
  | _ => none
def ptk1 : List (FuncId × Abs) := [(19, pureAbs g_portsOk), (20, pureAbs g_portsCopied), (19, pureAbs g_portsOk), (21, pureAbs g_portAt)]
theorem ptk1_ok : ∀ p ∈ ptk1, CallOk Try.prog p.1 p.2 := by
  intro p hp
  simp only [ptk1, List.mem_cons, List.not_mem_nil, or_false] at hp
  rcases hp with rfl | rfl | rfl | rfl
  · exact implPortsOk_ok.call
  · exact portsCopied_ok.call
  · exact implPortsOk_ok.call
  · exact portAt_ok.call
set_option maxHeartbeats 4000000 in
set_option maxRecDepth 100000 in
theorem implPortTakeT_ok : PureOk Try.prog 7 g_portTakeT := by
  refine PureOk.of_vc (G := ptk1) ptk1_ok mixed Try.func7 (by kernel_rfl) rfl ?_
  intro args cnd r bs hg hc
  unfold g_portTakeT at hg
  split at hg
  · rename_i sz rows x
    cases hg
    obtain ⟨l, rfl, hm⟩ := hc
    rw [posOf_rows]
    have hn := hm.1
    refine ⟨⟨rfl, by intro b hb; simp only [List.mem_cons, List.not_mem_nil, or_false] at hb; rcases hb with rfl | rfl <;> trivial, by simp [AV.ids, AV.ids.idsL]⟩, [.l 2 (poRows l), .v (.int .i64 x)], rfl, fun w vs h => CvL.ok (.cons (.l _ _ _ (poRows_w l)) (.cons (.refl _) .nil)) h, ?_⟩
    rcases hb : posB l with _ | _
    · have e1 : ptB l x = false := by rw [ptB, hb]; rfl
      have e2 : ptV l x = [] := by rw [ptV, e1, hb]; rfl
      have e3 : ptM l x = ml0 := by rw [ptM, e1]; rfl
      rw [e1, e2, e3]
      simp (maxSteps := 3000000) only [Try.f7, ptk1, g_portsOk, g_portsCopied, g_portAt, poRows_len, mRows_len, posOf_rows, TS.cutB, takeCells, D.toI, D.toL, poRow, mlRow, hb, ↓reduceIte, Bool.false_eq_true, tYs, evL, implies_true, oMin, x_max, oMax, oCopy, oBin, oUn, oLoadKid, oStoreTree, oField, oExtract, oNil, oSliceQ, oSliceE, x_appendZ, oAppendZ, oSliceEnd, endMode, oLoadRow, takeCells, TS.atRow, TS.ex, treeMode, AV.isOwn, TK.isSl, nilTk, nilsB, oLenQ, oLen, nodupB, treeOf, kidAbs, kidRows, TK.isCell, D.toL, oLoad, oStore, oMake, oIndexAddr, ↓reduceIte, reduceCtorEq, Nat.reduceBEq, Nat.reduceAdd, Nat.reduceMul, Nat.reduceLT, Nat.reduceSub, Nat.reduceLeDiff, Nat.reduceEqDiff, Nat.reduceBneDiff, Int.reduceToNat, decide_eq_true_eq, decide_eq_false_iff_not, beq_iff_eq, Int.toNat_natCast]
      refine ⟨⟨_, rfl, hm⟩, ?_⟩
      exact ⟨_, [(0, none), (1, none)], rfl, ⟨⟨⟨rfl, rfl, rfl⟩, trivial⟩, ⟨⟨by omega, rfl, rfl⟩, rfl, rfl, rfl, ⟨by omega, rfl, rfl⟩, rfl, rfl, rfl, trivial⟩, by simp [rn, hpAt]⟩⟩
    cases ha : poAt l x with
    | none =>
      have e1 : ptB l x = false := by rw [ptB, ha, Bool.and_false]
      have e2 : ptV l x = l := by rw [ptV, e1, hb]; rfl
      have e3 : ptM l x = ml0 := by rw [ptM, e1]; rfl
      have hlt : ((-1 : Int) < 0) = True := eq_true (by omega)
      rw [e1, e2, e3]
      simp (maxSteps := 3000000) only [Try.f7, ptk1, g_portsOk, g_portsCopied, g_portAt, poRows_len, mRows_len, posOf_rows, TS.cutB, takeCells, D.toI, D.toL, poRow, mlRow, hb, poI_none ha, hlt, ↓reduceIte, Bool.false_eq_true, tYs, evL, implies_true, oMin, x_max, oMax, oCopy, oBin, oUn, oLoadKid, oStoreTree, oField, oExtract, oNil, oSliceQ, oSliceE, x_appendZ, oAppendZ, oSliceEnd, endMode, oLoadRow, takeCells, TS.atRow, TS.ex, treeMode, AV.isOwn, TK.isSl, nilTk, nilsB, oLenQ, oLen, nodupB, treeOf, kidAbs, kidRows, TK.isCell, D.toL, oLoad, oStore, oMake, oIndexAddr, ↓reduceIte, reduceCtorEq, Nat.reduceBEq, Nat.reduceAdd, Nat.reduceMul, Nat.reduceLT, Nat.reduceSub, Nat.reduceLeDiff, Nat.reduceEqDiff, Nat.reduceBneDiff, Int.reduceToNat, decide_eq_true_eq, decide_eq_false_iff_not, beq_iff_eq, Int.toNat_natCast]
      refine ⟨⟨_, rfl, hm⟩, ⟨_, rfl, hm⟩, ⟨_, rfl, hn⟩, ?_⟩
      exact ⟨_, [(0, some _), (1, none)], rfl, ⟨⟨⟨rfl, rfl, rfl⟩, trivial⟩, ⟨.inl rfl, rfl, rfl, rfl, ⟨by omega, rfl, rfl⟩, rfl, rfl, rfl, trivial⟩, by simp [rn, hpAt]⟩⟩
    | some n =>
      obtain ⟨hnl, hnx⟩ := poAt_some ha
      have hlt : ((n : Int) < 0) = False := eq_false (by omega)
      have hrow := poRows_get l n hnl
      have hx := hm.2 l[n] (List.getElem_mem hnl)
      have hx1 := hx.1
      have eS : (poRows l).set n [.v (.int .i64 l[n].n), .l 4 (mRows l[n].row)] = poRows l := by
        rw [poRows_set, List.set_getElem_self]
      by_cases h0 : l[n].row.length = 0
      · have e1 : ptB l x = false := by
          rw [ptB, ha]
          dsimp only
          rw [po_get hnl, decide_eq_false (by omega), Bool.and_false]
        have e2 : ptV l x = l := by rw [ptV, e1, hb]; rfl
        have e3 : ptM l x = ml0 := by rw [ptM, e1]; rfl
        have h0b : ((l[n].row.length : Int) == 0) = true := beq_iff_eq.2 (by omega)
        have h0c : ((l[n].row.length : Int) = 0) = True := eq_true (by omega)
        rw [e1, e2, e3]
        simp (maxSteps := 3000000) only [Try.f7, ptk1, g_portsOk, g_portsCopied, g_portAt, poRows_len, mRows_len, posOf_rows, TS.cutB, takeCells, D.toI, D.toL, poRow, mlRow, hb, poI_some ha, hlt, hrow, h0b, h0c, eS, Int.toNat_natCast, ↓reduceIte, Bool.false_eq_true, tYs, evL, implies_true, oMin, x_max, oMax, oCopy, oBin, oUn, oLoadKid, oStoreTree, oField, oExtract, oNil, oSliceQ, oSliceE, x_appendZ, oAppendZ, oSliceEnd, endMode, oLoadRow, takeCells, TS.atRow, TS.ex, treeMode, AV.isOwn, TK.isSl, nilTk, nilsB, oLenQ, oLen, nodupB, treeOf, kidAbs, kidRows, TK.isCell, D.toL, oLoad, oStore, oMake, oIndexAddr, ↓reduceIte, reduceCtorEq, Nat.reduceBEq, Nat.reduceAdd, Nat.reduceMul, Nat.reduceLT, Nat.reduceSub, Nat.reduceLeDiff, Nat.reduceEqDiff, Nat.reduceBneDiff, Int.reduceToNat, decide_eq_true_eq, decide_eq_false_iff_not, beq_iff_eq, Int.toNat_natCast]
        refine ⟨⟨_, rfl, hm⟩, ⟨_, rfl, hm⟩, ⟨_, rfl, hn⟩, ?_⟩
        repeat' first
          | refine And.intro hnl ?_
          | refine And.intro ⟨by omega, by omega⟩ ?_
          | refine And.intro (by omega) ?_
          | refine And.intro (by kernel_rfl) ?_
        exact ⟨_, [(0, some _), (1, none)], rfl, ⟨⟨⟨rfl, rfl, rfl⟩, trivial⟩, ⟨.inl rfl, rfl, rfl, rfl, ⟨by omega, rfl, rfl⟩, rfl, rfl, rfl, trivial⟩, by simp [rn, hpAt]⟩⟩
      · have h0b : ((l[n].row.length : Int) == 0) = false := by rw [beq_eq_false_iff_ne]; omega
        have h0c : ((l[n].row.length : Int) = 0) = False := eq_false (by omega)
        have e1 : ptB l x = true := by
          rw [ptB, hb, ha]
          dsimp only
          rw [po_get hnl, decide_eq_true (by omega)]; rfl
        have hN : ptN l x = n := by rw [ptN, ha]; rfl
        have hl0 : 0 < l[n].row.length := by omega
        have e3 : ptM l x = l[n].row[0] := by rw [ptM, if_pos e1, hN, po_get hnl, ml_get hl0]
        have e2 : ptV l x = l.set n ⟨l[n].n, l[n].row.drop 1⟩ := by rw [ptV, if_pos e1, hN, po_get hnl]
        have hrm := mRows_get l[n].row 0 hl0
        have hlp : ((0 : Int) < (l[n].row.length : Int)) = True := eq_true (by omega)
        have e4 : (poRows l).set n [.v (.int .i64 l[n].n), .l 4 ((mRows l[n].row).drop 1)] = poRows (l.set n ⟨l[n].n, l[n].row.drop 1⟩) := by
          rw [mRows_drop, ← poRows_set]
        rw [e1, e2, e3]
        simp (maxSteps := 3000000) only [Try.f7, ptk1, g_portsOk, g_portsCopied, g_portAt, poRows_len, mRows_len, posOf_rows, TS.cutB, takeCells, D.toI, D.toL, poRow, mlRow, hb, poI_some ha, hlt, hrow, h0b, h0c, hrm, hlp, eS, e4, Int.toNat_natCast, ↓reduceIte, Bool.false_eq_true, tYs, evL, implies_true, oMin, x_max, oMax, oCopy, oBin, oUn, oLoadKid, oStoreTree, oField, oExtract, oNil, oSliceQ, oSliceE, x_appendZ, oAppendZ, oSliceEnd, endMode, oLoadRow, takeCells, TS.atRow, TS.ex, treeMode, AV.isOwn, TK.isSl, nilTk, nilsB, oLenQ, oLen, nodupB, treeOf, kidAbs, kidRows, TK.isCell, D.toL, oLoad, oStore, oMake, oIndexAddr, ↓reduceIte, reduceCtorEq, Nat.reduceBEq, Nat.reduceAdd, Nat.reduceMul, Nat.reduceLT, Nat.reduceSub, Nat.reduceLeDiff, Nat.reduceEqDiff, Nat.reduceBneDiff, Int.reduceToNat, decide_eq_true_eq, decide_eq_false_iff_not, beq_iff_eq, Int.toNat_natCast]
        exact ⟨⟨_, rfl, hm⟩, ⟨_, rfl, hm⟩, ⟨_, rfl, hn⟩, ⟨by omega, by omega⟩, hnl, ⟨by omega, by omega⟩, hnl, by omega, hl0, ⟨by omega, by omega⟩, ⟨by omega, by omega⟩, ⟨by omega, by omega⟩, hnl, by kernel_rfl, _, [(0, some _), (1, some _)], rfl, ⟨⟨⟨rfl, rfl, rfl⟩, trivial⟩, ⟨.inl rfl, rfl, rfl, rfl, .inl rfl, rfl, rfl, rfl, trivial⟩, by simp [rn, hpAt]⟩⟩
  · cases hg
theorem implPortTake_ok : PureOk Try.prog 7 g_portTake := implPortTakeT_ok.toFlat fun args c r bs' h => by
  unfold g_portTake at h
  split at h
  · cases h
    refine ⟨_, rfl, rfl, fun b hb => ?_, fun b hb => ?_⟩
    · simp only [List.mem_cons, List.not_mem_nil, or_false] at hb
      rcases hb with rfl | rfl <;> rfl
    · simp only [List.mem_cons, List.not_mem_nil, or_false] at hb
      rcases hb with rfl | rfl
      · trivial
      · exact rowsOf_flat _
  · cases h
def ptk2 : List (FuncId × Abs) := [(15, pureAbs g_portsOk), (16, pureAbs g_portsCopied), (15, pureAbs g_portsOk), (17, pureAbs g_portAt)]
theorem ptk2_ok : ∀ p ∈ ptk2, CallOk Try.prog p.1 p.2 := by
  intro p hp
  simp only [ptk2, List.mem_cons, List.not_mem_nil, or_false] at hp
  rcases hp with rfl | rfl | rfl | rfl
  · exact specPortsOk_ok.call
  · exact l9Copy_ok.call
  · exact specPortsOk_ok.call
  · exact l9At_ok.call
set_option maxHeartbeats 4000000 in
set_option maxRecDepth 100000 in
theorem specPortTakeT_ok : PureOk Try.prog 5 g_portTakeT := by
  refine PureOk.of_vc (G := ptk2) ptk2_ok mixed Try.func5 (by kernel_rfl) rfl ?_
  intro args cnd r bs hg hc
  unfold g_portTakeT at hg
  split at hg
  · rename_i sz rows x
    cases hg
    obtain ⟨l, rfl, hm⟩ := hc
    rw [posOf_rows]
    have hn := hm.1
    refine ⟨⟨rfl, by intro b hb; simp only [List.mem_cons, List.not_mem_nil, or_false] at hb; rcases hb with rfl | rfl <;> trivial, by simp [AV.ids, AV.ids.idsL]⟩, [.l 2 (poRows l), .v (.int .i64 x)], rfl, fun w vs h => CvL.ok (.cons (.l _ _ _ (poRows_w l)) (.cons (.refl _) .nil)) h, ?_⟩
    rcases hb : posB l with _ | _
    · have e1 : ptB l x = false := by rw [ptB, hb]; rfl
      have e2 : ptV l x = [] := by rw [ptV, e1, hb]; rfl
      have e3 : ptM l x = ml0 := by rw [ptM, e1]; rfl
      rw [e1, e2, e3]
      simp (maxSteps := 3000000) only [Try.f5, ptk2, g_portsOk, g_portsCopied, g_portAt, poRows_len, mRows_len, posOf_rows, TS.cutB, takeCells, D.toI, D.toL, poRow, mlRow, hb, ↓reduceIte, Bool.false_eq_true, tYs, evL, implies_true, oMin, x_max, oMax, oCopy, oBin, oUn, oLoadKid, oStoreTree, oField, oExtract, oNil, oSliceQ, oSliceE, x_appendZ, oAppendZ, oSliceEnd, endMode, oLoadRow, takeCells, TS.atRow, TS.ex, treeMode, AV.isOwn, TK.isSl, nilTk, nilsB, oLenQ, oLen, nodupB, treeOf, kidAbs, kidRows, TK.isCell, D.toL, oLoad, oStore, oMake, oIndexAddr, ↓reduceIte, reduceCtorEq, Nat.reduceBEq, Nat.reduceAdd, Nat.reduceMul, Nat.reduceLT, Nat.reduceSub, Nat.reduceLeDiff, Nat.reduceEqDiff, Nat.reduceBneDiff, Int.reduceToNat, decide_eq_true_eq, decide_eq_false_iff_not, beq_iff_eq, Int.toNat_natCast]
      refine ⟨⟨_, rfl, hm⟩, ?_⟩
      exact ⟨_, [(0, some _), (1, none)], rfl, ⟨⟨⟨rfl, rfl, rfl⟩, trivial⟩, ⟨.inr (.inl ⟨rfl, rfl, rfl⟩), rfl, rfl, rfl, ⟨by omega, rfl, rfl⟩, rfl, rfl, rfl, trivial⟩, by simp [rn, hpAt]⟩⟩
    cases ha : poAt l x with
    | none =>
      have e1 : ptB l x = false := by rw [ptB, ha, Bool.and_false]
      have e2 : ptV l x = l := by rw [ptV, e1, hb]; rfl
      have e3 : ptM l x = ml0 := by rw [ptM, e1]; rfl
      have hlt : ((-1 : Int) < 0) = True := eq_true (by omega)
      rw [e1, e2, e3]
      simp (maxSteps := 3000000) only [Try.f5, ptk2, g_portsOk, g_portsCopied, g_portAt, poRows_len, mRows_len, posOf_rows, TS.cutB, takeCells, D.toI, D.toL, poRow, mlRow, hb, poI_none ha, hlt, ↓reduceIte, Bool.false_eq_true, tYs, evL, implies_true, oMin, x_max, oMax, oCopy, oBin, oUn, oLoadKid, oStoreTree, oField, oExtract, oNil, oSliceQ, oSliceE, x_appendZ, oAppendZ, oSliceEnd, endMode, oLoadRow, takeCells, TS.atRow, TS.ex, treeMode, AV.isOwn, TK.isSl, nilTk, nilsB, oLenQ, oLen, nodupB, treeOf, kidAbs, kidRows, TK.isCell, D.toL, oLoad, oStore, oMake, oIndexAddr, ↓reduceIte, reduceCtorEq, Nat.reduceBEq, Nat.reduceAdd, Nat.reduceMul, Nat.reduceLT, Nat.reduceSub, Nat.reduceLeDiff, Nat.reduceEqDiff, Nat.reduceBneDiff, Int.reduceToNat, decide_eq_true_eq, decide_eq_false_iff_not, beq_iff_eq, Int.toNat_natCast]
      refine ⟨⟨_, rfl, hm⟩, ⟨_, rfl, hm⟩, ⟨_, rfl, hn⟩, ?_⟩
      exact ⟨_, [(0, some _), (1, none)], rfl, ⟨⟨⟨rfl, rfl, rfl⟩, trivial⟩, ⟨.inl rfl, rfl, rfl, rfl, ⟨by omega, rfl, rfl⟩, rfl, rfl, rfl, trivial⟩, by simp [rn, hpAt]⟩⟩
    | some n =>
      obtain ⟨hnl, hnx⟩ := poAt_some ha
      have hlt : ((n : Int) < 0) = False := eq_false (by omega)
      have hrow := poRows_get l n hnl
      have hx := hm.2 l[n] (List.getElem_mem hnl)
      have hx1 := hx.1
      have eS : (poRows l).set n [.v (.int .i64 l[n].n), .l 4 (mRows l[n].row)] = poRows l := by
        rw [poRows_set, List.set_getElem_self]
      by_cases h0 : l[n].row.length = 0
      · have e1 : ptB l x = false := by
          rw [ptB, ha]
          dsimp only
          rw [po_get hnl, decide_eq_false (by omega), Bool.and_false]
        have e2 : ptV l x = l := by rw [ptV, e1, hb]; rfl
        have e3 : ptM l x = ml0 := by rw [ptM, e1]; rfl
        have h0b : ((l[n].row.length : Int) == 0) = true := beq_iff_eq.2 (by omega)
        have h0c : ((l[n].row.length : Int) = 0) = True := eq_true (by omega)
        rw [e1, e2, e3]
        simp (maxSteps := 3000000) only [Try.f5, ptk2, g_portsOk, g_portsCopied, g_portAt, poRows_len, mRows_len, posOf_rows, TS.cutB, takeCells, D.toI, D.toL, poRow, mlRow, hb, poI_some ha, hlt, hrow, h0b, h0c, eS, Int.toNat_natCast, ↓reduceIte, Bool.false_eq_true, tYs, evL, implies_true, oMin, x_max, oMax, oCopy, oBin, oUn, oLoadKid, oStoreTree, oField, oExtract, oNil, oSliceQ, oSliceE, x_appendZ, oAppendZ, oSliceEnd, endMode, oLoadRow, takeCells, TS.atRow, TS.ex, treeMode, AV.isOwn, TK.isSl, nilTk, nilsB, oLenQ, oLen, nodupB, treeOf, kidAbs, kidRows, TK.isCell, D.toL, oLoad, oStore, oMake, oIndexAddr, ↓reduceIte, reduceCtorEq, Nat.reduceBEq, Nat.reduceAdd, Nat.reduceMul, Nat.reduceLT, Nat.reduceSub, Nat.reduceLeDiff, Nat.reduceEqDiff, Nat.reduceBneDiff, Int.reduceToNat, decide_eq_true_eq, decide_eq_false_iff_not, beq_iff_eq, Int.toNat_natCast]
        refine ⟨⟨_, rfl, hm⟩, ⟨_, rfl, hm⟩, ⟨_, rfl, hn⟩, ?_⟩
        repeat' first
          | refine And.intro hnl ?_
          | refine And.intro ⟨by omega, by omega⟩ ?_
          | refine And.intro (by omega) ?_
          | refine And.intro (by kernel_rfl) ?_
        exact ⟨_, [(0, some _), (1, none)], rfl, ⟨⟨⟨rfl, rfl, rfl⟩, trivial⟩, ⟨.inl rfl, rfl, rfl, rfl, ⟨by omega, rfl, rfl⟩, rfl, rfl, rfl, trivial⟩, by simp [rn, hpAt]⟩⟩
      · have h0b : ((l[n].row.length : Int) == 0) = false := by rw [beq_eq_false_iff_ne]; omega
        have h0c : ((l[n].row.length : Int) = 0) = False := eq_false (by omega)
        have e1 : ptB l x = true := by
          rw [ptB, hb, ha]
          dsimp only
          rw [po_get hnl, decide_eq_true (by omega)]; rfl
        have hN : ptN l x = n := by rw [ptN, ha]; rfl
        have hl0 : 0 < l[n].row.length := by omega
        have e3 : ptM l x = l[n].row[0] := by rw [ptM, if_pos e1, hN, po_get hnl, ml_get hl0]
        have e2 : ptV l x = l.set n ⟨l[n].n, l[n].row.drop 1⟩ := by rw [ptV, if_pos e1, hN, po_get hnl]
        have hrm := mRows_get l[n].row 0 hl0
        have hlp : ((0 : Int) < (l[n].row.length : Int)) = True := eq_true (by omega)
        have e4 : (poRows l).set n [.v (.int .i64 l[n].n), .l 4 ((mRows l[n].row).drop 1)] = poRows (l.set n ⟨l[n].n, l[n].row.drop 1⟩) := by
          rw [mRows_drop, ← poRows_set]
        rw [e1, e2, e3]
        simp (maxSteps := 3000000) only [Try.f5, ptk2, g_portsOk, g_portsCopied, g_portAt, poRows_len, mRows_len, posOf_rows, TS.cutB, takeCells, D.toI, D.toL, poRow, mlRow, hb, poI_some ha, hlt, hrow, h0b, h0c, hrm, hlp, eS, e4, Int.toNat_natCast, ↓reduceIte, Bool.false_eq_true, tYs, evL, implies_true, oMin, x_max, oMax, oCopy, oBin, oUn, oLoadKid, oStoreTree, oField, oExtract, oNil, oSliceQ, oSliceE, x_appendZ, oAppendZ, oSliceEnd, endMode, oLoadRow, takeCells, TS.atRow, TS.ex, treeMode, AV.isOwn, TK.isSl, nilTk, nilsB, oLenQ, oLen, nodupB, treeOf, kidAbs, kidRows, TK.isCell, D.toL, oLoad, oStore, oMake, oIndexAddr, ↓reduceIte, reduceCtorEq, Nat.reduceBEq, Nat.reduceAdd, Nat.reduceMul, Nat.reduceLT, Nat.reduceSub, Nat.reduceLeDiff, Nat.reduceEqDiff, Nat.reduceBneDiff, Int.reduceToNat, decide_eq_true_eq, decide_eq_false_iff_not, beq_iff_eq, Int.toNat_natCast]
        exact ⟨⟨_, rfl, hm⟩, ⟨_, rfl, hm⟩, ⟨_, rfl, hn⟩, ⟨by omega, by omega⟩, hnl, ⟨by omega, by omega⟩, hnl, by omega, hl0, ⟨by omega, by omega⟩, ⟨by omega, by omega⟩, ⟨by omega, by omega⟩, hnl, by kernel_rfl, _, [(0, some _), (1, some _)], rfl, ⟨⟨⟨rfl, rfl, rfl⟩, trivial⟩, ⟨.inl rfl, rfl, rfl, rfl, .inl rfl, rfl, rfl, rfl, trivial⟩, by simp [rn, hpAt]⟩⟩
  · cases hg
theorem specPortTake_ok : PureOk Try.prog 5 g_portTake := specPortTakeT_ok.toFlat fun args c r bs' h => by
  unfold g_portTake at h
  split at h
  · cases h
    refine ⟨_, rfl, rfl, fun b hb => ?_, fun b hb => ?_⟩
    · simp only [List.mem_cons, List.not_mem_nil, or_false] at hb
      rcases hb with rfl | rfl <;> rfl
    · simp only [List.mem_cons, List.not_mem_nil, or_false] at hb
      rcases hb with rfl | rfl
      · trivial
      · exact rowsOf_flat _
  · cases h
theorem ptV_ok (l : List Po) (x : Int) : posB (ptV l x) = true := by
  cases h : ptB l x with
  | true => obtain ⟨_, _, _, _, _, _, _, _, h2⟩ := pt_take h; exact h2
  | false =>
    rw [ptV, h, if_neg (by decide)]
    split
    · assumption
    · rfl
theorem ptM_le (l : List Po) (x : Int) : (ptM l x).d.length ≤ 40 := by
  cases h : ptB l x with
  | true =>
    obtain ⟨hb, hn, e1, h0, _⟩ := pt_parts h
    obtain ⟨_, h2, _⟩ := posB_iff.1 hb
    obtain ⟨_, _, b3⟩ := poB_iff.1 (h2 _ (List.getElem_mem hn))
    rw [ptM, if_pos h, po_get hn, ml_get h0]
    exact (mlB_iff.1 (b3 _ (List.getElem_mem h0)).1).2.2.2
  | false => rw [ptM, h]; simp [ml0]
def xlg : List (FuncId × Abs) := [(4, pureAbs g_szPortS), (6, pureAbs g_toPortS), (8, pureAbs g_eqPortS), (10, ownAbs g_markPortS), (12, pureAbs g_heldPortS), (9, pureAbs g_eqMail), (11, ownAbs g_markMail), (13, pureAbs g_heldMail), (7, pureAbs g_portTake), (5, pureAbs g_portTake)]
theorem xlg_ok : ∀ p ∈ xlg, CallOk Try.prog p.1 p.2 := by
  intro p hp
  simp only [xlg, List.mem_cons, List.not_mem_nil, or_false] at hp
  rcases hp with rfl | rfl | rfl | rfl | rfl | rfl | rfl | rfl | rfl | rfl
  · exact szPortS_ok.call
  · exact toPortS_ok.call
  · exact eqPortS_ok.call
  · exact markPortS_ok.call
  · exact heldPortS_ok.call
  · exact eqMail_ok.call
  · exact markMail_ok.call
  · exact heldMail_ok.call
  · exact implPortTake_ok.call
  · exact specPortTake_ok.call
set_option maxHeartbeats 16000000 in
set_option maxRecDepth 100000 in
theorem lawExactPortTake_ok : PureOk Try.prog 3 g_xl5 := by
  refine PureOk.of_vc (G := xlg) xlg_ok mixed Try.func3 (by kernel_rfl) rfl ?_
  intro args cnd r bs hg hc
  unfold g_xl5 at hg
  split at hg
  · rename_i sz rows x
    cases hg
    obtain ⟨l, rfl, hf⟩ := hc
    refine ⟨⟨rfl, by simp, by simp [AV.ids, AV.ids.idsL]⟩, [.l 2 (poRows l), .v (.int .i64 x)], rfl, fun w vs h => CvL.ok (.cons (.l _ _ _ (poRows_w l)) (.cons (.refl _) .nil)) h, ?_⟩
    simp (maxSteps := 3000000) only [Try.f3, xlg, g_szPortS, g_toPortS, g_eqPortS, g_markPortS, g_heldPortS, g_eqMail, g_markMail, g_heldMail, g_portTake, bytesOf_rows, rowsOf_len, marks_len, posOf_rows, poRows_len, poL_len, poC_mk, bne_self_eq_false, and_self, decide_true, tYs, evL, implies_true, oMin, x_max, oMax, oCopy, oBin, oUn, oLoadKid, oStoreTree, oField, oExtract, oNil, oSliceQ, oSliceE, x_appendZ, oAppendZ, oSliceEnd, endMode, oLoadRow, takeCells, TS.atRow, TS.ex, treeMode, AV.isOwn, TK.isSl, nilTk, nilsB, oLenQ, oLen, nodupB, treeOf, kidAbs, kidRows, TK.isCell, D.toL, oLoad, oStore, oMake, oIndexAddr, ↓reduceIte, reduceCtorEq, Nat.reduceBEq, Nat.reduceAdd, Nat.reduceMul, Nat.reduceLT, Nat.reduceSub, Nat.reduceLeDiff, Nat.reduceEqDiff, Nat.reduceBneDiff, Int.reduceToNat, decide_eq_true_eq, decide_eq_false_iff_not, beq_iff_eq, Int.toNat_natCast]
    have hb := szOS_bd l 1048576 (by omega)
    refine ⟨⟨by omega, _, rfl, hf⟩, ?_⟩
    by_cases hz : szOS l 1048576 < 0
    · rw [if_pos hz]
      exact ⟨_, [], rfl, ⟨⟨⟨rfl, rfl, rfl⟩, trivial⟩, trivial, by simp [rn, hpAt]⟩⟩
    · rw [if_neg hz]
      have hm := hb.2.2 (by omega)
      have hsO := szOS_sum (l := l) (L := 1048576) (by omega) (by omega)
      have hse := szOS_each (l := l) (L := 1048576) (by omega) (by omega)
      have gl : poGood l := ⟨by have := hm.1; omega, by omega, fun x hx => ⟨by have := (hm.2 x hx).1; omega, by have := hse x hx; omega⟩⟩
      have q1 := poC_eq l 1
      have hml := hm.1
      have fo : posB (ptV l x) = true := ptV_ok l x
      have fm := poMid_ok fo
      have gf := posB_good fo
      obtain ⟨fl, fs⟩ := posB_sum fo
      have q2 := poC_eq (ptV l x) 1
      have hM := ptM_le l x
      clear hz hb
      have ee : (⟨(ptM l x).a, (ptM l x).f, (ptM l x).t, (ptM l x).d⟩ : Ml) = ptM l x := rfl
      repeat' first
        | refine And.intro ⟨_, rfl, hm⟩ ?_
        | refine And.intro ⟨_, rfl, by omega⟩ ?_
        | refine And.intro ⟨⟨_, rfl, hm⟩, ⟨_, rfl, hm⟩⟩ ?_
        | refine And.intro ⟨⟨_, rfl, hm⟩, ⟨_, rfl, by omega⟩⟩ ?_
        | refine And.intro ⟨_, rfl, fm⟩ ?_
        | refine And.intro ⟨⟨_, rfl, fm⟩, ⟨_, rfl, fm⟩⟩ ?_
        | refine And.intro ⟨⟨_, rfl, by omega⟩, ⟨_, rfl, by omega⟩⟩ ?_
        | refine And.intro ⟨⟨_, rfl, gl⟩, by omega, by omega⟩ ?_
        | refine And.intro ⟨⟨_, rfl, gf⟩, by omega, by omega⟩ ?_
        | refine And.intro ⟨⟨_, rfl⟩, by omega, by omega, by omega⟩ ?_
        | refine And.intro ⟨by omega, by omega, by omega⟩ ?_
        | refine And.intro (by kernel_rfl) ?_
        | refine And.intro ⟨⟨_, rfl⟩, ⟨_, rfl⟩⟩ ?_
        | refine And.intro ⟨_, rfl⟩ ?_
        | refine And.intro ⟨⟨_, rfl, by omega⟩, by omega, by omega⟩ ?_
        | rw [if_neg (by omega)]
        | rw [if_pos (by omega)]
      exact ⟨_, [], rfl, ⟨⟨⟨rfl, rfl, rfl⟩, trivial⟩, trivial, by simp [rn, hpAt]⟩⟩
  · cases hg
theorem walk_ExactPortTake (c : Value) (ds : List D) (x : Int) (w : World) (H : Reads w portSKinds ds [c]) (_ : (Lit.int .i64 x).wf = true) :
    Calls Try.prog 3 #[c, .int .i64 x] w fun e w' => e = .returned (.bool true) ∧ Below w.heap.size w w' := by
  obtain ⟨l, hr, hf⟩ := ports_in H
  exact lawExactPortTake_ok.walk (vs := [_, _]) (arel_cons hr (arel_cons (.v _) arel_nil)) rfl ⟨_, rfl, hf⟩
end Go.Proofs.Ytcpmifgdmlpcpaa
