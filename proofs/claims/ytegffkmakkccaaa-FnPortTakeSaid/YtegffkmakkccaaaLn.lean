import Derived.Test.YtegffkmakkccaaaLl
set_option linter.unusedVariables false
set_option linter.unusedSimpArgs false
namespace Go.Proofs.Ytegffkmakkccaaa
open Go.RowKit
set_option linter.unusedSimpArgs false
def tkL (l : List Po) (n : Nat) (x : Int) (j : Nat) : List Po := l.set n ⟨x, (l.getD n po0).row.drop j⟩
theorem poAt_ns (l : List Po) (x : Int) : poAt l x = (l.map Po.n).findIdx? (fun y => decide (y = x)) := by rw [poAt, List.findIdx?_map]; rfl
theorem tkL_ns {l : List Po} {n : Nat} {x : Int} (hn : n < l.length) (hx : l[n].n = x) (j : Nat) : (tkL l n x j).map Po.n = l.map Po.n := by
  rw [tkL, List.map_set]
  apply List.ext_getElem
  · simp
  · intro i h3 h4
    rw [List.getElem_set]
    split
    · rename_i e; subst e; simp [hx]
    · rfl
theorem tkL_len (l : List Po) (n : Nat) (x : Int) (j : Nat) : (tkL l n x j).length = l.length := by rw [tkL, List.length_set]
theorem tkL_at {l : List Po} {n : Nat} {x : Int} (hn : n < l.length) (j : Nat) : (tkL l n x j).getD n po0 = ⟨x, l[n].row.drop j⟩ := by
  rw [po_get (by rw [tkL_len]; exact hn)]
  simp only [tkL, List.getElem_set_self, po_get hn]
theorem tkL_0 {l : List Po} {n : Nat} {x : Int} (hn : n < l.length) (hx : l[n].n = x) : tkL l n x 0 = l := by
  have : (⟨x, (l.getD n po0).row.drop 0⟩ : Po) = l[n] := by rw [List.drop_zero, po_get hn, ← hx]
  rw [tkL, this, List.set_getElem_self]
theorem tkL_ok {l : List Po} {n : Nat} {x : Int} (hb : posB l = true) (hn : n < l.length) (hx : l[n].n = x) (j : Nat) : posB (tkL l n x j) = true := by
  obtain ⟨a1, a2, a3⟩ := posB_iff.1 hb
  obtain ⟨b1, b2, b3⟩ := poB_iff.1 (a2 _ (List.getElem_mem hn))
  refine posB_iff.2 ⟨by rw [tkL_len]; exact a1, fun p hp => ?_, by rw [tkL_ns hn hx]; exact a3⟩
  rw [tkL, po_get hn] at hp
  rcases List.mem_or_eq_of_mem_set hp with hp | rfl
  · exact a2 p hp
  · rw [hx] at b1 b3
    refine poB_iff.2 ⟨b1, ?_, fun m hm => b3 m (List.mem_of_mem_drop hm)⟩
    show (l[n].row.drop j).length ≤ 3
    rw [List.length_drop]; omega
theorem tk_one {l : List Po} (hb : posB l = true) {k n : Nat} (hk : k < l.length) (hn : n < l.length) (e : l[k].n = l[n].n) : k = n := by
  obtain ⟨_, _, a3⟩ := posB_iff.1 hb
  rcases Nat.lt_trichotomy k n with h | h | h
  · have := List.pairwise_iff_getElem.1 a3 k n (by simpa using hk) (by simpa using hn) h
    simp only [List.getElem_map] at this
    omega
  · exact h
  · have := List.pairwise_iff_getElem.1 a3 n k (by simpa using hn) (by simpa using hk) h
    simp only [List.getElem_map] at this
    omega
theorem tk_step {l : List Po} {n : Nat} {x : Int} (hb : posB l = true) (hn : n < l.length) (hx : l[n].n = x) (ha : poAt l x = some n) {j : Nat} (hj : j < l[n].row.length) : ptB (tkL l n x j) x = true ∧ ptM (tkL l n x j) x = l[n].row[j] ∧ ptV (tkL l n x j) x = tkL l n x (j + 1) := by
  have hb' := tkL_ok hb hn hx j
  have ha' : poAt (tkL l n x j) x = some n := by rw [poAt_ns, tkL_ns hn hx, ← poAt_ns]; exact ha
  have hB : ptB (tkL l n x j) x = true := by
    rw [ptB, hb', ha']
    dsimp only
    rw [tkL_at hn]
    dsimp only
    rw [List.length_drop, decide_eq_true (by omega)]; rfl
  have hN : ptN (tkL l n x j) x = n := by rw [ptN, ha']; rfl
  refine ⟨hB, ?_, ?_⟩
  · rw [ptM, if_pos hB, hN, tkL_at hn]
    dsimp only
    rw [List.getD_eq_getElem?_getD, List.getElem?_drop, Nat.add_zero, List.getElem?_eq_getElem hj]; rfl
  · rw [ptV, if_pos hB, hN, tkL_at hn]
    dsimp only
    rw [tkL, tkL, List.set_set, List.drop_drop, po_get hn]
theorem tk_end {l : List Po} {n : Nat} {x : Int} (hn : n < l.length) (hx : l[n].n = x) (ha : poAt l x = some n) : ptB (tkL l n x l[n].row.length) x = false := by
  have ha' : poAt (tkL l n x l[n].row.length) x = some n := by rw [poAt_ns, tkL_ns hn hx, ← poAt_ns]; exact ha
  rw [ptB, ha']
  dsimp only
  rw [tkL_at hn]
  simp
def ptS (l : List Po) : Nat := if posB l = true then 2 else 1
def g_portsCopiedS : PC := fun args => match args with
  | [.l _ rows] => some (∃ l, rows = poRows l ∧ poMid l, .own 0, [.sl 60 2 rows])
  | _ => none
def g_portTakeD : PC := fun args => match args with
  | [.l _ rows, .v (.int .i64 x)] => some (∃ l, rows = poRows l ∧ poMid l, .tup [.l (ptS (posOf rows)) (poRows (ptV (posOf rows) x)), .agg [.v (.int .i64 (ptM (posOf rows) x).a), .v (.int .i64 (ptM (posOf rows) x).f), .v (.int .i64 (ptM (posOf rows) x).t), .l 1 (rowsOfBytes (ptM (posOf rows) x).d)], .v (.bool (ptB (posOf rows) x))], [])
  | _ => none
def g_portTakeE : PC := fun args => match args with
  | [.l _ rows, .v (.int .i64 x)] => some (∃ l, rows = poRows l ∧ poMid l, .tup [.l 2 (poRows (ptV (posOf rows) x)), .agg [.v (.int .i64 (ptM (posOf rows) x).a), .v (.int .i64 (ptM (posOf rows) x).f), .v (.int .i64 (ptM (posOf rows) x).t), .l 1 (rowsOfBytes (ptM (posOf rows) x).d)], .v (.bool (ptB (posOf rows) x))], [])
  | _ => none
theorem portsCopiedS_ok : OwnOk Try.prog 84 (ocOf g_portsCopiedS) := portsCopied_ok.toSl fun args c r bs' h => by
  unfold g_portsCopiedS at h
  split at h
  · cases h
    exact ⟨_, rfl, rfl, fun b hb => by rw [List.mem_singleton.1 hb]; rfl⟩
  · cases h
theorem l9CopyS_ok : OwnOk Try.prog 87 (ocOf g_portsCopiedS) := l9Copy_ok.toSl fun args c r bs' h => by
  unfold g_portsCopiedS at h
  split at h
  · cases h
    exact ⟨_, rfl, rfl, fun b hb => by rw [List.mem_singleton.1 hb]; rfl⟩
  · cases h
def ptc1 : List (FuncId × Abs) := [(31, pureAbs g_portsOk), (84, ownAbs (ocOf g_portsCopiedS)), (85, pureAbs g_portAt)]
theorem ptc1_ok : ∀ p ∈ ptc1, CallOk Try.prog p.1 p.2 := by
  intro p hp
  simp only [ptc1, List.mem_cons, List.not_mem_nil, or_false] at hp
  rcases hp with rfl | rfl | rfl
  · exact implPortsOk_ok.call
  · exact portsCopiedS_ok.call
  · exact portAt_ok.call
set_option maxHeartbeats 4000000 in
set_option maxRecDepth 100000 in
theorem implPortTake_ok : OwnOk Try.prog 27 (ocOf g_portTakeD) := by
  refine OwnOk.of_vcD (G := ptc1) ptc1_ok mixed Try.func27 (by kernel_rfl) rfl ?_
  intro args cnd r bs hg hc
  unfold g_portTakeD at hg
  split at hg
  · rename_i sz rows x
    cases hg
    obtain ⟨l, rfl, hm⟩ := hc
    rw [posOf_rows]
    have hn := hm.1
    refine ⟨⟨rfl, by simp [AV.ids, AV.ids.idsL]⟩, [.l 2 (poRows l), .v (.int .i64 x)], rfl, fun w Z s vs h => CvL.ok (.cons (.l _ _ _ (poRows_w l)) (.cons (.refl _) .nil)) h, ?_⟩
    rcases hb : posB l with _ | _
    · have e1 : ptB l x = false := by rw [ptB, hb]; rfl
      have e2 : ptV l x = [] := by rw [ptV, e1, hb]; rfl
      have e3 : ptM l x = ml0 := by rw [ptM, e1]; rfl
      have eS : ptS l = 1 := by rw [ptS, hb]; rfl
      rw [e1, e2, e3, eS]
      simp (maxSteps := 3000000) only [Try.f27, ptc1, g_portsOk, ocOf, g_portsCopiedS, g_portAt, poRows_len, mRows_len, posOf_rows, D.toI, D.toL, poRow, mlRow, hb, ↓reduceIte, Bool.false_eq_true, tYs, evL, implies_true, oMin, oCopy, oBin, oUn, oLoadKid, oStoreTree, oField, oExtract, oNil, oSliceQ, oLoadRow, takeCells, TS.atRow, TS.ex, treeMode, AV.isOwn, TK.isSl, nilTk, nilsB, oLenQ, oLen, nodupB, treeOf, kidAbs, kidRows, TK.isCell, D.toL, oLoad, oStore, oMake, oIndexAddr, ↓reduceIte, reduceCtorEq, Nat.reduceBEq, Nat.reduceAdd, Nat.reduceMul, Nat.reduceLT, Nat.reduceSub, Nat.reduceLeDiff, Nat.reduceEqDiff, Nat.reduceBneDiff, Int.reduceToNat, decide_eq_true_eq, decide_eq_false_iff_not, beq_iff_eq, Int.toNat_natCast, doneD_ret, doneD_normal]
      refine ⟨⟨_, rfl, hm⟩, ?_⟩
      exact ⟨_, rfl, rfl⟩
    have eS : ptS l = 2 := by rw [ptS, hb]; rfl
    rw [eS]
    cases ha : poAt l x with
    | none =>
      have e1 : ptB l x = false := by rw [ptB, ha, Bool.and_false]
      have e2 : ptV l x = l := by rw [ptV, e1, hb]; rfl
      have e3 : ptM l x = ml0 := by rw [ptM, e1]; rfl
      have hlt : ((-1 : Int) < 0) = True := eq_true (by omega)
      rw [e1, e2, e3]
      simp (maxSteps := 3000000) only [Try.f27, ptc1, g_portsOk, ocOf, g_portsCopiedS, g_portAt, poRows_len, mRows_len, posOf_rows, D.toI, D.toL, poRow, mlRow, hb, poI_none ha, hlt, ↓reduceIte, Bool.false_eq_true, tYs, evL, implies_true, oMin, oCopy, oBin, oUn, oLoadKid, oStoreTree, oField, oExtract, oNil, oSliceQ, oLoadRow, takeCells, TS.atRow, TS.ex, treeMode, AV.isOwn, TK.isSl, nilTk, nilsB, oLenQ, oLen, nodupB, treeOf, kidAbs, kidRows, TK.isCell, D.toL, oLoad, oStore, oMake, oIndexAddr, ↓reduceIte, reduceCtorEq, Nat.reduceBEq, Nat.reduceAdd, Nat.reduceMul, Nat.reduceLT, Nat.reduceSub, Nat.reduceLeDiff, Nat.reduceEqDiff, Nat.reduceBneDiff, Int.reduceToNat, decide_eq_true_eq, decide_eq_false_iff_not, beq_iff_eq, Int.toNat_natCast, doneD_ret, doneD_normal]
      refine ⟨⟨_, rfl, hm⟩, ⟨_, rfl, hm⟩, ⟨_, rfl, hn⟩, ?_⟩
      exact ⟨_, rfl, rfl⟩
    | some n =>
      obtain ⟨hnl, hnx⟩ := poAt_some ha
      have hlt : ((n : Int) < 0) = False := eq_false (by omega)
      have hrow := poRows_get l n hnl
      have hx := hm.2 l[n] (List.getElem_mem hnl)
      have hx1 := hx.1
      by_cases h0 : l[n].row.length = 0
      · have e1 : ptB l x = false := by
          rw [ptB, ha]
          dsimp only
          rw [po_get hnl, decide_eq_false (by omega), Bool.and_false]
        have e2 : ptV l x = l := by rw [ptV, e1, hb]; rfl
        have e3 : ptM l x = ml0 := by rw [ptM, e1]; rfl
        have h0b : ((l[n].row.length : Int) == 0) = true := beq_iff_eq.2 (by omega)
        have h0c : ((l[n].row.length : Int) = 0) = True := eq_true (by omega)
        rw [e1, e2, e3]
        simp (maxSteps := 3000000) only [Try.f27, ptc1, g_portsOk, ocOf, g_portsCopiedS, g_portAt, poRows_len, mRows_len, posOf_rows, D.toI, D.toL, poRow, mlRow, hb, poI_some ha, hlt, hrow, h0b, h0c, Int.toNat_natCast, ↓reduceIte, Bool.false_eq_true, tYs, evL, implies_true, oMin, oCopy, oBin, oUn, oLoadKid, oStoreTree, oField, oExtract, oNil, oSliceQ, oLoadRow, takeCells, TS.atRow, TS.ex, treeMode, AV.isOwn, TK.isSl, nilTk, nilsB, oLenQ, oLen, nodupB, treeOf, kidAbs, kidRows, TK.isCell, D.toL, oLoad, oStore, oMake, oIndexAddr, ↓reduceIte, reduceCtorEq, Nat.reduceBEq, Nat.reduceAdd, Nat.reduceMul, Nat.reduceLT, Nat.reduceSub, Nat.reduceLeDiff, Nat.reduceEqDiff, Nat.reduceBneDiff, Int.reduceToNat, decide_eq_true_eq, decide_eq_false_iff_not, beq_iff_eq, Int.toNat_natCast, doneD_ret, doneD_normal]
        refine ⟨⟨_, rfl, hm⟩, ⟨_, rfl, hm⟩, ⟨_, rfl, hn⟩, ?_⟩
        repeat' first
          | refine And.intro hnl ?_
          | refine And.intro ⟨by omega, by omega⟩ ?_
          | refine And.intro (by omega) ?_
          | refine And.intro (by kernel_rfl) ?_
        exact ⟨_, rfl, rfl⟩
      · have h0b : ((l[n].row.length : Int) == 0) = false := by rw [beq_eq_false_iff_ne]; omega
        have h0c : ((l[n].row.length : Int) = 0) = False := eq_false (by omega)
        have e1 : ptB l x = true := by
          rw [ptB, hb, ha]
          dsimp only
          rw [po_get hnl, decide_eq_true (by omega)]; rfl
        have hN : ptN l x = n := by rw [ptN, ha]; rfl
        have hl0 : 0 < l[n].row.length := by omega
        have e3 : ptM l x = l[n].row[0] := by rw [ptM, if_pos e1, hN, po_get hnl, ml_get hl0]
        have e2 : ptV l x = l.set n ⟨l[n].n, l[n].row.drop 1⟩ := by rw [ptV, if_pos e1, hN, po_get hnl]
        have hrm := mRows_get l[n].row 0 hl0
        have hlp : ((0 : Int) < (l[n].row.length : Int)) = True := eq_true (by omega)
        have e4 : (poRows l).set n [.v (.int .i64 l[n].n), .l 4 ((mRows l[n].row).drop 1)] = poRows (l.set n ⟨l[n].n, l[n].row.drop 1⟩) := by
          rw [mRows_drop, ← poRows_set]
        have hT : (mRows l[n].row).take l[n].row.length = mRows l[n].row := List.take_of_length_le (by rw [mRows_len]; exact Nat.le_refl _)
        rw [e1, e2, e3]
        simp (maxSteps := 3000000) only [Try.f27, ptc1, g_portsOk, ocOf, g_portsCopiedS, g_portAt, poRows_len, mRows_len, posOf_rows, D.toI, D.toL, poRow, mlRow, hb, poI_some ha, hlt, hrow, h0b, h0c, hrm, hlp, e4, hT, Int.toNat_natCast, ↓reduceIte, Bool.false_eq_true, tYs, evL, implies_true, oMin, oCopy, oBin, oUn, oLoadKid, oStoreTree, oField, oExtract, oNil, oSliceQ, oLoadRow, takeCells, TS.atRow, TS.ex, treeMode, AV.isOwn, TK.isSl, nilTk, nilsB, oLenQ, oLen, nodupB, treeOf, kidAbs, kidRows, TK.isCell, D.toL, oLoad, oStore, oMake, oIndexAddr, ↓reduceIte, reduceCtorEq, Nat.reduceBEq, Nat.reduceAdd, Nat.reduceMul, Nat.reduceLT, Nat.reduceSub, Nat.reduceLeDiff, Nat.reduceEqDiff, Nat.reduceBneDiff, Int.reduceToNat, decide_eq_true_eq, decide_eq_false_iff_not, beq_iff_eq, Int.toNat_natCast, doneD_ret, doneD_normal]
        refine ⟨⟨_, rfl, hm⟩, ⟨_, rfl, hm⟩, ⟨_, rfl, hn⟩, ?_⟩
        repeat' first
          | refine And.intro hnl ?_
          | refine And.intro ⟨by omega, by omega⟩ ?_
          | refine And.intro (by omega) ?_
          | refine And.intro (by kernel_rfl) ?_
        exact ⟨_, rfl, rfl⟩
  · cases hg
def ptc2 : List (FuncId × Abs) := [(86, pureAbs g_portsOk), (87, ownAbs (ocOf g_portsCopiedS)), (88, pureAbs g_portAt)]
theorem ptc2_ok : ∀ p ∈ ptc2, CallOk Try.prog p.1 p.2 := by
  intro p hp
  simp only [ptc2, List.mem_cons, List.not_mem_nil, or_false] at hp
  rcases hp with rfl | rfl | rfl
  · exact specPortsOk_ok.call
  · exact l9CopyS_ok.call
  · exact l9At_ok.call
set_option maxHeartbeats 4000000 in
set_option maxRecDepth 100000 in
theorem specPortTake_ok : OwnOk Try.prog 28 (ocOf g_portTakeE) := by
  refine OwnOk.of_vcD (G := ptc2) ptc2_ok mixed Try.func28 (by kernel_rfl) rfl ?_
  intro args cnd r bs hg hc
  unfold g_portTakeE at hg
  split at hg
  · rename_i sz rows x
    cases hg
    obtain ⟨l, rfl, hm⟩ := hc
    rw [posOf_rows]
    have hn := hm.1
    refine ⟨⟨rfl, by simp [AV.ids, AV.ids.idsL]⟩, [.l 2 (poRows l), .v (.int .i64 x)], rfl, fun w Z s vs h => CvL.ok (.cons (.l _ _ _ (poRows_w l)) (.cons (.refl _) .nil)) h, ?_⟩
    rcases hb : posB l with _ | _
    · have e1 : ptB l x = false := by rw [ptB, hb]; rfl
      have e2 : ptV l x = [] := by rw [ptV, e1, hb]; rfl
      have e3 : ptM l x = ml0 := by rw [ptM, e1]; rfl
      rw [e1, e2, e3]
      simp (maxSteps := 3000000) only [Try.f28, ptc2, g_portsOk, ocOf, g_portsCopiedS, g_portAt, poRows_len, mRows_len, posOf_rows, D.toI, D.toL, poRow, mlRow, hb, ↓reduceIte, Bool.false_eq_true, tYs, evL, implies_true, oMin, oCopy, oBin, oUn, oLoadKid, oStoreTree, oField, oExtract, oNil, oSliceQ, oLoadRow, takeCells, TS.atRow, TS.ex, treeMode, AV.isOwn, TK.isSl, nilTk, nilsB, oLenQ, oLen, nodupB, treeOf, kidAbs, kidRows, TK.isCell, D.toL, oLoad, oStore, oMake, oIndexAddr, ↓reduceIte, reduceCtorEq, Nat.reduceBEq, Nat.reduceAdd, Nat.reduceMul, Nat.reduceLT, Nat.reduceSub, Nat.reduceLeDiff, Nat.reduceEqDiff, Nat.reduceBneDiff, Int.reduceToNat, decide_eq_true_eq, decide_eq_false_iff_not, beq_iff_eq, Int.toNat_natCast, doneD_ret, doneD_normal]
      refine ⟨⟨_, rfl, hm⟩, ?_⟩
      exact ⟨_, rfl, rfl⟩
    cases ha : poAt l x with
    | none =>
      have e1 : ptB l x = false := by rw [ptB, ha, Bool.and_false]
      have e2 : ptV l x = l := by rw [ptV, e1, hb]; rfl
      have e3 : ptM l x = ml0 := by rw [ptM, e1]; rfl
      have hlt : ((-1 : Int) < 0) = True := eq_true (by omega)
      rw [e1, e2, e3]
      simp (maxSteps := 3000000) only [Try.f28, ptc2, g_portsOk, ocOf, g_portsCopiedS, g_portAt, poRows_len, mRows_len, posOf_rows, D.toI, D.toL, poRow, mlRow, hb, poI_none ha, hlt, ↓reduceIte, Bool.false_eq_true, tYs, evL, implies_true, oMin, oCopy, oBin, oUn, oLoadKid, oStoreTree, oField, oExtract, oNil, oSliceQ, oLoadRow, takeCells, TS.atRow, TS.ex, treeMode, AV.isOwn, TK.isSl, nilTk, nilsB, oLenQ, oLen, nodupB, treeOf, kidAbs, kidRows, TK.isCell, D.toL, oLoad, oStore, oMake, oIndexAddr, ↓reduceIte, reduceCtorEq, Nat.reduceBEq, Nat.reduceAdd, Nat.reduceMul, Nat.reduceLT, Nat.reduceSub, Nat.reduceLeDiff, Nat.reduceEqDiff, Nat.reduceBneDiff, Int.reduceToNat, decide_eq_true_eq, decide_eq_false_iff_not, beq_iff_eq, Int.toNat_natCast, doneD_ret, doneD_normal]
      refine ⟨⟨_, rfl, hm⟩, ⟨_, rfl, hm⟩, ⟨_, rfl, hn⟩, ?_⟩
      exact ⟨_, rfl, rfl⟩
    | some n =>
      obtain ⟨hnl, hnx⟩ := poAt_some ha
      have hlt : ((n : Int) < 0) = False := eq_false (by omega)
      have hrow := poRows_get l n hnl
      have hx := hm.2 l[n] (List.getElem_mem hnl)
      have hx1 := hx.1
      by_cases h0 : l[n].row.length = 0
      · have e1 : ptB l x = false := by
          rw [ptB, ha]
          dsimp only
          rw [po_get hnl, decide_eq_false (by omega), Bool.and_false]
        have e2 : ptV l x = l := by rw [ptV, e1, hb]; rfl
        have e3 : ptM l x = ml0 := by rw [ptM, e1]; rfl
        have h0b : ((l[n].row.length : Int) == 0) = true := beq_iff_eq.2 (by omega)
        have h0c : ((l[n].row.length : Int) = 0) = True := eq_true (by omega)
        rw [e1, e2, e3]
        simp (maxSteps := 3000000) only [Try.f28, ptc2, g_portsOk, ocOf, g_portsCopiedS, g_portAt, poRows_len, mRows_len, posOf_rows, D.toI, D.toL, poRow, mlRow, hb, poI_some ha, hlt, hrow, h0b, h0c, Int.toNat_natCast, ↓reduceIte, Bool.false_eq_true, tYs, evL, implies_true, oMin, oCopy, oBin, oUn, oLoadKid, oStoreTree, oField, oExtract, oNil, oSliceQ, oLoadRow, takeCells, TS.atRow, TS.ex, treeMode, AV.isOwn, TK.isSl, nilTk, nilsB, oLenQ, oLen, nodupB, treeOf, kidAbs, kidRows, TK.isCell, D.toL, oLoad, oStore, oMake, oIndexAddr, ↓reduceIte, reduceCtorEq, Nat.reduceBEq, Nat.reduceAdd, Nat.reduceMul, Nat.reduceLT, Nat.reduceSub, Nat.reduceLeDiff, Nat.reduceEqDiff, Nat.reduceBneDiff, Int.reduceToNat, decide_eq_true_eq, decide_eq_false_iff_not, beq_iff_eq, Int.toNat_natCast, doneD_ret, doneD_normal]
        refine ⟨⟨_, rfl, hm⟩, ⟨_, rfl, hm⟩, ⟨_, rfl, hn⟩, ?_⟩
        repeat' first
          | refine And.intro hnl ?_
          | refine And.intro ⟨by omega, by omega⟩ ?_
          | refine And.intro (by omega) ?_
          | refine And.intro (by kernel_rfl) ?_
        exact ⟨_, rfl, rfl⟩
      · have h0b : ((l[n].row.length : Int) == 0) = false := by rw [beq_eq_false_iff_ne]; omega
        have h0c : ((l[n].row.length : Int) = 0) = False := eq_false (by omega)
        have e1 : ptB l x = true := by
          rw [ptB, hb, ha]
          dsimp only
          rw [po_get hnl, decide_eq_true (by omega)]; rfl
        have hN : ptN l x = n := by rw [ptN, ha]; rfl
        have hl0 : 0 < l[n].row.length := by omega
        have e3 : ptM l x = l[n].row[0] := by rw [ptM, if_pos e1, hN, po_get hnl, ml_get hl0]
        have e2 : ptV l x = l.set n ⟨l[n].n, l[n].row.drop 1⟩ := by rw [ptV, if_pos e1, hN, po_get hnl]
        have hrm := mRows_get l[n].row 0 hl0
        have hlp : ((0 : Int) < (l[n].row.length : Int)) = True := eq_true (by omega)
        have e4 : (poRows l).set n [.v (.int .i64 l[n].n), .l 4 ((mRows l[n].row).drop 1)] = poRows (l.set n ⟨l[n].n, l[n].row.drop 1⟩) := by
          rw [mRows_drop, ← poRows_set]
        have hT : (mRows l[n].row).take l[n].row.length = mRows l[n].row := List.take_of_length_le (by rw [mRows_len]; exact Nat.le_refl _)
        rw [e1, e2, e3]
        simp (maxSteps := 3000000) only [Try.f28, ptc2, g_portsOk, ocOf, g_portsCopiedS, g_portAt, poRows_len, mRows_len, posOf_rows, D.toI, D.toL, poRow, mlRow, hb, poI_some ha, hlt, hrow, h0b, h0c, hrm, hlp, e4, hT, Int.toNat_natCast, ↓reduceIte, Bool.false_eq_true, tYs, evL, implies_true, oMin, oCopy, oBin, oUn, oLoadKid, oStoreTree, oField, oExtract, oNil, oSliceQ, oLoadRow, takeCells, TS.atRow, TS.ex, treeMode, AV.isOwn, TK.isSl, nilTk, nilsB, oLenQ, oLen, nodupB, treeOf, kidAbs, kidRows, TK.isCell, D.toL, oLoad, oStore, oMake, oIndexAddr, ↓reduceIte, reduceCtorEq, Nat.reduceBEq, Nat.reduceAdd, Nat.reduceMul, Nat.reduceLT, Nat.reduceSub, Nat.reduceLeDiff, Nat.reduceEqDiff, Nat.reduceBneDiff, Int.reduceToNat, decide_eq_true_eq, decide_eq_false_iff_not, beq_iff_eq, Int.toNat_natCast, doneD_ret, doneD_normal]
        refine ⟨⟨_, rfl, hm⟩, ⟨_, rfl, hm⟩, ⟨_, rfl, hn⟩, ?_⟩
        repeat' first
          | refine And.intro hnl ?_
          | refine And.intro ⟨by omega, by omega⟩ ?_
          | refine And.intro (by omega) ?_
          | refine And.intro (by kernel_rfl) ?_
        exact ⟨_, rfl, rfl⟩
  · cases hg
def g_drawPt : PC := fun args => match args with
  | [.l _ rows] => some (∃ xs, rows = rowsOfBytes xs, .tup [.l 2 (poRows (lpL ((bytesOfRows rows).take 2000) 0 15)), .v (.int .i64 (1 + pickV ((bytesOfRows rows).take 2000) (lpQ ((bytesOfRows rows).take 2000) 0 15) 7))], [])
  | _ => none
def ndt : List (FuncId × Abs) := [(52, ownAbs g_open), (58, ownAbs g_pick), (83, ownAbs g_ports)]
theorem ndt_ok : ∀ p ∈ ndt, CallOk Try.prog p.1 p.2 := by
  intro p hp
  simp only [ndt, List.mem_cons, List.not_mem_nil, or_false] at hp
  rcases hp with rfl | rfl | rfl
  · exact open_ok.call
  · exact pick_ok.call
  · exact l20Ports_ok.call
set_option maxRecDepth 100000 in
theorem drawPortTake_ok : OwnOk Try.prog 26 (ocOf g_drawPt) := by
  refine OwnOk.of_vcD (G := ndt) ndt_ok mixed Try.func26 (by kernel_rfl) rfl ?_
  intro args cnd r bs hg hc
  unfold g_drawPt at hg
  split at hg
  · rename_i sz rows
    cases hg
    obtain ⟨xs, rfl⟩ := hc
    rw [bytesOf_rows]
    have hx : (∃ ys, rowsOfBytes (List.take 2000 xs) = rowsOfBytes ys ∧ ys.length ≤ 2000) = True := eq_true ⟨_, rfl, by rw [List.length_take]; omega⟩
    obtain ⟨ys, hys⟩ : ∃ ys, ys = List.take 2000 xs := ⟨_, rfl⟩
    rw [← hys] at hx ⊢
    have hQb := (lpL_mid ys 0 15 (by omega)).2
    obtain ⟨Q, hQ⟩ : ∃ Q, Q = lpQ ys 0 15 := ⟨_, rfl⟩
    have hQ' := hQ.symm
    rw [hQ'] at hQb ⊢
    have i0 := pickV_nonneg ys Q 7 (by omega)
    have i1 := pickV_lt ys Q 7 (by omega)
    have w1 : IntKind.i64.wrap (1 + pickV ys Q 7) = 1 + pickV ys Q 7 := wrap_id (by omega) (by omega)
    refine ⟨⟨rfl, by simp [AV.ids, AV.ids.idsL]⟩, [.l 1 (rowsOfBytes xs)], rfl, fun w Z s vs h => CvL.ok (.cons (.l _ _ _ (rowsOf_w xs)) .nil) h, ?_⟩
    simp (maxSteps := 3000000) only [Try.f26, ndt, g_open, g_ports, g_pick, bytesOf_rows, rowsOf_len, ← hys, hx, hQ', w1, tYs, evL, implies_true, oMin, oCopy, oBin, oUn, oLoadKid, oStoreTree, oField, oExtract, oNil, oSliceQ, oLoadRow, takeCells, TS.atRow, TS.ex, treeMode, AV.isOwn, TK.isSl, nilTk, nilsB, oLenQ, oLen, nodupB, treeOf, kidAbs, kidRows, TK.isCell, D.toL, oLoad, oStore, oMake, oIndexAddr, ↓reduceIte, reduceCtorEq, Nat.reduceBEq, Nat.reduceAdd, Nat.reduceMul, Nat.reduceLT, Nat.reduceSub, Nat.reduceLeDiff, Nat.reduceEqDiff, Nat.reduceBneDiff, Int.reduceToNat, decide_eq_true_eq, decide_eq_false_iff_not, beq_iff_eq, Int.toNat_natCast, doneD_ret, doneD_normal]
    (repeat (refine And.intro ?_ ?_; focus (((repeat' apply And.intro) <;> first | exact rowsOf_w _ | omega | (simp only [List.length_append, rowsOf_len, List.length_cons, List.length_nil, marks_len, List.length_take, List.length_drop, List.length_set]; omega) | exact ⟨_, rfl⟩ | (refine ⟨_, rfl, ?_⟩; omega) | (refine ⟨_, rfl, ?_⟩; simp only [List.length_append, rowsOf_len, List.length_cons, List.length_nil, marks_len, List.length_take, List.length_drop, List.length_set]; omega) | kernel_rfl | (simp; done)); done)))
    exact ⟨_, rfl, rfl⟩
  · cases hg
end Go.Proofs.Ytegffkmakkccaaa
