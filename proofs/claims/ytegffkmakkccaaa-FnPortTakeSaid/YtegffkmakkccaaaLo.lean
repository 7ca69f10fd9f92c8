import Derived.Test.YtegffkmakkccaaaLn
set_option linter.unusedVariables false
set_option linter.unusedSimpArgs false
namespace Go.Proofs.Ytegffkmakkccaaa
open Go.RowKit
set_option linter.unusedSimpArgs false
def hT (n k c : Nat) : Nat := if n < k then c else 0
theorem hT_lt {n k c : Nat} (h : k ≤ n) : hT n k c = 0 := if_neg (by omega)
theorem hT_gt {n k c : Nat} (h : n < k) : hT n k c = c := if_pos h
theorem pt_mid {l : List Po} {x : Int} (hm : poMid l) (h : ptB l x = false) : poMid (ptV l x) := by
  rw [ptV, if_neg (by rw [h]; decide)]
  split
  · exact hm
  · exact ⟨by decide, fun x hx => by cases hx⟩
def llt : List (FuncId × Abs) := [(13, pureAbs g_alive), (29, pureAbs g_sameMail), (30, pureAbs g_samePorts), (31, pureAbs g_portsOk), (27, ownAbs (ocOf g_portTakeD)), (28, ownAbs (ocOf g_portTakeE)), (26, ownAbs (ocOf g_drawPt))]
theorem llt_ok : ∀ p ∈ llt, CallOk Try.prog p.1 p.2 := by
  intro p hp
  simp only [llt, List.mem_cons, List.not_mem_nil, or_false] at hp
  rcases hp with rfl | rfl | rfl | rfl | rfl | rfl | rfl
  · exact alive_ok.call
  · exact sameMail_ok.call
  · exact samePorts_ok.call
  · exact implPortsOk_ok.call
  · exact implPortTake_ok.call
  · exact specPortTake_ok.call
  · exact drawPortTake_ok.call
set_option maxHeartbeats 8000000 in
set_option maxRecDepth 100000 in
theorem lawPortTake_ok : PureOk Try.prog 6 g_true := by
  refine PureOk.of_vc (G := llt) llt_ok mixed Try.func6 (by kernel_rfl) rfl ?_
  intro args cnd r bs hg hc
  unfold g_true at hg
  split at hg
  · rename_i sz rows
    cases hg
    obtain ⟨xs, rfl⟩ := hc
    refine ⟨⟨rfl, by simp, by simp [AV.ids, AV.ids.idsL]⟩, [.l 1 (rowsOfBytes xs)], rfl, fun w vs h => CvL.ok (.cons (.l _ _ _ (rowsOf_w xs)) .nil) h, ?_⟩
    obtain ⟨ys, hys⟩ : ∃ ys, ys = List.take 2000 xs := ⟨_, rfl⟩
    by_cases h20 : (xs.length : Int) > 1048576
    · have e20 : ((xs.length : Int) > 1048576) = True := eq_true h20
      simp (maxSteps := 3000000) only [Try.f6, llt, e20, g_alive, g_sameMail, g_samePorts, g_portsOk, ocOf, g_portTakeD, g_portTakeE, g_drawPt, bytesOf_rows, rowsOf_len, ↓reduceIte, Bool.false_eq_true, Bool.not_true, Bool.not_false, poRows_len, mRows_len, posOf_rows, D.toI, D.toL, poRow, mlRow, tYs, evL, implies_true, oMin, oCopy, oBin, oUn, oLoadKid, oStoreTree, oField, oExtract, oNil, oSliceQ, oLoadRow, takeCells, TS.atRow, TS.ex, treeMode, AV.isOwn, TK.isSl, nilTk, nilsB, oLenQ, oLen, nodupB, treeOf, kidAbs, kidRows, TK.isCell, D.toL, oLoad, oStore, oMake, oIndexAddr, ↓reduceIte, reduceCtorEq, Nat.reduceBEq, Nat.reduceAdd, Nat.reduceMul, Nat.reduceLT, Nat.reduceSub, Nat.reduceLeDiff, Nat.reduceEqDiff, Nat.reduceBneDiff, Int.reduceToNat, decide_eq_true_eq, decide_eq_false_iff_not, beq_iff_eq, Int.toNat_natCast, loopK_normal, loopK_exit, loopK_ret, bne_self_eq_false, List.length_nil, Int.ofNat_zero]
      exact ⟨_, [], rfl, ⟨⟨⟨rfl, rfl, rfl⟩, trivial⟩, trivial, by simp [rn, hpAt]⟩⟩
    have e20 : ((xs.length : Int) > 1048576) = False := eq_false h20
    obtain ⟨⟨hm, hl5⟩, hQ1, hQ2⟩ := lpL_mid ys 0 15 (by omega)
    obtain ⟨l, hl⟩ : ∃ l, l = lpL ys 0 15 := ⟨_, rfl⟩
    have hl' := hl.symm
    rw [hl'] at hm hl5
    clear hl
    have hn := hm.1
    have x0 := pickV_nonneg ys (lpQ ys 0 15) 7 (by omega)
    have x1 := pickV_lt ys (lpQ ys 0 15) 7 (by omega)
    obtain ⟨x, hx⟩ : ∃ x, x = 1 + pickV ys (lpQ ys 0 15) 7 := ⟨_, rfl⟩
    have hx' := hx.symm
    clear hx
    rcases hb : ptB l x with _ | _
    · have vm := pt_mid hm hb
      simp (maxSteps := 3000000) only [Try.f6, llt, e20, ← hys, hl', hx', hb, and_self, decide_true, g_alive, g_sameMail, g_samePorts, g_portsOk, ocOf, g_portTakeD, g_portTakeE, g_drawPt, bytesOf_rows, rowsOf_len, ↓reduceIte, Bool.false_eq_true, Bool.not_true, Bool.not_false, poRows_len, mRows_len, posOf_rows, D.toI, D.toL, poRow, mlRow, tYs, evL, implies_true, oMin, oCopy, oBin, oUn, oLoadKid, oStoreTree, oField, oExtract, oNil, oSliceQ, oLoadRow, takeCells, TS.atRow, TS.ex, treeMode, AV.isOwn, TK.isSl, nilTk, nilsB, oLenQ, oLen, nodupB, treeOf, kidAbs, kidRows, TK.isCell, D.toL, oLoad, oStore, oMake, oIndexAddr, ↓reduceIte, reduceCtorEq, Nat.reduceBEq, Nat.reduceAdd, Nat.reduceMul, Nat.reduceLT, Nat.reduceSub, Nat.reduceLeDiff, Nat.reduceEqDiff, Nat.reduceBneDiff, Int.reduceToNat, decide_eq_true_eq, decide_eq_false_iff_not, beq_iff_eq, Int.toNat_natCast, loopK_normal, loopK_exit, loopK_ret, bne_self_eq_false, List.length_nil, Int.ofNat_zero]
      refine ⟨⟨xs, rfl⟩, ⟨_, rfl, hm⟩, ⟨_, rfl, hm⟩, ⟨_, rfl⟩, ⟨_, rfl, rfl, vm⟩, ?_⟩
      exact ⟨_, [], rfl, ⟨⟨⟨rfl, rfl, rfl⟩, trivial⟩, trivial, by simp [rn, hpAt]⟩⟩
    obtain ⟨hpb, hnl, hnx, h0, ha⟩ := pt_parts hb
    obtain ⟨n, hnn⟩ : ∃ n, ptN l x = n := ⟨_, rfl⟩
    simp only [hnn] at hnl hnx h0 ha
    obtain ⟨s1, s2, s3⟩ := tk_step hpb hnl hnx ha h0
    rw [tkL_0 hnl hnx] at s1 s2 s3
    obtain ⟨V, hV⟩ : ∃ V, ptV l x = V := ⟨_, rfl⟩
    have hVb : posB V = true := by rw [← hV, s3]; exact tkL_ok hpb hnl hnx 1
    have vm := poMid_ok hVb
    have eS : ptS l = 2 := by rw [ptS, hpb]; rfl
    simp (maxSteps := 3000000) only [Try.f6, llt, e20, ← hys, hl', hx', hb, hV, eS, and_self, decide_true, g_alive, g_sameMail, g_samePorts, g_portsOk, ocOf, g_portTakeD, g_portTakeE, g_drawPt, bytesOf_rows, rowsOf_len, ↓reduceIte, Bool.false_eq_true, Bool.not_true, Bool.not_false, poRows_len, mRows_len, posOf_rows, D.toI, D.toL, poRow, mlRow, tYs, evL, implies_true, oMin, oCopy, oBin, oUn, oLoadKid, oStoreTree, oField, oExtract, oNil, oSliceQ, oLoadRow, takeCells, TS.atRow, TS.ex, treeMode, AV.isOwn, TK.isSl, nilTk, nilsB, oLenQ, oLen, nodupB, treeOf, kidAbs, kidRows, TK.isCell, D.toL, oLoad, oStore, oMake, oIndexAddr, ↓reduceIte, reduceCtorEq, Nat.reduceBEq, Nat.reduceAdd, Nat.reduceMul, Nat.reduceLT, Nat.reduceSub, Nat.reduceLeDiff, Nat.reduceEqDiff, Nat.reduceBneDiff, Int.reduceToNat, decide_eq_true_eq, decide_eq_false_iff_not, beq_iff_eq, Int.toNat_natCast, loopK_normal, loopK_exit, loopK_ret, bne_self_eq_false, List.length_nil, Int.ofNat_zero]
    refine ⟨⟨xs, rfl⟩, ⟨_, rfl, hm⟩, ⟨_, rfl, hm⟩, ⟨_, rfl⟩, ⟨_, rfl, rfl, vm⟩, ?_⟩
    refine e_loop _ _ _ _ _ _ _ _ (fun k : Nat => [.any, .any, .any, .l 2 (poRows l), .v (.int .i64 x), .l 2 (poRows V), .any, .any, .any, .any, .any, .l 2 (poRows (tkL l n x (hT n k l[n].row.length))), .v (.int .i64 (k : Int))] ++ List.replicate (Try.f6.ntmps - 13) .any) (fun k => []) (fun k => k ≤ l.length) (fun k => l.length - k) 0 (fun k => by simp) ?_ fun k hk' => ?_
    · exact ⟨0, [], Nat.zero_le _, ⟨⟨trivial, trivial, trivial, ⟨rfl, rfl, rfl⟩, ⟨rfl, rfl, rfl⟩, ⟨rfl, rfl, rfl⟩, trivial, trivial, trivial, trivial, trivial, ⟨congrArg (fun z => AV.l 2 (poRows z)) (by rw [hT_lt (Nat.zero_le _), tkL_0 hnl hnx]), rfl, rfl⟩, ⟨rfl, rfl, rfl⟩, fitT_rep _ _ rfl⟩, trivial, by simp [rn, hpAt]⟩, by simp [keepIds]⟩
    have hk1 : k ≤ l.length := hk'
    have w2 : IntKind.i64.wrap ((k : Int) + 1) = ((k + 1 : Nat) : Int) := by rw [wrap_id] <;> omega
    by_cases hk : k < l.length
    · have c1 : ((k : Int) < (l.length : Int)) = True := eq_true (by omega)
      have c0 : (0 ≤ (k : Int)) = True := eq_true (by omega)
      have hrl := poRows_get l k hk
      by_cases hkx : l[k].n = x
      · obtain rfl : k = n := tk_one hpb hk hnl (by rw [hkx, hnx])
        have hnb : (l[k].n != x) = false := by simpa using hkx
        have t0 : hT k k l[k].row.length = 0 := hT_lt (Nat.le_refl _)
        have hrx := (hm.2 l[k] (List.getElem_mem hk)).1
        simp (maxSteps := 3000000) only [Try.f6, llt, e20, ← hys, hl', hx', c1, c0, hrl, hnb, t0, g_alive, g_sameMail, g_samePorts, g_portsOk, ocOf, g_portTakeD, g_portTakeE, g_drawPt, bytesOf_rows, rowsOf_len, ↓reduceIte, Bool.false_eq_true, Bool.not_true, Bool.not_false, poRows_len, mRows_len, posOf_rows, D.toI, D.toL, poRow, mlRow, tYs, evL, implies_true, oMin, oCopy, oBin, oUn, oLoadKid, oStoreTree, oField, oExtract, oNil, oSliceQ, oLoadRow, takeCells, TS.atRow, TS.ex, treeMode, AV.isOwn, TK.isSl, nilTk, nilsB, oLenQ, oLen, nodupB, treeOf, kidAbs, kidRows, TK.isCell, D.toL, oLoad, oStore, oMake, oIndexAddr, ↓reduceIte, reduceCtorEq, Nat.reduceBEq, Nat.reduceAdd, Nat.reduceMul, Nat.reduceLT, Nat.reduceSub, Nat.reduceLeDiff, Nat.reduceEqDiff, Nat.reduceBneDiff, Int.reduceToNat, decide_eq_true_eq, decide_eq_false_iff_not, beq_iff_eq, Int.toNat_natCast, loopK_normal, loopK_exit, loopK_ret, bne_self_eq_false, List.length_nil, Int.ofNat_zero]
        refine e_loop _ _ _ _ _ _ _ _ (fun j : Nat => [.any, .any, .any, .l 2 (poRows l), .v (.int .i64 x), .l 2 (poRows V), .any, .any, .any, .any, .any, .l 2 (poRows (tkL l k x j)), .v (.int .i64 (k : Int)), .v (.int .i64 (j : Int))] ++ List.replicate (Try.f6.ntmps - 14) .any) (fun j => []) (fun j => j ≤ l[k].row.length) (fun j => l[k].row.length - j) 0 (fun j => by simp) ?_ fun j hj' => ?_
        · exact ⟨0, [], Nat.zero_le _, ⟨⟨trivial, trivial, trivial, ⟨rfl, rfl, rfl⟩, ⟨rfl, rfl, rfl⟩, ⟨rfl, rfl, rfl⟩, trivial, trivial, trivial, trivial, trivial, ⟨rfl, rfl, rfl⟩, ⟨rfl, rfl, rfl⟩, ⟨rfl, rfl, rfl⟩, fitT_rep _ _ rfl⟩, trivial, by simp [rn, hpAt]⟩, by simp [keepIds]⟩
        have hj1 : j ≤ l[k].row.length := hj'
        have wj : IntKind.i64.wrap ((j : Int) + 1) = ((j + 1 : Nat) : Int) := by rw [wrap_id] <;> omega
        by_cases hj : j < l[k].row.length
        · have j1 : ((j : Int) < (l[k].row.length : Int)) = True := eq_true (by omega)
          have j0 : (0 ≤ (j : Int)) = True := eq_true (by omega)
          have hrm := mRows_get l[k].row j hj
          obtain ⟨q1, q2, q3⟩ := tk_step hpb hnl hnx ha hj
          have tm := poMid_ok (tkL_ok hpb hnl hnx j)
          have tS : ptS (tkL l k x j) = 2 := by rw [ptS, tkL_ok hpb hnl hnx j]; rfl
          simp (maxSteps := 3000000) only [Try.f6, llt, e20, ← hys, hl', hx', c1, c0, hrl, j1, j0, hrm, q1, q2, q3, tS, wj, and_self, decide_true, g_alive, g_sameMail, g_samePorts, g_portsOk, ocOf, g_portTakeD, g_portTakeE, g_drawPt, bytesOf_rows, rowsOf_len, ↓reduceIte, Bool.false_eq_true, Bool.not_true, Bool.not_false, poRows_len, mRows_len, posOf_rows, D.toI, D.toL, poRow, mlRow, tYs, evL, implies_true, oMin, oCopy, oBin, oUn, oLoadKid, oStoreTree, oField, oExtract, oNil, oSliceQ, oLoadRow, takeCells, TS.atRow, TS.ex, treeMode, AV.isOwn, TK.isSl, nilTk, nilsB, oLenQ, oLen, nodupB, treeOf, kidAbs, kidRows, TK.isCell, D.toL, oLoad, oStore, oMake, oIndexAddr, ↓reduceIte, reduceCtorEq, Nat.reduceBEq, Nat.reduceAdd, Nat.reduceMul, Nat.reduceLT, Nat.reduceSub, Nat.reduceLeDiff, Nat.reduceEqDiff, Nat.reduceBneDiff, Int.reduceToNat, decide_eq_true_eq, decide_eq_false_iff_not, beq_iff_eq, Int.toNat_natCast, loopK_normal, loopK_exit, loopK_ret, bne_self_eq_false, List.length_nil, Int.ofNat_zero]
          refine ⟨⟨_, rfl, tm⟩, ⟨_, rfl⟩, ?_⟩
          exact ⟨by kernel_rfl, j + 1, [], by omega, by omega, ⟨⟨trivial, trivial, trivial, ⟨rfl, rfl, rfl⟩, ⟨rfl, rfl, rfl⟩, ⟨rfl, rfl, rfl⟩, trivial, trivial, trivial, trivial, trivial, ⟨rfl, rfl, rfl⟩, ⟨rfl, rfl, rfl⟩, ⟨rfl, rfl, rfl⟩, fitT_rep _ _ rfl⟩, trivial, by simp [rn, hpAt]⟩, by simp [keepIds]⟩
        · have j1 : ((j : Int) < (l[k].row.length : Int)) = False := eq_false (by omega)
          obtain rfl : j = l[k].row.length := by omega
          simp (maxSteps := 3000000) only [Try.f6, llt, e20, ← hys, hl', hx', c1, c0, hrl, j1, w2, g_alive, g_sameMail, g_samePorts, g_portsOk, ocOf, g_portTakeD, g_portTakeE, g_drawPt, bytesOf_rows, rowsOf_len, ↓reduceIte, Bool.false_eq_true, Bool.not_true, Bool.not_false, poRows_len, mRows_len, posOf_rows, D.toI, D.toL, poRow, mlRow, tYs, evL, implies_true, oMin, oCopy, oBin, oUn, oLoadKid, oStoreTree, oField, oExtract, oNil, oSliceQ, oLoadRow, takeCells, TS.atRow, TS.ex, treeMode, AV.isOwn, TK.isSl, nilTk, nilsB, oLenQ, oLen, nodupB, treeOf, kidAbs, kidRows, TK.isCell, D.toL, oLoad, oStore, oMake, oIndexAddr, ↓reduceIte, reduceCtorEq, Nat.reduceBEq, Nat.reduceAdd, Nat.reduceMul, Nat.reduceLT, Nat.reduceSub, Nat.reduceLeDiff, Nat.reduceEqDiff, Nat.reduceBneDiff, Int.reduceToNat, decide_eq_true_eq, decide_eq_false_iff_not, beq_iff_eq, Int.toNat_natCast, loopK_normal, loopK_exit, loopK_ret, bne_self_eq_false, List.length_nil, Int.ofNat_zero]
          exact ⟨k + 1, [], by omega, by omega, ⟨⟨trivial, trivial, trivial, ⟨rfl, rfl, rfl⟩, ⟨rfl, rfl, rfl⟩, ⟨rfl, rfl, rfl⟩, trivial, trivial, trivial, trivial, trivial, ⟨congrArg (fun z => AV.l 2 (poRows z)) (by rw [hT_gt (Nat.lt_succ_self _)]), rfl, rfl⟩, ⟨rfl, rfl, rfl⟩, fitT_rep _ _ rfl⟩, trivial, by simp [rn, hpAt]⟩, by simp [keepIds]⟩
      · have hnb : (l[k].n != x) = true := by simpa using hkx
        have hkn : k ≠ n := fun e => hkx (by subst e; exact hnx)
        have ht : hT n k l[n].row.length = hT n (k + 1) l[n].row.length := by
          rcases Nat.lt_or_ge n k with q | q
          · rw [hT_gt q, hT_gt (by omega)]
          · rw [hT_lt q, hT_lt (by omega)]
        simp (maxSteps := 3000000) only [Try.f6, llt, e20, ← hys, hl', hx', c1, c0, hrl, hnb, w2, ht, g_alive, g_sameMail, g_samePorts, g_portsOk, ocOf, g_portTakeD, g_portTakeE, g_drawPt, bytesOf_rows, rowsOf_len, ↓reduceIte, Bool.false_eq_true, Bool.not_true, Bool.not_false, poRows_len, mRows_len, posOf_rows, D.toI, D.toL, poRow, mlRow, tYs, evL, implies_true, oMin, oCopy, oBin, oUn, oLoadKid, oStoreTree, oField, oExtract, oNil, oSliceQ, oLoadRow, takeCells, TS.atRow, TS.ex, treeMode, AV.isOwn, TK.isSl, nilTk, nilsB, oLenQ, oLen, nodupB, treeOf, kidAbs, kidRows, TK.isCell, D.toL, oLoad, oStore, oMake, oIndexAddr, ↓reduceIte, reduceCtorEq, Nat.reduceBEq, Nat.reduceAdd, Nat.reduceMul, Nat.reduceLT, Nat.reduceSub, Nat.reduceLeDiff, Nat.reduceEqDiff, Nat.reduceBneDiff, Int.reduceToNat, decide_eq_true_eq, decide_eq_false_iff_not, beq_iff_eq, Int.toNat_natCast, loopK_normal, loopK_exit, loopK_ret, bne_self_eq_false, List.length_nil, Int.ofNat_zero]
        exact ⟨k + 1, [], by omega, by omega, ⟨⟨trivial, trivial, trivial, ⟨rfl, rfl, rfl⟩, ⟨rfl, rfl, rfl⟩, ⟨rfl, rfl, rfl⟩, trivial, trivial, trivial, trivial, trivial, ⟨rfl, rfl, rfl⟩, ⟨rfl, rfl, rfl⟩, fitT_rep _ _ rfl⟩, trivial, by simp [rn, hpAt]⟩, by simp [keepIds]⟩
    · have c1 : ((k : Int) < (l.length : Int)) = False := eq_false (by omega)
      have ht : hT n k l[n].row.length = l[n].row.length := hT_gt (by omega)
      have te := tk_end hnl hnx ha
      have tm := poMid_ok (tkL_ok hpb hnl hnx l[n].row.length)
      simp (maxSteps := 3000000) only [Try.f6, llt, e20, ← hys, hl', hx', c1, ht, te, hVb, g_alive, g_sameMail, g_samePorts, g_portsOk, ocOf, g_portTakeD, g_portTakeE, g_drawPt, bytesOf_rows, rowsOf_len, ↓reduceIte, Bool.false_eq_true, Bool.not_true, Bool.not_false, poRows_len, mRows_len, posOf_rows, D.toI, D.toL, poRow, mlRow, tYs, evL, implies_true, oMin, oCopy, oBin, oUn, oLoadKid, oStoreTree, oField, oExtract, oNil, oSliceQ, oLoadRow, takeCells, TS.atRow, TS.ex, treeMode, AV.isOwn, TK.isSl, nilTk, nilsB, oLenQ, oLen, nodupB, treeOf, kidAbs, kidRows, TK.isCell, D.toL, oLoad, oStore, oMake, oIndexAddr, ↓reduceIte, reduceCtorEq, Nat.reduceBEq, Nat.reduceAdd, Nat.reduceMul, Nat.reduceLT, Nat.reduceSub, Nat.reduceLeDiff, Nat.reduceEqDiff, Nat.reduceBneDiff, Int.reduceToNat, decide_eq_true_eq, decide_eq_false_iff_not, beq_iff_eq, Int.toNat_natCast, loopK_normal, loopK_exit, loopK_ret, bne_self_eq_false, List.length_nil, Int.ofNat_zero]
      refine ⟨⟨_, rfl, tm⟩, ⟨_, rfl, vm⟩, ?_⟩
      exact ⟨_, [], rfl, ⟨⟨⟨rfl, rfl, rfl⟩, trivial⟩, trivial, by simp [rn, hpAt]⟩⟩
  · cases hg
theorem walk_PortTake (A : Option Addr) (n c : Nat) (xs : List UInt8) (w : World) (h : Rd w w.heap.size A n (bv xs)) (hc : n ≤ c) :
    Calls Try.prog 6 #[.slice A n c] w fun e w' => e = .returned (.bool true) ∧ Below w.heap.size w w' :=
  lawPortTake_ok.walk (vs := [_]) (arel_cons (.l _ _ _ (rep_of_rd h hc)) arel_nil) rfl ⟨xs, rfl⟩
end Go.Proofs.Ytegffkmakkccaaa
