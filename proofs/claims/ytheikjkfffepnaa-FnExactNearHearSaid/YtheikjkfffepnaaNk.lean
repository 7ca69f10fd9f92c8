import Derived.Test.YtheikjkfffepnaaNd
import Derived.Test.YtheikjkfffepnaaNj
import Derived.Test.YtheikjkfffepnaaNi
import Derived.Test.YtheikjkfffepnaaNg
import Derived.Test.YtheikjkfffepnaaNf
import Derived.Test.YtheikjkfffepnaaUd





namespace Go.Proofs.Ytheikjkfffepnaa
open Go.RowKit
set_option linter.unusedSimpArgs false
set_option linter.unusedVariables false

/-! the exact law of NearHear -/
theorem sum_split (hs : List HE) (a : Int) : sumS (sentOf hs a) + sumH (hOut hs a) = sumH hs := by
  induction hs with
  | nil => rfl
  | cons x t ih =>
    by_cases h : x.a = a
    · have e1 : sentOf (x :: t) a = x.d :: sentOf t a := by simp [sentOf, h]
      have e2 : hOut (x :: t) a = hOut t a := by simp [hOut, h]
      rw [e1, e2]
      simp only [sumS, sumH, List.map_cons, List.sum_cons] at ih ⊢
      omega
    · have e1 : sentOf (x :: t) a = sentOf t a := by simp [sentOf, h]
      have e2 : hOut (x :: t) a = x :: hOut t a := by simp [hOut, h]
      rw [e1, e2]
      simp only [sumS, sumH, List.map_cons, List.sum_cons] at ih ⊢
      omega
theorem sent_le (hs : List HE) (a : Int) : (sentOf hs a).length ≤ hs.length := by
  rw [sentOf, List.length_map]; exact List.length_filter_le _ _
theorem sent_low {hs : List HE} (a : Int) (h : hLow hs) : ssLow (sentOf hs a) := by
  refine ⟨Nat.le_trans (sent_le hs a) h.1, fun d hd => ?_⟩
  rw [sentOf] at hd
  obtain ⟨x, hx, rfl⟩ := List.mem_map.1 hd
  exact h.2 x (List.mem_filter.1 hx).1
theorem out_low {hs : List HE} (a : Int) (h : hLow hs) : hLow (hOut hs a) := ⟨Nat.le_trans (List.length_filter_le _ _) h.1, fun x hx => h.2 x (List.mem_filter.1 hx).1⟩
theorem dropK_left1 {A B : List KE} (h : A.length = 1) : List.drop 1 (A ++ B) = B := by rw [← h, List.drop_left]
def g_xnh : PC := fun args => match args with
  | [.agg [.l _ rows, .l _ rows'], .v (.int .i64 own), .agg [.v (.int .i64 qk), .v (.int .i64 ql), .v (.int .i64 qa), .v (.int .i64 qw)], .v (.int .i64 now)] => some ((∃ ks, rows = kRows ks ∧ ks.length ≤ 9223372036854775807) ∧ ∃ hs, rows' = hRows hs ∧ hFin hs, .v (.bool true), [])
  | _ => none
def xnh : List (FuncId × Abs) := [(4, pureAbs g_szNear), (6, pureAbs g_toNT), (7, pureAbs g_toQuery), (9, pureAbs g_eqN), (10, pureAbs g_eqSS), (11, ownAbs g_markNearT), (12, ownAbs g_markSS), (13, pureAbs g_heldNear), (14, pureAbs g_heldSS), (8, pureAbs g_hearT), (5, frzAbs g_hearD)]
theorem xnh_ok : ∀ p ∈ xnh, CallOk Try.prog p.1 p.2 := by
  intro p hp
  simp only [xnh, List.mem_cons, List.not_mem_nil, or_false] at hp
  rcases hp with rfl | rfl | rfl | rfl | rfl | rfl | rfl | rfl | rfl | rfl | rfl
  · exact szNear_ok.call
  · exact toNearT_ok.call
  · exact toQuery_ok.call
  · exact eqNear_ok.call
  · exact eqSS_ok.call
  · exact markNearT_ok.call
  · exact markSS_ok.call
  · exact heldNear_ok.call
  · exact heldSS_ok.call
  · exact implNearHearT_ok.call
  · exact specNearHearD_ok.callF
set_option maxHeartbeats 8000000 in
set_option maxRecDepth 100000 in
theorem lawExactNearHear_ok : PureOk Try.prog 3 g_xnh := by
  refine PureOk.of_vc (G := xnh) xnh_ok mixed Try.func3 (by kernel_rfl) rfl ?_
  intro args cnd r bs hg hc
  unfold g_xnh at hg
  split at hg
  · rename_i sz rows sz' rows' own qk ql qa qw now
    cases hg
    obtain ⟨⟨ks, rfl, hk⟩, hs, rfl, hh⟩ := hc
    refine ⟨⟨rfl, by simp, by simp [AV.ids, AV.ids.idsL]⟩, [.agg [.l 3 (kRows ks), .l 2 (hRows hs)], .v (.int .i64 own), .agg [.v (.int .i64 qk), .v (.int .i64 ql), .v (.int .i64 qa), .v (.int .i64 qw)], .v (.int .i64 now)], rfl, fun w vs h => CvL.ok (.cons (.cons (.l _ _ _ (kRows_w ks)) (.cons (.l _ _ _ (hRows_w hs)) .nil)) (.cons (.refl _) (.cons (.refl _) (.cons (.refl _) .nil)))) h, ?_⟩
    have hE : ∀ (x : KE), kRows (kOut ks qa) ++ [[D.v (.int .i64 x.a), D.v (.int .i64 x.l), D.v (.int .i64 x.u)]] = kRows (kOut ks qa ++ [x]) := fun x => kRows_app _ [x]
    cases hr : rOk ks hs qk ql qa qw now with
    | false =>
      simp (maxSteps := 3000000) only [Try.f3, xnh, g_szNear, g_toNT, g_toQuery, g_eqN, g_eqSS, g_markNearT, g_markSS, g_heldNear, g_heldSS, g_hearT, g_hearD, hearK, hearH, hearL, hearKs, hearHs, hearSs, hearSl, szA, ksOf_rows, hsOf_rows, ssOf_rows, kRows_len, hRows_len, sRows_len, rowsOf_len, bytesOf_rows, kxMks_len, hkC_mk, ssC_mk, kEq_refl, hEq_refl, beq_self_eq_true, bne_self_eq_false, Bool.false_eq_true, ↓reduceIte, hr, tY2, tY3, tY4, tY5, tY9, tY12, tY21, tY22, tY23, tY24, tY25, tY26, tY27, tY29, tY30, tY31, tY32, tY33, tY37, tY49, tY50, tY51, tY52, tY53, tY68, tY70, tY87, tY96, Try.underlying2, Try.underlying3, Try.underlying4, Try.underlying5, Try.underlying9, Try.underlying12, Try.underlying21, Try.underlying22, Try.underlying23, Try.underlying24, Try.underlying25, Try.underlying26, Try.underlying27, Try.underlying29, Try.underlying30, Try.underlying31, Try.underlying32, Try.underlying33, Try.underlying37, Try.underlying49, Try.underlying50, Try.underlying51, Try.underlying52, Try.underlying53, Try.underlying68, Try.underlying70, Try.underlying87, Try.underlying96, e_skip, e_label, e_ret, e_exit, e_seq, e_cond, e_block, e_region, seqK_normal, seqK_ret, seqK_exit, blkK_normal, blkK_ret, blkK_exit, condK_some, regK_true, regK_false, e_nil, e_cons, gateK_go, gateK_skip, gateK_ask, pickK_some, exK_some, x_pick, x_move, x_assign, x_alloc, x_box, x_build, x_buildSlice, x_load, x_store, x_binOp, x_unOp, x_convert, x_makeSlice, x_slice, x_fieldAddr, x_field, x_indexAddr, x_extract, x_nilCheck, x_call, x_len, x_append, x_min, oMin, x_copy, oCopy, eqAVs, callK_some, done_ret, done_normal, doneO_ret, doneO_normal, endsO_one, endsO_nil, endsO_more, ownAbs, frzAbs, leafs, leafs.leafsL, uniq, idxOf, bk, zipB, Blk.liveB, gate_none, gate_some, gateS_none, gateS_some, gateV_bool, gateV_undef, boolOf, evA, putT, refn, fpD, oBin, oUn, upsl, upl, up, ups, lk, dstsOf, resL, resA, packA, oLoadQ, oLoadKid, oStoreQ, oStoreTree, oBuildSliceQ, oBuildTree, oAppendQ, oAppendTree, isTr, isTrP, tkd, tkds, tkRows, ownOf, nodupB, deadL, treeOf, kidAbs, kidBlk, kidRows, TK.isCell, D.toL, oLoad, oStore, oAlloc, oBox, oBuild, oBuildSlice, oMake, oAppend, oIndexAddr, oFieldAddr, oField, oExtract, oNil, oSlice, oLen, oConvert, rowLoad, fillA, fillR, slB, dk, dks, dkRows, frz, loOf, hiOf, lenOf, rowsOf, nilV, lenV, putAt, views, viewsOk, CK.av, CK.ok, AV.cells, AV.one, Value.oneCell', Value.cells, pureAbs, nrm, nrm.nrmL, hpAt, sh, AV.ren, AV.ren.renL, Blk.ren, fpOf, footO, foot, blkIds, AV.ids, AV.ids.idsL, Op.operands, Call.operands, List.find?_cons, List.find?_nil, Nat.reduceBEq, beq_self_eq_true, List.map_cons, List.map_nil, List.getD_cons_zero, List.getD_cons_succ, List.getD_nil, List.set_cons_zero, List.set_cons_succ, List.length_cons, List.length_nil, List.replicate, List.cons_append, List.nil_append, List.append_nil, List.getElem?_cons_zero, List.getElem?_cons_succ, List.getElem?_toArray, List.getElem?_nil, List.take_zero, List.take_succ_cons, List.take_nil, List.drop_zero, List.drop_succ_cons, List.drop_nil, List.headD_cons, List.tail_cons, List.flatten_cons, List.flatten_nil, List.flatMap_cons, List.flatMap_nil, List.toList_toArray, Array.toList_append, Option.bind_some, Option.map_some, Option.map_none, Option.isSome_some, List.all_nil, List.all_cons, Bool.and_self, Bool.and_true, Bool.true_and, true_and, and_true, ↓reduceIte, List.size_toArray, Bool.false_eq_true, Bool.true_eq_false, false_implies, true_implies, Bool.not_true, Bool.not_false, and_self, implies_true, decide_true, decide_false, Nat.reduceAdd, Nat.reduceMul, Nat.reduceLT, Nat.reduceSub, Nat.reduceLeDiff, Nat.reduceEqDiff, eq_self, ne_eq, not_false_eq_true, false_and, and_false, reduceCtorEq, List.filter_nil, List.filter_cons, List.isEmpty_nil, List.isEmpty_cons, bne_self_eq_false, Nat.reduceBneDiff, Nat.lt_add_one, Nat.zero_lt_succ, List.append_assoc, Nat.zero_le, and_self_iff, Int.reduceToNat, List.any_nil, List.any_cons, List.filterMap_nil, List.filterMap_cons, List.contains_nil, List.contains_cons, Bool.or_false, Bool.false_or, Bool.or_true, Bool.true_or, Bool.false_and, Bool.and_false, decide_eq_true_eq, decide_eq_false_iff_not, beq_iff_eq, Int.toNat_natCast]
      refine ⟨⟨by omega, ⟨_, rfl, hk⟩, _, rfl, hh⟩, ?_⟩
      by_cases hz : szN ks hs 1048576 < 0
      · rw [if_pos hz]
        exact ⟨_, [], rfl, ⟨⟨⟨rfl, rfl, rfl⟩, trivial⟩, trivial, by simp [rn, hpAt]⟩⟩
      · rw [if_neg hz]
        obtain ⟨b1, b2, b3⟩ := szN_bd ks hs 1048576 (by omega) hz
        have b4 := szN_sum (by omega) hz
        have hm : hMid hs := ⟨b2, b3⟩
        have lowH : hLow hs := ⟨by omega, fun h hm => by have := b3 h hm; omega⟩
        have lowY : hLow ([] : List HE) := ⟨Nat.zero_le _, fun h hm => (List.not_mem_nil hm).elim⟩
        have lowS : ssLow ([] : List (List UInt8)) := ⟨Nat.zero_le _, fun h hm => (List.not_mem_nil hm).elim⟩
        have n1 : ([] : List KE).length ≤ ks.length + 1 := by simp
        have n2 : ([] : List HE).length ≤ hs.length := by simp
        have n3 : ([] : List (List UInt8)).length ≤ hs.length := by simp
        have n4 : sumS ([] : List (List UInt8)) + sumH ([] : List HE) ≤ sumH hs := by simp [sumS, sumH]
        have q1 := hkC_eq hs (1 + 3 * (ks.length : Int)).toNat
        have q2 := hkC_eq ([] : List HE) (1 + 3 * ((([] : List KE).length : Nat) : Int)).toNat
        have q3 := ssC_eq ([] : List (List UInt8)) (hkC ([] : List HE) (1 + 3 * ((([] : List KE).length : Nat) : Int)).toNat)
        have t1 : sumS ([] : List (List UInt8)) = 0 := rfl
        have t2 : sumH ([] : List HE) = 0 := rfl
        try simp only [List.length_nil] at n1 n2 n3 q2 q3
        have z1 : ([] : List KE).length = 0 := rfl
        have z2 : ([] : List HE).length = 0 := rfl
        have z3 : ([] : List (List UInt8)).length = 0 := rfl
        skip
        clear hz
        repeat' first
          | refine And.intro ⟨⟨_, rfl, by omega⟩, ⟨_, rfl, hm⟩⟩ ?_
          | refine And.intro ⟨⟨_, rfl, by omega⟩, ⟨_, rfl, lowY⟩, ⟨_, rfl, by omega⟩, ⟨_, rfl, lowY⟩⟩ ?_
          | refine And.intro ⟨_, rfl, lowS⟩ ?_
          | refine And.intro ⟨⟨_, rfl, by omega⟩, ⟨_, rfl, lowH⟩, ⟨_, rfl, by omega⟩, ⟨_, rfl, lowH⟩⟩ ?_
          | refine And.intro ⟨_, rfl, lowS⟩ ?_
          | refine And.intro ⟨⟨_, rfl, lowS⟩, ⟨_, rfl, lowS⟩⟩ ?_
          | refine And.intro ⟨⟨_, rfl, by omega⟩, ⟨_, rfl, by omega, by omega⟩, by omega, by omega⟩ ?_
          | refine And.intro ⟨⟨_, rfl, by omega, by omega, by omega⟩, ⟨_, rfl, by omega, by omega⟩, by omega, by omega⟩ ?_
          | refine And.intro ⟨⟨_, rfl, by omega, by omega⟩, by omega, by omega⟩ ?_
          | refine And.intro (by kernel_rfl) ?_
          | rw [if_neg (by omega)]
          | rw [if_pos (by omega)]
        exact ⟨_, [], rfl, ⟨⟨⟨rfl, rfl, rfl⟩, trivial⟩, trivial, by simp [rn, hpAt]⟩⟩
    | true =>
      cases hw : wantB ks hs own qa qw with
      | false =>
        simp (maxSteps := 3000000) only [Try.f3, xnh, g_szNear, g_toNT, g_toQuery, g_eqN, g_eqSS, g_markNearT, g_markSS, g_heldNear, g_heldSS, g_hearT, g_hearD, hearK, hearH, hearL, hearKs, hearHs, hearSs, hearSl, szA, ksOf_rows, hsOf_rows, ssOf_rows, kRows_len, hRows_len, sRows_len, rowsOf_len, bytesOf_rows, kxMks_len, hkC_mk, ssC_mk, kEq_refl, hEq_refl, beq_self_eq_true, bne_self_eq_false, Bool.false_eq_true, ↓reduceIte, hr, hw, tY2, tY3, tY4, tY5, tY9, tY12, tY21, tY22, tY23, tY24, tY25, tY26, tY27, tY29, tY30, tY31, tY32, tY33, tY37, tY49, tY50, tY51, tY52, tY53, tY68, tY70, tY87, tY96, Try.underlying2, Try.underlying3, Try.underlying4, Try.underlying5, Try.underlying9, Try.underlying12, Try.underlying21, Try.underlying22, Try.underlying23, Try.underlying24, Try.underlying25, Try.underlying26, Try.underlying27, Try.underlying29, Try.underlying30, Try.underlying31, Try.underlying32, Try.underlying33, Try.underlying37, Try.underlying49, Try.underlying50, Try.underlying51, Try.underlying52, Try.underlying53, Try.underlying68, Try.underlying70, Try.underlying87, Try.underlying96, e_skip, e_label, e_ret, e_exit, e_seq, e_cond, e_block, e_region, seqK_normal, seqK_ret, seqK_exit, blkK_normal, blkK_ret, blkK_exit, condK_some, regK_true, regK_false, e_nil, e_cons, gateK_go, gateK_skip, gateK_ask, pickK_some, exK_some, x_pick, x_move, x_assign, x_alloc, x_box, x_build, x_buildSlice, x_load, x_store, x_binOp, x_unOp, x_convert, x_makeSlice, x_slice, x_fieldAddr, x_field, x_indexAddr, x_extract, x_nilCheck, x_call, x_len, x_append, x_min, oMin, x_copy, oCopy, eqAVs, callK_some, done_ret, done_normal, doneO_ret, doneO_normal, endsO_one, endsO_nil, endsO_more, ownAbs, frzAbs, leafs, leafs.leafsL, uniq, idxOf, bk, zipB, Blk.liveB, gate_none, gate_some, gateS_none, gateS_some, gateV_bool, gateV_undef, boolOf, evA, putT, refn, fpD, oBin, oUn, upsl, upl, up, ups, lk, dstsOf, resL, resA, packA, oLoadQ, oLoadKid, oStoreQ, oStoreTree, oBuildSliceQ, oBuildTree, oAppendQ, oAppendTree, isTr, isTrP, tkd, tkds, tkRows, ownOf, nodupB, deadL, treeOf, kidAbs, kidBlk, kidRows, TK.isCell, D.toL, oLoad, oStore, oAlloc, oBox, oBuild, oBuildSlice, oMake, oAppend, oIndexAddr, oFieldAddr, oField, oExtract, oNil, oSlice, oLen, oConvert, rowLoad, fillA, fillR, slB, dk, dks, dkRows, frz, loOf, hiOf, lenOf, rowsOf, nilV, lenV, putAt, views, viewsOk, CK.av, CK.ok, AV.cells, AV.one, Value.oneCell', Value.cells, pureAbs, nrm, nrm.nrmL, hpAt, sh, AV.ren, AV.ren.renL, Blk.ren, fpOf, footO, foot, blkIds, AV.ids, AV.ids.idsL, Op.operands, Call.operands, List.find?_cons, List.find?_nil, Nat.reduceBEq, beq_self_eq_true, List.map_cons, List.map_nil, List.getD_cons_zero, List.getD_cons_succ, List.getD_nil, List.set_cons_zero, List.set_cons_succ, List.length_cons, List.length_nil, List.replicate, List.cons_append, List.nil_append, List.append_nil, List.getElem?_cons_zero, List.getElem?_cons_succ, List.getElem?_toArray, List.getElem?_nil, List.take_zero, List.take_succ_cons, List.take_nil, List.drop_zero, List.drop_succ_cons, List.drop_nil, List.headD_cons, List.tail_cons, List.flatten_cons, List.flatten_nil, List.flatMap_cons, List.flatMap_nil, List.toList_toArray, Array.toList_append, Option.bind_some, Option.map_some, Option.map_none, Option.isSome_some, List.all_nil, List.all_cons, Bool.and_self, Bool.and_true, Bool.true_and, true_and, and_true, ↓reduceIte, List.size_toArray, Bool.false_eq_true, Bool.true_eq_false, false_implies, true_implies, Bool.not_true, Bool.not_false, and_self, implies_true, decide_true, decide_false, Nat.reduceAdd, Nat.reduceMul, Nat.reduceLT, Nat.reduceSub, Nat.reduceLeDiff, Nat.reduceEqDiff, eq_self, ne_eq, not_false_eq_true, false_and, and_false, reduceCtorEq, List.filter_nil, List.filter_cons, List.isEmpty_nil, List.isEmpty_cons, bne_self_eq_false, Nat.reduceBneDiff, Nat.lt_add_one, Nat.zero_lt_succ, List.append_assoc, Nat.zero_le, and_self_iff, Int.reduceToNat, List.any_nil, List.any_cons, List.filterMap_nil, List.filterMap_cons, List.contains_nil, List.contains_cons, Bool.or_false, Bool.false_or, Bool.or_true, Bool.true_or, Bool.false_and, Bool.and_false, decide_eq_true_eq, decide_eq_false_iff_not, beq_iff_eq, Int.toNat_natCast]
        refine ⟨⟨by omega, ⟨_, rfl, hk⟩, _, rfl, hh⟩, ?_⟩
        by_cases hz : szN ks hs 1048576 < 0
        · rw [if_pos hz]
          exact ⟨_, [], rfl, ⟨⟨⟨rfl, rfl, rfl⟩, trivial⟩, trivial, by simp [rn, hpAt]⟩⟩
        · rw [if_neg hz]
          obtain ⟨b1, b2, b3⟩ := szN_bd ks hs 1048576 (by omega) hz
          have b4 := szN_sum (by omega) hz
          have hm : hMid hs := ⟨b2, b3⟩
          have lowH : hLow hs := ⟨by omega, fun h hm => by have := b3 h hm; omega⟩
          have lowY : hLow hs := lowH
          have lowS : ssLow ([] : List (List UInt8)) := ⟨Nat.zero_le _, fun h hm => (List.not_mem_nil hm).elim⟩
          have n1 : ks.length ≤ ks.length + 1 := by omega
          have n2 : hs.length ≤ hs.length := Nat.le_refl _
          have n3 : ([] : List (List UInt8)).length ≤ hs.length := by simp
          have n4 : sumS ([] : List (List UInt8)) + sumH hs ≤ sumH hs := by simp [sumS]
          have q1 := hkC_eq hs (1 + 3 * (ks.length : Int)).toNat
          have q2 := hkC_eq hs (1 + 3 * ((ks.length : Nat) : Int)).toNat
          have q3 := ssC_eq ([] : List (List UInt8)) (hkC hs (1 + 3 * ((ks.length : Nat) : Int)).toNat)
          have t1 : sumS ([] : List (List UInt8)) = 0 := rfl
          have t2 : sumH ([] : List HE) = 0 := rfl
          try simp only [List.length_nil] at n1 n2 n3 q2 q3
          have z1 : ([] : List KE).length = 0 := rfl
          have z2 : ([] : List HE).length = 0 := rfl
          have z3 : ([] : List (List UInt8)).length = 0 := rfl
          skip
          clear hz
          repeat' first
            | refine And.intro ⟨⟨_, rfl, by omega⟩, ⟨_, rfl, hm⟩⟩ ?_
            | refine And.intro ⟨⟨_, rfl, by omega⟩, ⟨_, rfl, lowY⟩, ⟨_, rfl, by omega⟩, ⟨_, rfl, lowY⟩⟩ ?_
            | refine And.intro ⟨_, rfl, lowS⟩ ?_
            | refine And.intro ⟨⟨_, rfl, by omega⟩, ⟨_, rfl, lowH⟩, ⟨_, rfl, by omega⟩, ⟨_, rfl, lowH⟩⟩ ?_
            | refine And.intro ⟨_, rfl, lowS⟩ ?_
            | refine And.intro ⟨⟨_, rfl, lowS⟩, ⟨_, rfl, lowS⟩⟩ ?_
            | refine And.intro ⟨⟨_, rfl, by omega⟩, ⟨_, rfl, by omega, by omega⟩, by omega, by omega⟩ ?_
            | refine And.intro ⟨⟨_, rfl, by omega, by omega, by omega⟩, ⟨_, rfl, by omega, by omega⟩, by omega, by omega⟩ ?_
            | refine And.intro ⟨⟨_, rfl, by omega, by omega⟩, by omega, by omega⟩ ?_
            | refine And.intro (by kernel_rfl) ?_
            | rw [if_neg (by omega)]
            | rw [if_pos (by omega)]
          exact ⟨_, [], rfl, ⟨⟨⟨rfl, rfl, rfl⟩, trivial⟩, trivial, by simp [rn, hpAt]⟩⟩
      | true =>
        by_cases hf : (kOut ks qa).length < 4
        · simp (maxSteps := 3000000) only [Try.f3, xnh, g_szNear, g_toNT, g_toQuery, g_eqN, g_eqSS, g_markNearT, g_markSS, g_heldNear, g_heldSS, g_hearT, g_hearD, hearK, hearH, hearL, hearKs, hearHs, hearSs, hearSl, szA, ksOf_rows, hsOf_rows, ssOf_rows, kRows_len, hRows_len, sRows_len, rowsOf_len, bytesOf_rows, kxMks_len, hkC_mk, ssC_mk, kEq_refl, hEq_refl, beq_self_eq_true, bne_self_eq_false, Bool.false_eq_true, ↓reduceIte, hr, hw, hf, tY2, tY3, tY4, tY5, tY9, tY12, tY21, tY22, tY23, tY24, tY25, tY26, tY27, tY29, tY30, tY31, tY32, tY33, tY37, tY49, tY50, tY51, tY52, tY53, tY68, tY70, tY87, tY96, Try.underlying2, Try.underlying3, Try.underlying4, Try.underlying5, Try.underlying9, Try.underlying12, Try.underlying21, Try.underlying22, Try.underlying23, Try.underlying24, Try.underlying25, Try.underlying26, Try.underlying27, Try.underlying29, Try.underlying30, Try.underlying31, Try.underlying32, Try.underlying33, Try.underlying37, Try.underlying49, Try.underlying50, Try.underlying51, Try.underlying52, Try.underlying53, Try.underlying68, Try.underlying70, Try.underlying87, Try.underlying96, e_skip, e_label, e_ret, e_exit, e_seq, e_cond, e_block, e_region, seqK_normal, seqK_ret, seqK_exit, blkK_normal, blkK_ret, blkK_exit, condK_some, regK_true, regK_false, e_nil, e_cons, gateK_go, gateK_skip, gateK_ask, pickK_some, exK_some, x_pick, x_move, x_assign, x_alloc, x_box, x_build, x_buildSlice, x_load, x_store, x_binOp, x_unOp, x_convert, x_makeSlice, x_slice, x_fieldAddr, x_field, x_indexAddr, x_extract, x_nilCheck, x_call, x_len, x_append, x_min, oMin, x_copy, oCopy, eqAVs, callK_some, done_ret, done_normal, doneO_ret, doneO_normal, endsO_one, endsO_nil, endsO_more, ownAbs, frzAbs, leafs, leafs.leafsL, uniq, idxOf, bk, zipB, Blk.liveB, gate_none, gate_some, gateS_none, gateS_some, gateV_bool, gateV_undef, boolOf, evA, putT, refn, fpD, oBin, oUn, upsl, upl, up, ups, lk, dstsOf, resL, resA, packA, oLoadQ, oLoadKid, oStoreQ, oStoreTree, oBuildSliceQ, oBuildTree, oAppendQ, oAppendTree, isTr, isTrP, tkd, tkds, tkRows, ownOf, nodupB, deadL, treeOf, kidAbs, kidBlk, kidRows, TK.isCell, D.toL, oLoad, oStore, oAlloc, oBox, oBuild, oBuildSlice, oMake, oAppend, oIndexAddr, oFieldAddr, oField, oExtract, oNil, oSlice, oLen, oConvert, rowLoad, fillA, fillR, slB, dk, dks, dkRows, frz, loOf, hiOf, lenOf, rowsOf, nilV, lenV, putAt, views, viewsOk, CK.av, CK.ok, AV.cells, AV.one, Value.oneCell', Value.cells, pureAbs, nrm, nrm.nrmL, hpAt, sh, AV.ren, AV.ren.renL, Blk.ren, fpOf, footO, foot, blkIds, AV.ids, AV.ids.idsL, Op.operands, Call.operands, List.find?_cons, List.find?_nil, Nat.reduceBEq, beq_self_eq_true, List.map_cons, List.map_nil, List.getD_cons_zero, List.getD_cons_succ, List.getD_nil, List.set_cons_zero, List.set_cons_succ, List.length_cons, List.length_nil, List.replicate, List.cons_append, List.nil_append, List.append_nil, List.getElem?_cons_zero, List.getElem?_cons_succ, List.getElem?_toArray, List.getElem?_nil, List.take_zero, List.take_succ_cons, List.take_nil, List.drop_zero, List.drop_succ_cons, List.drop_nil, List.headD_cons, List.tail_cons, List.flatten_cons, List.flatten_nil, List.flatMap_cons, List.flatMap_nil, List.toList_toArray, Array.toList_append, Option.bind_some, Option.map_some, Option.map_none, Option.isSome_some, List.all_nil, List.all_cons, Bool.and_self, Bool.and_true, Bool.true_and, true_and, and_true, ↓reduceIte, List.size_toArray, Bool.false_eq_true, Bool.true_eq_false, false_implies, true_implies, Bool.not_true, Bool.not_false, and_self, implies_true, decide_true, decide_false, Nat.reduceAdd, Nat.reduceMul, Nat.reduceLT, Nat.reduceSub, Nat.reduceLeDiff, Nat.reduceEqDiff, eq_self, ne_eq, not_false_eq_true, false_and, and_false, reduceCtorEq, List.filter_nil, List.filter_cons, List.isEmpty_nil, List.isEmpty_cons, bne_self_eq_false, Nat.reduceBneDiff, Nat.lt_add_one, Nat.zero_lt_succ, List.append_assoc, Nat.zero_le, and_self_iff, Int.reduceToNat, List.any_nil, List.any_cons, List.filterMap_nil, List.filterMap_cons, List.contains_nil, List.contains_cons, Bool.or_false, Bool.false_or, Bool.or_true, Bool.true_or, Bool.false_and, Bool.and_false, decide_eq_true_eq, decide_eq_false_iff_not, beq_iff_eq, Int.toNat_natCast]
          refine ⟨⟨by omega, ⟨_, rfl, hk⟩, _, rfl, hh⟩, ?_⟩
          by_cases hz : szN ks hs 1048576 < 0
          · rw [if_pos hz]
            exact ⟨_, [], rfl, ⟨⟨⟨rfl, rfl, rfl⟩, trivial⟩, trivial, by simp [rn, hpAt]⟩⟩
          · rw [if_neg hz]
            obtain ⟨b1, b2, b3⟩ := szN_bd ks hs 1048576 (by omega) hz
            have b4 := szN_sum (by omega) hz
            have hm : hMid hs := ⟨b2, b3⟩
            have lowH : hLow hs := ⟨by omega, fun h hm => by have := b3 h hm; omega⟩
            have lowY : hLow (hOut hs qa) := out_low _ lowH
            have lowS : ssLow (sentOf hs qa) := sent_low _ lowH
            have n1 : (kOut ks qa ++ [⟨qa, ql, now + 20⟩] : List KE).length ≤ ks.length + 1 := by have := List.length_filter_le (fun e : KE => e.a != qa) ks; simp only [kOut, List.length_append, List.length_drop, List.length_cons, List.length_nil] at this ⊢; omega
            have n2 : (hOut hs qa).length ≤ hs.length := List.length_filter_le _ _
            have n3 : (sentOf hs qa).length ≤ hs.length := sent_le hs qa
            have n4 : sumS (sentOf hs qa) + sumH (hOut hs qa) ≤ sumH hs := by rw [sum_split]; exact Nat.le_refl _
            have q1 := hkC_eq hs (1 + 3 * (ks.length : Int)).toNat
            have q2 := hkC_eq (hOut hs qa) (1 + 3 * (((kOut ks qa ++ [⟨qa, ql, now + 20⟩] : List KE).length : Nat) : Int)).toNat
            have q3 := ssC_eq (sentOf hs qa) (hkC (hOut hs qa) (1 + 3 * (((kOut ks qa ++ [⟨qa, ql, now + 20⟩] : List KE).length : Nat) : Int)).toNat)
            have t1 : sumS ([] : List (List UInt8)) = 0 := rfl
            have t2 : sumH ([] : List HE) = 0 := rfl
            try simp only [List.length_nil] at n1 n2 n3 q2 q3
            have z1 : ([] : List KE).length = 0 := rfl
            have z2 : ([] : List HE).length = 0 := rfl
            have z3 : ([] : List (List UInt8)).length = 0 := rfl
            skip
            clear hz
            repeat' first
              | refine And.intro ⟨⟨_, rfl, by omega⟩, ⟨_, rfl, hm⟩⟩ ?_
              | refine And.intro ⟨⟨_, rfl, by omega⟩, ⟨_, rfl, lowY⟩, ⟨_, rfl, by omega⟩, ⟨_, rfl, lowY⟩⟩ ?_
              | refine And.intro ⟨_, rfl, lowS⟩ ?_
              | refine And.intro ⟨⟨_, rfl, by omega⟩, ⟨_, rfl, lowH⟩, ⟨_, rfl, by omega⟩, ⟨_, rfl, lowH⟩⟩ ?_
              | refine And.intro ⟨_, rfl, lowS⟩ ?_
              | refine And.intro ⟨⟨_, rfl, lowS⟩, ⟨_, rfl, lowS⟩⟩ ?_
              | refine And.intro ⟨⟨_, rfl, by omega⟩, ⟨_, rfl, by omega, by omega⟩, by omega, by omega⟩ ?_
              | refine And.intro ⟨⟨_, rfl, by omega, by omega, by omega⟩, ⟨_, rfl, by omega, by omega⟩, by omega, by omega⟩ ?_
              | refine And.intro ⟨⟨_, rfl, by omega, by omega⟩, by omega, by omega⟩ ?_
              | refine And.intro (by kernel_rfl) ?_
              | rw [if_neg (by omega)]
              | rw [if_pos (by omega)]
            exact ⟨_, [], rfl, ⟨⟨⟨rfl, rfl, rfl⟩, trivial⟩, trivial, by simp [rn, hpAt]⟩⟩
        · have h4 : ks.length ≤ 4 := by
            have hok' := hr
            simp only [rOk, Bool.and_eq_true] at hok'
            exact (nOkB_k hok'.1).1
          have h5 : (kOut ks qa).length = 4 := by
            have := List.length_filter_le (fun e : KE => e.a != qa) ks
            simp only [kOut] at hf ⊢
            omega
          have hff : ((kOut ks qa).length < 4) = False := eq_false hf
          have hA : (kOut ks qa ++ [⟨qa, ql, now + 20⟩] : List KE).length = 5 := by rw [List.length_append, h5]; rfl
          have hT5 : List.take 5 (kOut ks qa ++ [⟨qa, ql, now + 20⟩]) = kOut ks qa ++ [⟨qa, ql, now + 20⟩] := List.take_of_length_le (by omega)
          have hD5 : ∀ c, List.drop 1 (List.take 5 (List.take 1 (kOut ks qa ++ [⟨qa, ql, now + 20⟩]) ++ kxMks c ((kOut ks qa ++ [⟨qa, ql, now + 20⟩] : List KE).length - 1))) = kxMks c ((kOut ks qa ++ [⟨qa, ql, now + 20⟩] : List KE).length - 1) := fun c => by
            have l1 : (List.take 1 (kOut ks qa ++ [⟨qa, ql, now + 20⟩] : List KE)).length = 1 := by rw [List.length_take]; omega
            rw [List.take_of_length_le (by rw [List.length_append, l1, kxMks_len]; omega)]
            exact dropK_left1 l1
          simp (maxSteps := 3000000) only [Try.f3, xnh, g_szNear, g_toNT, g_toQuery, g_eqN, g_eqSS, g_markNearT, g_markSS, g_heldNear, g_heldSS, g_hearT, g_hearD, hearK, hearH, hearL, hearKs, hearHs, hearSs, hearSl, szA, ksOf_rows, hsOf_rows, ssOf_rows, kRows_len, hRows_len, sRows_len, rowsOf_len, bytesOf_rows, kxMks_len, hkC_mk, ssC_mk, kEq_refl, hEq_refl, beq_self_eq_true, bne_self_eq_false, Bool.false_eq_true, ↓reduceIte, hr, hw, hff, kRows_take, kRows_drop, hT5, hD5, tY2, tY3, tY4, tY5, tY9, tY12, tY21, tY22, tY23, tY24, tY25, tY26, tY27, tY29, tY30, tY31, tY32, tY33, tY37, tY49, tY50, tY51, tY52, tY53, tY68, tY70, tY87, tY96, Try.underlying2, Try.underlying3, Try.underlying4, Try.underlying5, Try.underlying9, Try.underlying12, Try.underlying21, Try.underlying22, Try.underlying23, Try.underlying24, Try.underlying25, Try.underlying26, Try.underlying27, Try.underlying29, Try.underlying30, Try.underlying31, Try.underlying32, Try.underlying33, Try.underlying37, Try.underlying49, Try.underlying50, Try.underlying51, Try.underlying52, Try.underlying53, Try.underlying68, Try.underlying70, Try.underlying87, Try.underlying96, e_skip, e_label, e_ret, e_exit, e_seq, e_cond, e_block, e_region, seqK_normal, seqK_ret, seqK_exit, blkK_normal, blkK_ret, blkK_exit, condK_some, regK_true, regK_false, e_nil, e_cons, gateK_go, gateK_skip, gateK_ask, pickK_some, exK_some, x_pick, x_move, x_assign, x_alloc, x_box, x_build, x_buildSlice, x_load, x_store, x_binOp, x_unOp, x_convert, x_makeSlice, x_slice, x_fieldAddr, x_field, x_indexAddr, x_extract, x_nilCheck, x_call, x_len, x_append, x_min, oMin, x_copy, oCopy, eqAVs, callK_some, done_ret, done_normal, doneO_ret, doneO_normal, endsO_one, endsO_nil, endsO_more, ownAbs, frzAbs, leafs, leafs.leafsL, uniq, idxOf, bk, zipB, Blk.liveB, gate_none, gate_some, gateS_none, gateS_some, gateV_bool, gateV_undef, boolOf, evA, putT, refn, fpD, oBin, oUn, upsl, upl, up, ups, lk, dstsOf, resL, resA, packA, oLoadQ, oLoadKid, oStoreQ, oStoreTree, oBuildSliceQ, oBuildTree, oAppendQ, oAppendTree, isTr, isTrP, tkd, tkds, tkRows, ownOf, nodupB, deadL, treeOf, kidAbs, kidBlk, kidRows, TK.isCell, D.toL, oLoad, oStore, oAlloc, oBox, oBuild, oBuildSlice, oMake, oAppend, oIndexAddr, oFieldAddr, oField, oExtract, oNil, oSlice, oLen, oConvert, rowLoad, fillA, fillR, slB, dk, dks, dkRows, frz, loOf, hiOf, lenOf, rowsOf, nilV, lenV, putAt, views, viewsOk, CK.av, CK.ok, AV.cells, AV.one, Value.oneCell', Value.cells, pureAbs, nrm, nrm.nrmL, hpAt, sh, AV.ren, AV.ren.renL, Blk.ren, fpOf, footO, foot, blkIds, AV.ids, AV.ids.idsL, Op.operands, Call.operands, List.find?_cons, List.find?_nil, Nat.reduceBEq, beq_self_eq_true, List.map_cons, List.map_nil, List.getD_cons_zero, List.getD_cons_succ, List.getD_nil, List.set_cons_zero, List.set_cons_succ, List.length_cons, List.length_nil, List.replicate, List.cons_append, List.nil_append, List.append_nil, List.getElem?_cons_zero, List.getElem?_cons_succ, List.getElem?_toArray, List.getElem?_nil, List.take_zero, List.take_succ_cons, List.take_nil, List.drop_zero, List.drop_succ_cons, List.drop_nil, List.headD_cons, List.tail_cons, List.flatten_cons, List.flatten_nil, List.flatMap_cons, List.flatMap_nil, List.toList_toArray, Array.toList_append, Option.bind_some, Option.map_some, Option.map_none, Option.isSome_some, List.all_nil, List.all_cons, Bool.and_self, Bool.and_true, Bool.true_and, true_and, and_true, ↓reduceIte, List.size_toArray, Bool.false_eq_true, Bool.true_eq_false, false_implies, true_implies, Bool.not_true, Bool.not_false, and_self, implies_true, decide_true, decide_false, Nat.reduceAdd, Nat.reduceMul, Nat.reduceLT, Nat.reduceSub, Nat.reduceLeDiff, Nat.reduceEqDiff, eq_self, ne_eq, not_false_eq_true, false_and, and_false, reduceCtorEq, List.filter_nil, List.filter_cons, List.isEmpty_nil, List.isEmpty_cons, bne_self_eq_false, Nat.reduceBneDiff, Nat.lt_add_one, Nat.zero_lt_succ, List.append_assoc, Nat.zero_le, and_self_iff, Int.reduceToNat, List.any_nil, List.any_cons, List.filterMap_nil, List.filterMap_cons, List.contains_nil, List.contains_cons, Bool.or_false, Bool.false_or, Bool.or_true, Bool.true_or, Bool.false_and, Bool.and_false, decide_eq_true_eq, decide_eq_false_iff_not, beq_iff_eq, Int.toNat_natCast]
          refine ⟨⟨by omega, ⟨_, rfl, hk⟩, _, rfl, hh⟩, ?_⟩
          by_cases hz : szN ks hs 1048576 < 0
          · rw [if_pos hz]
            exact ⟨_, [], rfl, ⟨⟨⟨rfl, rfl, rfl⟩, trivial⟩, trivial, by simp [rn, hpAt]⟩⟩
          · rw [if_neg hz]
            obtain ⟨b1, b2, b3⟩ := szN_bd ks hs 1048576 (by omega) hz
            have b4 := szN_sum (by omega) hz
            have hm : hMid hs := ⟨b2, b3⟩
            have lowH : hLow hs := ⟨by omega, fun h hm => by have := b3 h hm; omega⟩
            have lowY : hLow (hOut hs qa) := out_low _ lowH
            have lowS : ssLow (sentOf hs qa) := sent_low _ lowH
            have n1 : (kOut ks qa ++ [⟨qa, ql, now + 20⟩] : List KE).length ≤ ks.length + 1 := by have := List.length_filter_le (fun e : KE => e.a != qa) ks; simp only [kOut, List.length_append, List.length_drop, List.length_cons, List.length_nil] at this ⊢; omega
            have n2 : (hOut hs qa).length ≤ hs.length := List.length_filter_le _ _
            have n3 : (sentOf hs qa).length ≤ hs.length := sent_le hs qa
            have n4 : sumS (sentOf hs qa) + sumH (hOut hs qa) ≤ sumH hs := by rw [sum_split]; exact Nat.le_refl _
            have q1 := hkC_eq hs (1 + 3 * (ks.length : Int)).toNat
            have q2 := hkC_eq (hOut hs qa) (1 + 3 * ((((kOut ks qa ++ [⟨qa, ql, now + 20⟩] : List KE).length - 1 : Nat) : Nat) : Int)).toNat
            have q3 := ssC_eq (sentOf hs qa) (hkC (hOut hs qa) (1 + 3 * ((((kOut ks qa ++ [⟨qa, ql, now + 20⟩] : List KE).length - 1 : Nat) : Nat) : Int)).toNat)
            have t1 : sumS ([] : List (List UInt8)) = 0 := rfl
            have t2 : sumH ([] : List HE) = 0 := rfl
            try simp only [List.length_nil] at n1 n2 n3 q2 q3
            have z1 : ([] : List KE).length = 0 := rfl
            have z2 : ([] : List HE).length = 0 := rfl
            have z3 : ([] : List (List UInt8)).length = 0 := rfl
            have lowK : (List.drop 1 (kOut ks qa ++ [⟨qa, ql, now + 20⟩] : List KE)).length ≤ 1099511627776 := by rw [List.length_drop]; omega
            clear hz
            repeat' first
              | refine And.intro ⟨⟨_, rfl, by omega⟩, ⟨_, rfl, hm⟩⟩ ?_
              | refine And.intro ⟨⟨_, rfl, by omega⟩, ⟨_, rfl, lowY⟩, ⟨_, rfl, by omega⟩, ⟨_, rfl, lowY⟩⟩ ?_
              | refine And.intro ⟨⟨_, rfl, lowK⟩, ⟨_, rfl, lowY⟩, ⟨_, rfl, lowK⟩, ⟨_, rfl, lowY⟩⟩ ?_
              | refine And.intro ⟨⟨_, rfl, by omega⟩, ⟨_, rfl, lowH⟩, ⟨_, rfl, by omega⟩, ⟨_, rfl, lowH⟩⟩ ?_
              | refine And.intro ⟨_, rfl, lowS⟩ ?_
              | refine And.intro ⟨⟨_, rfl, lowS⟩, ⟨_, rfl, lowS⟩⟩ ?_
              | refine And.intro ⟨⟨_, rfl, by omega⟩, ⟨_, rfl, by omega, by omega⟩, by omega, by omega⟩ ?_
              | refine And.intro ⟨⟨_, rfl, by omega, by omega, by omega⟩, ⟨_, rfl, by omega, by omega⟩, by omega, by omega⟩ ?_
              | refine And.intro ⟨⟨_, rfl, by omega, by omega⟩, by omega, by omega⟩ ?_
              | refine And.intro (by kernel_rfl) ?_
              | rw [if_neg (by omega)]
              | rw [if_pos (by omega)]
            exact ⟨_, [], rfl, ⟨⟨⟨rfl, rfl, rfl⟩, trivial⟩, trivial, by simp [rn, hpAt]⟩⟩
  · cases hg
theorem walk_ExactNearHear (cs : Array Value) (ds : List D) (own k l a q now : Int) (w : World) (h : Reads w nearKinds ds cs.toList) (_ : (Lit.int .i64 own).wf = true) (_ : (Lit.int .i64 now).wf = true) :
    Calls Try.prog 3 #[.agg cs, .int .i64 own, .agg #[.int .i64 k, .int .i64 l, .int .i64 a, .int .i64 q], .int .i64 now] w fun e w' => e = .returned (.bool true) ∧ Below w.heap.size w w' := by
  obtain ⟨ks, hs, hr, hk, hh⟩ := near_in h
  exact lawExactNearHear_ok.walk (vs := [_, _, _, _]) (arel_cons hr (arel_cons (.v _) (arel_cons (avr_q w k l a q) (arel_cons (.v _) arel_nil)))) rfl ⟨⟨_, rfl, hk⟩, ⟨_, rfl, hh⟩⟩
end Go.Proofs.Ytheikjkfffepnaa
