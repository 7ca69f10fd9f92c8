import Derived.Test.YthbcoakimbpkgaaKk
import Derived.Test.YthbcoakimbpkgaaVf
set_option linter.unusedVariables false
set_option linter.unusedSimpArgs false
namespace Go.Proofs.Ythbcoakimbpkgaa
open Go.RowKit
set_option linter.unusedSimpArgs false
def hopsV (i : Int) : Int := [64, 64, 1, 2, 3, 4].getD i.toNat 0
def sentV (xs : List UInt8) (p : Int) : PkV :=
  if 0 < pickV xs ((pktV xs p 0).q + 1 + 1) 3 then { pktV xs p 0 with t := 10 + pickV xs (pktV xs p 0).q 6, h := hopsV (pickV xs ((pktV xs p 0).q + 1) 6), a := 0, m := false, q := (pktV xs p 0).q + 1 + 1 + 1 }
  else { pktV xs p 0 with t := 10 + pickV xs (pktV xs p 0).q 6, h := hopsV (pickV xs ((pktV xs p 0).q + 1) 6), q := (pktV xs p 0).q + 1 + 1 + 1 }
theorem netQ_bd (xs : List UInt8) (p n : Int) (h : p < 100000000000) : p ≤ netQ xs p n ∧ netQ xs p n ≤ p + 112 := by
  have := (netL_bd xs p h).2.2
  have h1 := oneIf_le n
  rw [netQ]; omega
def g_sent : OC := fun args B0 => match args, B0 with
  | [.ptr r o, .l _ nr], [.var T [.l 1 rows, .v (.int .i64 p)]] => some (T = 125 ∧ r = 0 ∧ o = 0 ∧ (∃ xs, rows = rowsOfBytes xs ∧ xs.length ≤ 2000) ∧ 0 ≤ p ∧ p < 10000000000, .agg [.v (.int .i64 (sentV (bytesOfRows rows) p).f), .v (.int .i64 (sentV (bytesOfRows rows) p).t), .v (.int .i64 (sentV (bytesOfRows rows) p).pr), .v (.int .i64 (sentV (bytesOfRows rows) p).h), .v (.int .i64 (sentV (bytesOfRows rows) p).i), .v (.int .i64 (sentV (bytesOfRows rows) p).a), .v (.bool (sentV (bytesOfRows rows) p).m), .v (.bool (sentV (bytesOfRows rows) p).u), .l 1 (rowsOfBytes (sentV (bytesOfRows rows) p).d)], [.var T [.l 1 rows, .v (.int .i64 (sentV (bytesOfRows rows) p).q)]], [])
  | _, _ => none
def kns : List (FuncId × Abs) := [(69, ownAbs g_pick), (70, ownAbs g_packet)]
theorem kns_ok : ∀ p ∈ kns, CallOk Try.prog p.1 p.2 := by
  intro p hp
  simp only [kns, List.mem_cons, List.not_mem_nil, or_false] at hp
  rcases hp with rfl | rfl
  · exact pick_ok.call
  · exact packet_ok.call
set_option maxHeartbeats 4000000 in
set_option maxRecDepth 100000 in
theorem l20Sent_ok : OwnOk Try.prog 68 g_sent := by
  refine OwnOk.of_vcL (G := kns) kns_ok mixed Try.func68 (by kernel_rfl) rfl ?_
  intro args B0 cnd r B1 bs hg hc hlive
  unfold g_sent at hg
  split at hg
  · rename_i r o sn nr T rows p
    cases hg
    obtain ⟨rfl, rfl, rfl, ⟨xs, rfl, hl⟩, hp0, hp1⟩ := hc
    rw [bytesOf_rows]
    have hb := pktV_q xs p 0
    obtain ⟨V, hV⟩ : ∃ V, V = pktV xs p 0 := ⟨_, rfl⟩
    have hV' := hV.symm
    rw [hV'] at hb
    have a1 := pickV_nonneg xs V.q 6 (by omega)
    have a2 := pickV_lt xs V.q 6 (by omega)
    have a3 := pickV_nonneg xs (V.q + 1) 6 (by omega)
    have a4 := pickV_lt xs (V.q + 1) 6 (by omega)
    have w1 : IntKind.i64.wrap (10 + pickV xs V.q 6) = 10 + pickV xs V.q 6 := wrap_id (by omega) (by omega)
    have r1 := lit_get [64, 64, 1, 2, 3, 4] (pickV xs (V.q + 1) 6).toNat (by simp only [List.length_cons, List.length_nil]; omega)
    simp only [List.map_cons, List.map_nil] at r1
    rw [← hopsV] at r1
    have h6 : (pickV xs (V.q + 1) 6 < 6) = True := eq_true a4
    refine ⟨⟨by simp [likeBs, likeB], rfl, fun b hb => by simp at hb; subst hb; exact ⟨_, _, rfl, rfl⟩, by simp [AV.ids, AV.ids.idsL]⟩, _, rfl, fun w Z s vs h => h, ?_⟩
    clear hlive
    have hx : (∃ ys, rowsOfBytes xs = rowsOfBytes ys ∧ ys.length ≤ 2000) = True := eq_true ⟨xs, rfl, hl⟩
    by_cases h3 : 0 < pickV xs (V.q + 1 + 1) 3
    · have c3 : (pickV xs (V.q + 1 + 1) 3 > 0) = True := eq_true h3
      have hv : sentV xs p = { V with t := 10 + pickV xs V.q 6, h := hopsV (pickV xs (V.q + 1) 6), a := 0, m := false, q := V.q + 1 + 1 + 1 } := by rw [sentV, hV', if_pos h3]
      rw [hv]
      simp (maxSteps := 3000000) only [Try.f68, kns, g_pick, g_packet, bytesOf_rows, rowsOf_len, hV', w1, r1, c3, hx, D.toI, D.toL, ↓reduceIte, Bool.false_eq_true, doneL_ret, doneL_normal, tY2, tY3, tY4, tY5, tY9, tY12, tY21, tY22, tY23, tY24, tY25, tY30, tY31, tY34, tY35, tY36, tY42, tY47, tY48, tY51, tY55, tY56, tY62, tY63, tY64, tY69, tY76, tY104, tY105, tY109, tY110, tY111, tY114, tY124, tY125, tY137, tY154, tY163, Try.underlying2, Try.underlying3, Try.underlying4, Try.underlying5, Try.underlying9, Try.underlying12, Try.underlying21, Try.underlying22, Try.underlying23, Try.underlying24, Try.underlying25, Try.underlying30, Try.underlying31, Try.underlying34, Try.underlying35, Try.underlying36, Try.underlying42, Try.underlying47, Try.underlying48, Try.underlying51, Try.underlying55, Try.underlying56, Try.underlying62, Try.underlying63, Try.underlying64, Try.underlying69, Try.underlying76, Try.underlying104, Try.underlying105, Try.underlying109, Try.underlying110, Try.underlying111, Try.underlying114, Try.underlying124, Try.underlying125, Try.underlying137, Try.underlying154, Try.underlying163, e_skip, e_label, e_ret, e_exit, e_seq, e_cond, e_block, e_region, seqK_normal, seqK_ret, seqK_exit, blkK_normal, blkK_ret, blkK_exit, condK_some, regK_true, regK_false, e_nil, e_cons, gateK_go, gateK_skip, gateK_ask, pickK_some, exK_some, x_pick, x_move, x_assign, x_alloc, x_box, x_build, x_buildSlice, x_load, x_store, x_binOp, x_unOp, x_convert, x_makeSlice, x_slice, x_fieldAddr, x_field, x_indexAddr, x_extract, x_nilCheck, x_call, x_len, x_append, x_min, oMin, x_copy, oCopy, eqAVs, callK_some, done_ret, done_normal, doneO_ret, doneO_normal, endsO_one, endsO_nil, endsO_more, ownAbs, frzAbs, leafs, leafs.leafsL, uniq, idxOf, bk, zipB, Blk.liveB, gate_none, gate_some, gateS_none, gateS_some, gateV_bool, gateV_undef, boolOf, evA, putT, refn, fpD, oBin, oUn, upsl, upl, up, ups, lk, dstsOf, resL, resA, packA, oLoadQ, oLoadKid, oStoreQ, oStoreTree, oBuildSliceQ, oBuildTree, oAppendQ, oAppendTree, isTr, isTrP, tkd, tkds, tkRows, ownOf, nodupB, deadL, treeOf, kidAbs, kidBlk, kidRows, TK.isCell, D.toL, oLoad, oStore, oAlloc, oBox, oBuild, oBuildSlice, oMake, oAppend, oIndexAddr, oFieldAddr, oField, oExtract, oNil, oSlice, oSliceQ, oLen, oConvert, rowLoad, fillA, fillR, slB, dk, dks, dkRows, frz, loOf, hiOf, lenOf, rowsOf, nilV, lenV, putAt, views, viewsOk, CK.av, CK.ok, AV.cells, AV.one, Value.oneCell', Value.cells, pureAbs, nrm, nrm.nrmL, hpAt, sh, AV.ren, AV.ren.renL, Blk.ren, fpOf, footO, foot, blkIds, AV.ids, AV.ids.idsL, Op.operands, Call.operands, List.find?_cons, List.find?_nil, Nat.reduceBEq, beq_self_eq_true, List.map_cons, List.map_nil, List.getD_cons_zero, List.getD_cons_succ, List.getD_nil, List.set_cons_zero, List.set_cons_succ, List.length_cons, List.length_nil, List.replicate, List.cons_append, List.nil_append, List.append_nil, List.getElem?_cons_zero, List.getElem?_cons_succ, List.getElem?_toArray, List.getElem?_nil, List.take_zero, List.take_succ_cons, List.take_nil, List.drop_zero, List.drop_succ_cons, List.drop_nil, List.headD_cons, List.tail_cons, List.flatten_cons, List.flatten_nil, List.flatMap_cons, List.flatMap_nil, List.toList_toArray, Array.toList_append, Option.bind_some, Option.map_some, Option.map_none, Option.isSome_some, List.all_nil, List.all_cons, Bool.and_self, Bool.and_true, Bool.true_and, true_and, and_true, ↓reduceIte, List.size_toArray, Bool.false_eq_true, Bool.true_eq_false, false_implies, true_implies, Bool.not_true, Bool.not_false, and_self, implies_true, decide_true, decide_false, Nat.reduceAdd, Nat.reduceMul, Nat.reduceLT, Nat.reduceSub, Nat.reduceLeDiff, Nat.reduceEqDiff, eq_self, ne_eq, not_false_eq_true, false_and, and_false, reduceCtorEq, List.filter_nil, List.filter_cons, List.isEmpty_nil, List.isEmpty_cons, bne_self_eq_false, Nat.reduceBneDiff, Nat.lt_add_one, Nat.zero_lt_succ, List.append_assoc, Nat.zero_le, and_self_iff, Int.reduceToNat, List.any_nil, List.any_cons, List.filterMap_nil, List.filterMap_cons, List.contains_nil, List.contains_cons, Bool.or_false, Bool.false_or, Bool.or_true, Bool.true_or, Bool.false_and, Bool.and_false, decide_eq_true_eq, decide_eq_false_iff_not, beq_iff_eq, Int.toNat_natCast]
      clear hV' hv r1
      (repeat (refine And.intro ?_ ?_; focus (((repeat' apply And.intro) <;> first | exact rowsOf_w _ | omega | (simp only [List.length_append, rowsOf_len, List.length_cons, List.length_nil, marks_len, List.length_take, List.length_drop, List.length_set]; omega) | exact ⟨_, rfl⟩ | (refine ⟨_, rfl, ?_⟩; omega) | (refine ⟨_, rfl, ?_⟩; simp only [List.length_append, rowsOf_len, List.length_cons, List.length_nil, marks_len, List.length_take, List.length_drop, List.length_set]; omega) | kernel_rfl | (simp; done)); done)))
      exact ⟨_, rfl, rfl, rfl⟩
    · have c3 : (pickV xs (V.q + 1 + 1) 3 > 0) = False := eq_false h3
      have hv : sentV xs p = { V with t := 10 + pickV xs V.q 6, h := hopsV (pickV xs (V.q + 1) 6), q := V.q + 1 + 1 + 1 } := by rw [sentV, hV', if_neg h3]
      rw [hv]
      simp (maxSteps := 3000000) only [Try.f68, kns, g_pick, g_packet, bytesOf_rows, rowsOf_len, hV', w1, r1, c3, hx, D.toI, D.toL, ↓reduceIte, Bool.false_eq_true, doneL_ret, doneL_normal, tY2, tY3, tY4, tY5, tY9, tY12, tY21, tY22, tY23, tY24, tY25, tY30, tY31, tY34, tY35, tY36, tY42, tY47, tY48, tY51, tY55, tY56, tY62, tY63, tY64, tY69, tY76, tY104, tY105, tY109, tY110, tY111, tY114, tY124, tY125, tY137, tY154, tY163, Try.underlying2, Try.underlying3, Try.underlying4, Try.underlying5, Try.underlying9, Try.underlying12, Try.underlying21, Try.underlying22, Try.underlying23, Try.underlying24, Try.underlying25, Try.underlying30, Try.underlying31, Try.underlying34, Try.underlying35, Try.underlying36, Try.underlying42, Try.underlying47, Try.underlying48, Try.underlying51, Try.underlying55, Try.underlying56, Try.underlying62, Try.underlying63, Try.underlying64, Try.underlying69, Try.underlying76, Try.underlying104, Try.underlying105, Try.underlying109, Try.underlying110, Try.underlying111, Try.underlying114, Try.underlying124, Try.underlying125, Try.underlying137, Try.underlying154, Try.underlying163, e_skip, e_label, e_ret, e_exit, e_seq, e_cond, e_block, e_region, seqK_normal, seqK_ret, seqK_exit, blkK_normal, blkK_ret, blkK_exit, condK_some, regK_true, regK_false, e_nil, e_cons, gateK_go, gateK_skip, gateK_ask, pickK_some, exK_some, x_pick, x_move, x_assign, x_alloc, x_box, x_build, x_buildSlice, x_load, x_store, x_binOp, x_unOp, x_convert, x_makeSlice, x_slice, x_fieldAddr, x_field, x_indexAddr, x_extract, x_nilCheck, x_call, x_len, x_append, x_min, oMin, x_copy, oCopy, eqAVs, callK_some, done_ret, done_normal, doneO_ret, doneO_normal, endsO_one, endsO_nil, endsO_more, ownAbs, frzAbs, leafs, leafs.leafsL, uniq, idxOf, bk, zipB, Blk.liveB, gate_none, gate_some, gateS_none, gateS_some, gateV_bool, gateV_undef, boolOf, evA, putT, refn, fpD, oBin, oUn, upsl, upl, up, ups, lk, dstsOf, resL, resA, packA, oLoadQ, oLoadKid, oStoreQ, oStoreTree, oBuildSliceQ, oBuildTree, oAppendQ, oAppendTree, isTr, isTrP, tkd, tkds, tkRows, ownOf, nodupB, deadL, treeOf, kidAbs, kidBlk, kidRows, TK.isCell, D.toL, oLoad, oStore, oAlloc, oBox, oBuild, oBuildSlice, oMake, oAppend, oIndexAddr, oFieldAddr, oField, oExtract, oNil, oSlice, oSliceQ, oLen, oConvert, rowLoad, fillA, fillR, slB, dk, dks, dkRows, frz, loOf, hiOf, lenOf, rowsOf, nilV, lenV, putAt, views, viewsOk, CK.av, CK.ok, AV.cells, AV.one, Value.oneCell', Value.cells, pureAbs, nrm, nrm.nrmL, hpAt, sh, AV.ren, AV.ren.renL, Blk.ren, fpOf, footO, foot, blkIds, AV.ids, AV.ids.idsL, Op.operands, Call.operands, List.find?_cons, List.find?_nil, Nat.reduceBEq, beq_self_eq_true, List.map_cons, List.map_nil, List.getD_cons_zero, List.getD_cons_succ, List.getD_nil, List.set_cons_zero, List.set_cons_succ, List.length_cons, List.length_nil, List.replicate, List.cons_append, List.nil_append, List.append_nil, List.getElem?_cons_zero, List.getElem?_cons_succ, List.getElem?_toArray, List.getElem?_nil, List.take_zero, List.take_succ_cons, List.take_nil, List.drop_zero, List.drop_succ_cons, List.drop_nil, List.headD_cons, List.tail_cons, List.flatten_cons, List.flatten_nil, List.flatMap_cons, List.flatMap_nil, List.toList_toArray, Array.toList_append, Option.bind_some, Option.map_some, Option.map_none, Option.isSome_some, List.all_nil, List.all_cons, Bool.and_self, Bool.and_true, Bool.true_and, true_and, and_true, ↓reduceIte, List.size_toArray, Bool.false_eq_true, Bool.true_eq_false, false_implies, true_implies, Bool.not_true, Bool.not_false, and_self, implies_true, decide_true, decide_false, Nat.reduceAdd, Nat.reduceMul, Nat.reduceLT, Nat.reduceSub, Nat.reduceLeDiff, Nat.reduceEqDiff, eq_self, ne_eq, not_false_eq_true, false_and, and_false, reduceCtorEq, List.filter_nil, List.filter_cons, List.isEmpty_nil, List.isEmpty_cons, bne_self_eq_false, Nat.reduceBneDiff, Nat.lt_add_one, Nat.zero_lt_succ, List.append_assoc, Nat.zero_le, and_self_iff, Int.reduceToNat, List.any_nil, List.any_cons, List.filterMap_nil, List.filterMap_cons, List.contains_nil, List.contains_cons, Bool.or_false, Bool.false_or, Bool.or_true, Bool.true_or, Bool.false_and, Bool.and_false, decide_eq_true_eq, decide_eq_false_iff_not, beq_iff_eq, Int.toNat_natCast]
      clear hV' hv r1
      (repeat (refine And.intro ?_ ?_; focus (((repeat' apply And.intro) <;> first | exact rowsOf_w _ | omega | (simp only [List.length_append, rowsOf_len, List.length_cons, List.length_nil, marks_len, List.length_take, List.length_drop, List.length_set]; omega) | exact ⟨_, rfl⟩ | (refine ⟨_, rfl, ?_⟩; omega) | (refine ⟨_, rfl, ?_⟩; simp only [List.length_append, rowsOf_len, List.length_cons, List.length_nil, marks_len, List.length_take, List.length_drop, List.length_set]; omega) | kernel_rfl | (simp; done)); done)))
      exact ⟨_, rfl, rfl, rfl⟩
  · cases hg
def dsV (xs : List UInt8) : St := ⟨addrW xs 0, (routesV xs 5 4).l⟩
def dtN (xs : List UInt8) : List St := netV xs 0 20
def dtQ (xs : List UInt8) : Int := netQ xs 0 20
def g_drawSt : PC := fun args => match args with
  | [.l _ rows] => some (∃ xs, rows = rowsOfBytes xs, .agg [.v (.int .i64 (dsV ((bytesOfRows rows).take 2000)).a), .l 4 (rtRows (dsV ((bytesOfRows rows).take 2000)).rs)], [])
  | _ => none
def g_drawNet : PC := fun args => match args with
  | [.l _ rows] => some (∃ xs, rows = rowsOfBytes xs, .l 2 (stRows (netV ((bytesOfRows rows).take 2000) 0 2)), [])
  | _ => none
def g_drawPr : PC := fun args => match args with
  | [.l _ rows] => some (∃ xs, rows = rowsOfBytes xs, .tup [.l 2 (stRows (dtN ((bytesOfRows rows).take 2000))), .v (.int .i64 (pickV ((bytesOfRows rows).take 2000) (dtQ ((bytesOfRows rows).take 2000)) ((dtN ((bytesOfRows rows).take 2000)).length))), .v (.int .i64 (10 + pickV ((bytesOfRows rows).take 2000) (dtQ ((bytesOfRows rows).take 2000) + 1) 6))], [])
  | _ => none
def kd1 : List (FuncId × Abs) := [(59, ownAbs g_open), (69, ownAbs g_pick), (67, ownAbs g_net), (68, ownAbs g_sent), (70, ownAbs g_packet), (60, ownAbs g_addr), (61, ownAbs g_routes)]
theorem kd1_ok : ∀ p ∈ kd1, CallOk Try.prog p.1 p.2 := by
  intro p hp
  simp only [kd1, List.mem_cons, List.not_mem_nil, or_false] at hp
  rcases hp with rfl | rfl | rfl | rfl | rfl | rfl | rfl
  · exact open_ok.call
  · exact pick_ok.call
  · exact l20Net_ok.call
  · exact l20Sent_ok.call
  · exact packet_ok.call
  · exact addr_ok.call
  · exact routes_ok.call
set_option maxHeartbeats 8000000 in
set_option maxRecDepth 100000 in
theorem drawStationOk_ok : OwnOk Try.prog 15 (ocOf g_drawSt) := by
  refine OwnOk.of_vcD (G := kd1) kd1_ok mixed Try.func15 (by kernel_rfl) rfl ?_
  intro args cnd r bs hg hc
  unfold g_drawSt at hg
  split at hg
  · rename_i sz rows
    cases hg
    obtain ⟨xs, rfl⟩ := hc
    rw [bytesOf_rows]
    refine ⟨⟨rfl, by simp [AV.ids, AV.ids.idsL]⟩, [.l 1 (rowsOfBytes xs)], rfl, fun w Z s vs h => CvL.ok (.cons (.l _ _ _ (rowsOf_w xs)) .nil) h, ?_⟩
    obtain ⟨ys, hys⟩ : ∃ ys, ys = List.take 2000 xs := ⟨_, rfl⟩
    rw [← hys]
    have hyl : ys.length ≤ 2000 := by rw [hys, List.length_take]; omega
    have hx : (∃ zs, rowsOfBytes ys = rowsOfBytes zs ∧ zs.length ≤ 2000) = True := eq_true ⟨_, rfl, hyl⟩
    have hrb := routesV_bd ys 5 4 (by omega)
    simp (maxSteps := 3000000) only [Try.f15, kd1, g_open, g_pick, g_net, g_sent, g_packet, g_addr, g_routes, bytesOf_rows, rowsOf_len, stRows_len, rtRows_len, ← hys, hx, Int.zero_add, Int.reduceAdd, D.toI, D.toL, ↓reduceIte, Bool.false_eq_true, tY2, tY3, tY4, tY5, tY9, tY12, tY21, tY22, tY23, tY24, tY25, tY30, tY31, tY34, tY35, tY36, tY42, tY47, tY48, tY51, tY55, tY56, tY62, tY63, tY64, tY69, tY76, tY104, tY105, tY109, tY110, tY111, tY114, tY124, tY125, tY137, tY154, tY163, Try.underlying2, Try.underlying3, Try.underlying4, Try.underlying5, Try.underlying9, Try.underlying12, Try.underlying21, Try.underlying22, Try.underlying23, Try.underlying24, Try.underlying25, Try.underlying30, Try.underlying31, Try.underlying34, Try.underlying35, Try.underlying36, Try.underlying42, Try.underlying47, Try.underlying48, Try.underlying51, Try.underlying55, Try.underlying56, Try.underlying62, Try.underlying63, Try.underlying64, Try.underlying69, Try.underlying76, Try.underlying104, Try.underlying105, Try.underlying109, Try.underlying110, Try.underlying111, Try.underlying114, Try.underlying124, Try.underlying125, Try.underlying137, Try.underlying154, Try.underlying163, e_skip, e_label, e_ret, e_exit, e_seq, e_cond, e_block, e_region, seqK_normal, seqK_ret, seqK_exit, blkK_normal, blkK_ret, blkK_exit, condK_some, regK_true, regK_false, e_nil, e_cons, gateK_go, gateK_skip, gateK_ask, pickK_some, exK_some, x_pick, x_move, x_assign, x_alloc, x_box, x_build, x_buildSlice, x_load, x_store, x_binOp, x_unOp, x_convert, x_makeSlice, x_slice, x_fieldAddr, x_field, x_indexAddr, x_extract, x_nilCheck, x_call, x_len, x_append, x_min, oMin, x_copy, oCopy, eqAVs, callK_some, done_ret, done_normal, doneO_ret, doneO_normal, endsO_one, endsO_nil, endsO_more, ownAbs, frzAbs, leafs, leafs.leafsL, uniq, idxOf, bk, zipB, Blk.liveB, gate_none, gate_some, gateS_none, gateS_some, gateV_bool, gateV_undef, boolOf, evA, putT, refn, fpD, oBin, oUn, upsl, upl, up, ups, lk, dstsOf, resL, resA, packA, oLoadQ, oLoadKid, oStoreQ, oStoreTree, oBuildSliceQ, oBuildTree, oAppendQ, oAppendTree, isTr, isTrP, tkd, tkds, tkRows, ownOf, nodupB, deadL, treeOf, kidAbs, kidBlk, kidRows, TK.isCell, D.toL, oLoad, oStore, oAlloc, oBox, oBuild, oBuildSlice, oMake, oAppend, oIndexAddr, oFieldAddr, oField, oExtract, oNil, oSlice, oSliceQ, oLen, oConvert, rowLoad, fillA, fillR, slB, dk, dks, dkRows, frz, loOf, hiOf, lenOf, rowsOf, nilV, lenV, putAt, views, viewsOk, CK.av, CK.ok, AV.cells, AV.one, Value.oneCell', Value.cells, pureAbs, nrm, nrm.nrmL, hpAt, sh, AV.ren, AV.ren.renL, Blk.ren, fpOf, footO, foot, blkIds, AV.ids, AV.ids.idsL, Op.operands, Call.operands, List.find?_cons, List.find?_nil, Nat.reduceBEq, beq_self_eq_true, List.map_cons, List.map_nil, List.getD_cons_zero, List.getD_cons_succ, List.getD_nil, List.set_cons_zero, List.set_cons_succ, List.length_cons, List.length_nil, List.replicate, List.cons_append, List.nil_append, List.append_nil, List.getElem?_cons_zero, List.getElem?_cons_succ, List.getElem?_toArray, List.getElem?_nil, List.take_zero, List.take_succ_cons, List.take_nil, List.drop_zero, List.drop_succ_cons, List.drop_nil, List.headD_cons, List.tail_cons, List.flatten_cons, List.flatten_nil, List.flatMap_cons, List.flatMap_nil, List.toList_toArray, Array.toList_append, Option.bind_some, Option.map_some, Option.map_none, Option.isSome_some, List.all_nil, List.all_cons, Bool.and_self, Bool.and_true, Bool.true_and, true_and, and_true, ↓reduceIte, List.size_toArray, Bool.false_eq_true, Bool.true_eq_false, false_implies, true_implies, Bool.not_true, Bool.not_false, and_self, implies_true, decide_true, decide_false, Nat.reduceAdd, Nat.reduceMul, Nat.reduceLT, Nat.reduceSub, Nat.reduceLeDiff, Nat.reduceEqDiff, eq_self, ne_eq, not_false_eq_true, false_and, and_false, reduceCtorEq, List.filter_nil, List.filter_cons, List.isEmpty_nil, List.isEmpty_cons, bne_self_eq_false, Nat.reduceBneDiff, Nat.lt_add_one, Nat.zero_lt_succ, List.append_assoc, Nat.zero_le, and_self_iff, Int.reduceToNat, List.any_nil, List.any_cons, List.filterMap_nil, List.filterMap_cons, List.contains_nil, List.contains_cons, Bool.or_false, Bool.false_or, Bool.or_true, Bool.true_or, Bool.false_and, Bool.and_false, decide_eq_true_eq, decide_eq_false_iff_not, beq_iff_eq, Int.toNat_natCast, doneD_ret, doneD_normal]
    (repeat (refine And.intro ?_ ?_; focus (((repeat' apply And.intro) <;> first | exact rowsOf_w _ | omega | (simp only [List.length_append, rowsOf_len, List.length_cons, List.length_nil, marks_len, List.length_take, List.length_drop, List.length_set]; omega) | exact ⟨_, rfl⟩ | (refine ⟨_, rfl, ?_⟩; omega) | (refine ⟨_, rfl, ?_⟩; simp only [List.length_append, rowsOf_len, List.length_cons, List.length_nil, marks_len, List.length_take, List.length_drop, List.length_set]; omega) | kernel_rfl | (simp; done)); done)))
    exact ⟨_, rfl, rfl⟩
  · cases hg
set_option maxHeartbeats 8000000 in
set_option maxRecDepth 100000 in
theorem drawNetOk_ok : OwnOk Try.prog 27 (ocOf g_drawNet) := by
  refine OwnOk.of_vcD (G := kd1) kd1_ok mixed Try.func27 (by kernel_rfl) rfl ?_
  intro args cnd r bs hg hc
  unfold g_drawNet at hg
  split at hg
  · rename_i sz rows
    cases hg
    obtain ⟨xs, rfl⟩ := hc
    rw [bytesOf_rows]
    refine ⟨⟨rfl, by simp [AV.ids, AV.ids.idsL]⟩, [.l 1 (rowsOfBytes xs)], rfl, fun w Z s vs h => CvL.ok (.cons (.l _ _ _ (rowsOf_w xs)) .nil) h, ?_⟩
    obtain ⟨ys, hys⟩ : ∃ ys, ys = List.take 2000 xs := ⟨_, rfl⟩
    rw [← hys]
    have hyl : ys.length ≤ 2000 := by rw [hys, List.length_take]; omega
    have hx : (∃ zs, rowsOfBytes ys = rowsOfBytes zs ∧ zs.length ≤ 2000) = True := eq_true ⟨_, rfl, hyl⟩
    simp (maxSteps := 3000000) only [Try.f27, kd1, g_open, g_pick, g_net, g_sent, g_packet, g_addr, g_routes, bytesOf_rows, rowsOf_len, stRows_len, rtRows_len, ← hys, hx, Int.zero_add, D.toI, D.toL, ↓reduceIte, Bool.false_eq_true, tY2, tY3, tY4, tY5, tY9, tY12, tY21, tY22, tY23, tY24, tY25, tY30, tY31, tY34, tY35, tY36, tY42, tY47, tY48, tY51, tY55, tY56, tY62, tY63, tY64, tY69, tY76, tY104, tY105, tY109, tY110, tY111, tY114, tY124, tY125, tY137, tY154, tY163, Try.underlying2, Try.underlying3, Try.underlying4, Try.underlying5, Try.underlying9, Try.underlying12, Try.underlying21, Try.underlying22, Try.underlying23, Try.underlying24, Try.underlying25, Try.underlying30, Try.underlying31, Try.underlying34, Try.underlying35, Try.underlying36, Try.underlying42, Try.underlying47, Try.underlying48, Try.underlying51, Try.underlying55, Try.underlying56, Try.underlying62, Try.underlying63, Try.underlying64, Try.underlying69, Try.underlying76, Try.underlying104, Try.underlying105, Try.underlying109, Try.underlying110, Try.underlying111, Try.underlying114, Try.underlying124, Try.underlying125, Try.underlying137, Try.underlying154, Try.underlying163, e_skip, e_label, e_ret, e_exit, e_seq, e_cond, e_block, e_region, seqK_normal, seqK_ret, seqK_exit, blkK_normal, blkK_ret, blkK_exit, condK_some, regK_true, regK_false, e_nil, e_cons, gateK_go, gateK_skip, gateK_ask, pickK_some, exK_some, x_pick, x_move, x_assign, x_alloc, x_box, x_build, x_buildSlice, x_load, x_store, x_binOp, x_unOp, x_convert, x_makeSlice, x_slice, x_fieldAddr, x_field, x_indexAddr, x_extract, x_nilCheck, x_call, x_len, x_append, x_min, oMin, x_copy, oCopy, eqAVs, callK_some, done_ret, done_normal, doneO_ret, doneO_normal, endsO_one, endsO_nil, endsO_more, ownAbs, frzAbs, leafs, leafs.leafsL, uniq, idxOf, bk, zipB, Blk.liveB, gate_none, gate_some, gateS_none, gateS_some, gateV_bool, gateV_undef, boolOf, evA, putT, refn, fpD, oBin, oUn, upsl, upl, up, ups, lk, dstsOf, resL, resA, packA, oLoadQ, oLoadKid, oStoreQ, oStoreTree, oBuildSliceQ, oBuildTree, oAppendQ, oAppendTree, isTr, isTrP, tkd, tkds, tkRows, ownOf, nodupB, deadL, treeOf, kidAbs, kidBlk, kidRows, TK.isCell, D.toL, oLoad, oStore, oAlloc, oBox, oBuild, oBuildSlice, oMake, oAppend, oIndexAddr, oFieldAddr, oField, oExtract, oNil, oSlice, oSliceQ, oLen, oConvert, rowLoad, fillA, fillR, slB, dk, dks, dkRows, frz, loOf, hiOf, lenOf, rowsOf, nilV, lenV, putAt, views, viewsOk, CK.av, CK.ok, AV.cells, AV.one, Value.oneCell', Value.cells, pureAbs, nrm, nrm.nrmL, hpAt, sh, AV.ren, AV.ren.renL, Blk.ren, fpOf, footO, foot, blkIds, AV.ids, AV.ids.idsL, Op.operands, Call.operands, List.find?_cons, List.find?_nil, Nat.reduceBEq, beq_self_eq_true, List.map_cons, List.map_nil, List.getD_cons_zero, List.getD_cons_succ, List.getD_nil, List.set_cons_zero, List.set_cons_succ, List.length_cons, List.length_nil, List.replicate, List.cons_append, List.nil_append, List.append_nil, List.getElem?_cons_zero, List.getElem?_cons_succ, List.getElem?_toArray, List.getElem?_nil, List.take_zero, List.take_succ_cons, List.take_nil, List.drop_zero, List.drop_succ_cons, List.drop_nil, List.headD_cons, List.tail_cons, List.flatten_cons, List.flatten_nil, List.flatMap_cons, List.flatMap_nil, List.toList_toArray, Array.toList_append, Option.bind_some, Option.map_some, Option.map_none, Option.isSome_some, List.all_nil, List.all_cons, Bool.and_self, Bool.and_true, Bool.true_and, true_and, and_true, ↓reduceIte, List.size_toArray, Bool.false_eq_true, Bool.true_eq_false, false_implies, true_implies, Bool.not_true, Bool.not_false, and_self, implies_true, decide_true, decide_false, Nat.reduceAdd, Nat.reduceMul, Nat.reduceLT, Nat.reduceSub, Nat.reduceLeDiff, Nat.reduceEqDiff, eq_self, ne_eq, not_false_eq_true, false_and, and_false, reduceCtorEq, List.filter_nil, List.filter_cons, List.isEmpty_nil, List.isEmpty_cons, bne_self_eq_false, Nat.reduceBneDiff, Nat.lt_add_one, Nat.zero_lt_succ, List.append_assoc, Nat.zero_le, and_self_iff, Int.reduceToNat, List.any_nil, List.any_cons, List.filterMap_nil, List.filterMap_cons, List.contains_nil, List.contains_cons, Bool.or_false, Bool.false_or, Bool.or_true, Bool.true_or, Bool.false_and, Bool.and_false, decide_eq_true_eq, decide_eq_false_iff_not, beq_iff_eq, Int.toNat_natCast, doneD_ret, doneD_normal]
    (repeat (refine And.intro ?_ ?_; focus (((repeat' apply And.intro) <;> first | exact rowsOf_w _ | omega | (simp only [List.length_append, rowsOf_len, List.length_cons, List.length_nil, marks_len, List.length_take, List.length_drop, List.length_set]; omega) | exact ⟨_, rfl⟩ | (refine ⟨_, rfl, ?_⟩; omega) | (refine ⟨_, rfl, ?_⟩; simp only [List.length_append, rowsOf_len, List.length_cons, List.length_nil, marks_len, List.length_take, List.length_drop, List.length_set]; omega) | kernel_rfl | (simp; done)); done)))
    exact ⟨_, rfl, rfl⟩
  · cases hg
set_option maxHeartbeats 8000000 in
set_option maxRecDepth 100000 in
theorem drawPathRoom_ok : OwnOk Try.prog 34 (ocOf g_drawPr) := by
  refine OwnOk.of_vcD (G := kd1) kd1_ok mixed Try.func34 (by kernel_rfl) rfl ?_
  intro args cnd r bs hg hc
  unfold g_drawPr at hg
  split at hg
  · rename_i sz rows
    cases hg
    obtain ⟨xs, rfl⟩ := hc
    rw [bytesOf_rows]
    refine ⟨⟨rfl, by simp [AV.ids, AV.ids.idsL]⟩, [.l 1 (rowsOfBytes xs)], rfl, fun w Z s vs h => CvL.ok (.cons (.l _ _ _ (rowsOf_w xs)) .nil) h, ?_⟩
    obtain ⟨ys, hys⟩ : ∃ ys, ys = List.take 2000 xs := ⟨_, rfl⟩
    rw [← hys]
    have hyl : ys.length ≤ 2000 := by rw [hys, List.length_take]; omega
    have hx : (∃ zs, rowsOfBytes ys = rowsOfBytes zs ∧ zs.length ≤ 2000) = True := eq_true ⟨_, rfl, hyl⟩
    have hnb := netV_bd ys 0 20 (by omega)
    have hqb := netQ_bd ys 0 20 (by omega)
    obtain ⟨L, hL⟩ : ∃ L, L = netV ys 0 20 := ⟨_, rfl⟩
    have hL' := hL.symm
    obtain ⟨Q, hQ⟩ : ∃ Q, Q = netQ ys 0 20 := ⟨_, rfl⟩
    have hQ' := hQ.symm
    rw [hL'] at hnb
    rw [hQ'] at hqb
    have a3 := pickV_nonneg ys (Q + 1) 6 (by omega)
    have a4 := pickV_lt ys (Q + 1) 6 (by omega)
    have w1 : IntKind.i64.wrap (10 + pickV ys (Q + 1) 6) = 10 + pickV ys (Q + 1) 6 := wrap_id (by omega) (by omega)
    have e1 : dtN ys = L := hL'
    have e2 : dtQ ys = Q := hQ'
    rw [e1, e2]
    simp (maxSteps := 3000000) only [Try.f34, kd1, g_open, g_pick, g_net, g_sent, g_packet, g_addr, g_routes, bytesOf_rows, rowsOf_len, stRows_len, rtRows_len, ← hys, hx, hL', hQ', w1, D.toI, D.toL, ↓reduceIte, Bool.false_eq_true, tY2, tY3, tY4, tY5, tY9, tY12, tY21, tY22, tY23, tY24, tY25, tY30, tY31, tY34, tY35, tY36, tY42, tY47, tY48, tY51, tY55, tY56, tY62, tY63, tY64, tY69, tY76, tY104, tY105, tY109, tY110, tY111, tY114, tY124, tY125, tY137, tY154, tY163, Try.underlying2, Try.underlying3, Try.underlying4, Try.underlying5, Try.underlying9, Try.underlying12, Try.underlying21, Try.underlying22, Try.underlying23, Try.underlying24, Try.underlying25, Try.underlying30, Try.underlying31, Try.underlying34, Try.underlying35, Try.underlying36, Try.underlying42, Try.underlying47, Try.underlying48, Try.underlying51, Try.underlying55, Try.underlying56, Try.underlying62, Try.underlying63, Try.underlying64, Try.underlying69, Try.underlying76, Try.underlying104, Try.underlying105, Try.underlying109, Try.underlying110, Try.underlying111, Try.underlying114, Try.underlying124, Try.underlying125, Try.underlying137, Try.underlying154, Try.underlying163, e_skip, e_label, e_ret, e_exit, e_seq, e_cond, e_block, e_region, seqK_normal, seqK_ret, seqK_exit, blkK_normal, blkK_ret, blkK_exit, condK_some, regK_true, regK_false, e_nil, e_cons, gateK_go, gateK_skip, gateK_ask, pickK_some, exK_some, x_pick, x_move, x_assign, x_alloc, x_box, x_build, x_buildSlice, x_load, x_store, x_binOp, x_unOp, x_convert, x_makeSlice, x_slice, x_fieldAddr, x_field, x_indexAddr, x_extract, x_nilCheck, x_call, x_len, x_append, x_min, oMin, x_copy, oCopy, eqAVs, callK_some, done_ret, done_normal, doneO_ret, doneO_normal, endsO_one, endsO_nil, endsO_more, ownAbs, frzAbs, leafs, leafs.leafsL, uniq, idxOf, bk, zipB, Blk.liveB, gate_none, gate_some, gateS_none, gateS_some, gateV_bool, gateV_undef, boolOf, evA, putT, refn, fpD, oBin, oUn, upsl, upl, up, ups, lk, dstsOf, resL, resA, packA, oLoadQ, oLoadKid, oStoreQ, oStoreTree, oBuildSliceQ, oBuildTree, oAppendQ, oAppendTree, isTr, isTrP, tkd, tkds, tkRows, ownOf, nodupB, deadL, treeOf, kidAbs, kidBlk, kidRows, TK.isCell, D.toL, oLoad, oStore, oAlloc, oBox, oBuild, oBuildSlice, oMake, oAppend, oIndexAddr, oFieldAddr, oField, oExtract, oNil, oSlice, oSliceQ, oLen, oConvert, rowLoad, fillA, fillR, slB, dk, dks, dkRows, frz, loOf, hiOf, lenOf, rowsOf, nilV, lenV, putAt, views, viewsOk, CK.av, CK.ok, AV.cells, AV.one, Value.oneCell', Value.cells, pureAbs, nrm, nrm.nrmL, hpAt, sh, AV.ren, AV.ren.renL, Blk.ren, fpOf, footO, foot, blkIds, AV.ids, AV.ids.idsL, Op.operands, Call.operands, List.find?_cons, List.find?_nil, Nat.reduceBEq, beq_self_eq_true, List.map_cons, List.map_nil, List.getD_cons_zero, List.getD_cons_succ, List.getD_nil, List.set_cons_zero, List.set_cons_succ, List.length_cons, List.length_nil, List.replicate, List.cons_append, List.nil_append, List.append_nil, List.getElem?_cons_zero, List.getElem?_cons_succ, List.getElem?_toArray, List.getElem?_nil, List.take_zero, List.take_succ_cons, List.take_nil, List.drop_zero, List.drop_succ_cons, List.drop_nil, List.headD_cons, List.tail_cons, List.flatten_cons, List.flatten_nil, List.flatMap_cons, List.flatMap_nil, List.toList_toArray, Array.toList_append, Option.bind_some, Option.map_some, Option.map_none, Option.isSome_some, List.all_nil, List.all_cons, Bool.and_self, Bool.and_true, Bool.true_and, true_and, and_true, ↓reduceIte, List.size_toArray, Bool.false_eq_true, Bool.true_eq_false, false_implies, true_implies, Bool.not_true, Bool.not_false, and_self, implies_true, decide_true, decide_false, Nat.reduceAdd, Nat.reduceMul, Nat.reduceLT, Nat.reduceSub, Nat.reduceLeDiff, Nat.reduceEqDiff, eq_self, ne_eq, not_false_eq_true, false_and, and_false, reduceCtorEq, List.filter_nil, List.filter_cons, List.isEmpty_nil, List.isEmpty_cons, bne_self_eq_false, Nat.reduceBneDiff, Nat.lt_add_one, Nat.zero_lt_succ, List.append_assoc, Nat.zero_le, and_self_iff, Int.reduceToNat, List.any_nil, List.any_cons, List.filterMap_nil, List.filterMap_cons, List.contains_nil, List.contains_cons, Bool.or_false, Bool.false_or, Bool.or_true, Bool.true_or, Bool.false_and, Bool.and_false, decide_eq_true_eq, decide_eq_false_iff_not, beq_iff_eq, Int.toNat_natCast, doneD_ret, doneD_normal]
    clear w1 hL' hQ'
    (repeat (refine And.intro ?_ ?_; focus (((repeat' apply And.intro) <;> first | exact rowsOf_w _ | omega | (simp only [List.length_append, rowsOf_len, List.length_cons, List.length_nil, marks_len, List.length_take, List.length_drop, List.length_set]; omega) | exact ⟨_, rfl⟩ | (refine ⟨_, rfl, ?_⟩; omega) | (refine ⟨_, rfl, ?_⟩; simp only [List.length_append, rowsOf_len, List.length_cons, List.length_nil, marks_len, List.length_take, List.length_drop, List.length_set]; omega) | kernel_rfl | (simp; done)); done)))
    exact ⟨_, rfl, rfl⟩
  · cases hg
end Go.Proofs.Ythbcoakimbpkgaa
