import Derived.Test.YtdanjfnobanehaaVb
set_option linter.unusedVariables false
set_option linter.unusedSimpArgs false
namespace Go.Proofs.Ytdanjfnobanehaa
open Go.RowKit
set_option linter.unusedSimpArgs false

/-- the packet that bytes tell, or none -/
def pfM0 (xs : List UInt8) : Bool := decide ((xs.getD 8 0).toNat % 2 = 1)
def pfU0 (xs : List UInt8) : Bool := decide (2 ≤ (xs.getD 8 0).toNat)
def pfHead (xs : List UInt8) : Bool := decide (12 ≤ xs.length ∧ xs.length ≤ 60 ∧ (xs.getD 9 0).toNat + 12 = xs.length ∧ (xs.getD 8 0).toNat ≤ 3) && fits (xs.take 10) (numAt xs 10 2)
def pfB (xs : List UInt8) : Bool := pkB (numAt xs 0 2) (numAt xs 2 2) ((xs.getD 4 0).toNat : Int) ((xs.getD 5 0).toNat : Int) ((xs.getD 6 0).toNat : Int) ((xs.getD 7 0).toNat : Int) (pfM0 xs) (pfU0 xs) (xs.drop 12).length
def pfOk (xs : List UInt8) : Bool := pfHead xs && pfB xs
def pfF (xs : List UInt8) : Int := if pfOk xs = true then numAt xs 0 2 else 0
def pfT (xs : List UInt8) : Int := if pfOk xs = true then numAt xs 2 2 else 0
def pfP (xs : List UInt8) : Int := if pfOk xs = true then ((xs.getD 4 0).toNat : Int) else 0
def pfH (xs : List UInt8) : Int := if pfOk xs = true then ((xs.getD 5 0).toNat : Int) else 0
def pfI (xs : List UInt8) : Int := if pfOk xs = true then ((xs.getD 6 0).toNat : Int) else 0
def pfA (xs : List UInt8) : Int := if pfOk xs = true then ((xs.getD 7 0).toNat : Int) else 0
def pfM (xs : List UInt8) : Bool := if pfOk xs = true then pfM0 xs else false
def pfU (xs : List UInt8) : Bool := if pfOk xs = true then pfU0 xs else false
def pfD (xs : List UInt8) : List UInt8 := if pfOk xs = true then xs.drop 12 else []
theorem numAt_two (xs : List UInt8) (a : Int) (k : Nat) (e : a = (k : Int)) (h : k + 2 ≤ xs.length) : numAt xs a 2 = ((256 * (xs.getD k 0).toNat + (xs.getD (k + 1) 0).toNat : Nat) : Int) := by
  subst e
  unfold numAt
  rw [if_pos (by omega)]
  have e2 : (2 : Int).toNat = 2 := rfl
  rw [Int.toNat_natCast, e2]
  simp only [numV, Nat.add_zero]
  omega
theorem numAt_two_bd (xs : List UInt8) (a : Int) (k : Nat) (e : a = (k : Int)) (h : k + 2 ≤ xs.length) : 0 ≤ numAt xs a 2 ∧ numAt xs a 2 ≤ 65535 := by
  rw [numAt_two xs a k e h]
  have h1 := (xs.getD k 0).toNat_lt
  have h2 := (xs.getD (k + 1) 0).toNat_lt
  omega
theorem sTurn_bd {s a b : Int} (hs : 0 ≤ s ∧ s ≤ 65535) (ha : 0 ≤ a ∧ a ≤ 65535) (hb : 0 ≤ b ∧ b ≤ 65535) : 0 ≤ sTurn s a b ∧ sTurn s a b ≤ 65535 := by
  unfold sTurn
  rw [inB_iff.2 hs, inB_iff.2 ha, inB_iff.2 hb]
  exact sAdd_bd (sAdd_bd hs ha) ⟨by omega, by omega⟩
theorem pf_m (xs : List UInt8) : ((((xs.getD 8 0).toNat : Nat) : Int).tmod 2 == 1) = pfM0 xs := by
  rw [pfM0, Bool.eq_iff_iff, beq_iff_eq, decide_eq_true_eq, Int.tmod_eq_emod_of_nonneg (by omega)]
  omega
theorem pf_u (xs : List UInt8) : decide ((((xs.getD 8 0).toNat : Nat) : Int) ≥ 2) = pfU0 xs := by
  rw [pfU0, Bool.eq_iff_iff, decide_eq_true_eq, decide_eq_true_eq]
  omega
theorem pf_u1 {xs : List UInt8} (h : (xs.getD 8 0).toNat ≤ 3) : (IntKind.u8.wrap ((((xs.getD 8 0).toNat : Nat) : Int).tdiv 2) == 1) = pfU0 xs := by
  rw [pfU0, Bool.eq_iff_iff, beq_iff_eq, decide_eq_true_eq, Int.tdiv_eq_ediv_of_nonneg (by omega), IntKind.wrap_u8]
  omega
theorem pf_no {xs : List UInt8} (h : ¬ (12 ≤ xs.length ∧ (xs.getD 9 0).toNat + 12 = xs.length ∧ (xs.getD 8 0).toNat ≤ 3)) : pfOk xs = false := by
  rw [pfOk, pfHead, decide_eq_false (fun k => h ⟨k.1, k.2.2.1, k.2.2.2⟩), Bool.false_and, Bool.false_and]
def g_headFits : PC := fun args => match args with
  | [.l _ rows] => some (∃ xs, rows = rowsOfBytes xs ∧ xs.length ≤ 1048576, .v (.bool (pfHead (bytesOfRows rows))), [])
  | _ => none
def g_packetRead : PC := fun args => match args with
  | [.l _ rows] => some (∃ xs, rows = rowsOfBytes xs ∧ pfHead xs = true, .agg [.v (.int .i64 (numAt (bytesOfRows rows) 0 2)), .v (.int .i64 (numAt (bytesOfRows rows) 2 2)), .v (.int .i64 (((bytesOfRows rows).getD 4 0).toNat : Int)), .v (.int .i64 (((bytesOfRows rows).getD 5 0).toNat : Int)), .v (.int .i64 (((bytesOfRows rows).getD 6 0).toNat : Int)), .v (.int .i64 (((bytesOfRows rows).getD 7 0).toNat : Int)), .v (.bool (pfM0 (bytesOfRows rows))), .v (.bool (pfU0 (bytesOfRows rows))), .own 0], [.sl 5 1 (rowsOfBytes ((bytesOfRows rows).drop 12))])
  | _ => none
def g_packetFrom : PC := fun args => match args with
  | [.l _ rows] => some (∃ xs, rows = rowsOfBytes xs ∧ xs.length ≤ 1048576, .tup [.agg [.v (.int .i64 (pfF (bytesOfRows rows))), .v (.int .i64 (pfT (bytesOfRows rows))), .v (.int .i64 (pfP (bytesOfRows rows))), .v (.int .i64 (pfH (bytesOfRows rows))), .v (.int .i64 (pfI (bytesOfRows rows))), .v (.int .i64 (pfA (bytesOfRows rows))), .v (.bool (pfM (bytesOfRows rows))), .v (.bool (pfU (bytesOfRows rows))), .own 0], .v (.bool (pfOk (bytesOfRows rows)))], [.sl 5 1 (rowsOfBytes (pfD (bytesOfRows rows)))])
  | _ => none
def ppOk (xs : List UInt8) : Bool := pfOk xs && decide (2 ≤ (xs.getD 5 0).toNat)
/-- with one hop less -/
def ppO (xs : List UInt8) : List UInt8 := xs.set 5 (toU8 (((xs.getD 5 0).toNat : Int) - 1))
def ppS (xs : List UInt8) : Int := sTurn (numAt xs 10 2) (numAt xs 4 2) (numAt (ppO xs) 4 2)
def ppV (xs : List UInt8) : List UInt8 := if ppOk xs = true then (ppO xs).take 10 ++ (bytesOf (ppS xs) 2 ++ xs.drop 12) else []
theorem pf_len {xs : List UInt8} (h : pfOk xs = true) : 12 ≤ xs.length ∧ xs.length ≤ 60 := by
  rw [pfOk, pfHead, Bool.and_eq_true, Bool.and_eq_true, decide_eq_true_eq] at h
  exact ⟨h.1.1.1, h.1.1.2.1⟩
theorem ppO_len (xs : List UInt8) : (ppO xs).length = xs.length := by rw [ppO, List.length_set]
theorem ppS_bd {xs : List UInt8} (h : 12 ≤ xs.length) : 0 ≤ ppS xs ∧ ppS xs ≤ 65535 :=
  sTurn_bd (numAt_two_bd xs 10 10 rfl (by omega)) (numAt_two_bd xs 4 4 rfl (by omega)) (numAt_two_bd _ 4 4 rfl (by rw [ppO_len]; omega))
theorem ppO_drop (xs : List UInt8) : (ppO xs).drop 12 = xs.drop 12 := by
  rw [ppO, List.drop_set_of_lt (by omega)]
def g_packetPassed : PC := fun args => match args with
  | [.l _ rows] => some (∃ xs, rows = rowsOfBytes xs ∧ xs.length ≤ 1048576, .tup [.own 0, .v (.bool (ppOk (bytesOfRows rows)))], [.sl 5 1 (rowsOfBytes (ppV (bytesOfRows rows)))])
  | _ => none
def pk5 : List (FuncId × Abs) := [(98, pureAbs g_numberAt), (94, pureAbs g_numberAt), (121, pureAbs g_sumFits), (95, pureAbs g_sumFits), (96, pureAbs g_bytesCopied), (31, pureAbs g_packetOk)]
theorem pk5_ok : ∀ p ∈ pk5, CallOk Try.prog p.1 p.2 := by
  intro p hp
  simp only [pk5, List.mem_cons, List.not_mem_nil, or_false] at hp
  rcases hp with rfl | rfl | rfl | rfl | rfl | rfl
  · exact implNumberAt_ok.call
  · exact specNumberAt_ok.call
  · exact implSumFits_ok.call
  · exact specSumFits_ok.call
  · exact bytesCopied_ok.call
  · exact specPacketOk_ok.call
set_option maxRecDepth 100000 in
theorem packetHeadFits_ok : PureOk Try.prog 91 g_headFits := by
  refine PureOk.of_vc (G := pk5) pk5_ok mixed Try.func91 (by kernel_rfl) rfl ?_
  intro args cnd r bs hg hc
  unfold g_headFits at hg
  split at hg
  · rename_i sz rows
    cases hg
    obtain ⟨xs, rfl, hl⟩ := hc
    rw [bytesOf_rows]
    have b4 := (xs.getD 4 0).toNat_lt
    have b5 := (xs.getD 5 0).toNat_lt
    have b6 := (xs.getD 6 0).toNat_lt
    have b7 := (xs.getD 7 0).toNat_lt
    have b8 := (xs.getD 8 0).toNat_lt
    have b9 := (xs.getD 9 0).toNat_lt
    have w4 : IntKind.i64.wrap ((xs.getD 4 0).toNat : Int) = ((xs.getD 4 0).toNat : Int) := wrap_id (by omega) (by omega)
    have w5 : IntKind.i64.wrap ((xs.getD 5 0).toNat : Int) = ((xs.getD 5 0).toNat : Int) := wrap_id (by omega) (by omega)
    have w6 : IntKind.i64.wrap ((xs.getD 6 0).toNat : Int) = ((xs.getD 6 0).toNat : Int) := wrap_id (by omega) (by omega)
    have w7 : IntKind.i64.wrap ((xs.getD 7 0).toNat : Int) = ((xs.getD 7 0).toNat : Int) := wrap_id (by omega) (by omega)
    have w9 : IntKind.i64.wrap ((xs.getD 9 0).toNat : Int) = ((xs.getD 9 0).toNat : Int) := wrap_id (by omega) (by omega)
    refine ⟨⟨rfl, by simp, by simp [AV.ids, AV.ids.idsL]⟩, [.l 1 (rowsOfBytes xs)], rfl, fun w vs h => CvL.ok (.cons (.l _ _ _ (rowsOf_w xs)) .nil) h, ?_⟩
    simp (maxSteps := 3000000) only [Try.f91, pk5, g_numberAt, g_sumFits, g_bytesCopied, g_packetOk, bytesOf_rows, rowsOf_len, rowsOf_take, rowsOf_drop, row_toI, row_nil, row_head, ty_sz2, ty_st2, ty_cell2, ty_ck2, ty_inf2, ty_sz3, ty_st3, ty_cell3, ty_ck3, ty_inf3, ty_sz4, ty_st4, ty_cell4, ty_ck4, ty_inf4, ty_sz5, ty_st5, ty_cell5, ty_ck5, ty_inf5, ty_sz9, ty_st9, ty_cell9, ty_ck9, ty_inf9, ty_sz12, ty_st12, ty_cell12, ty_ck12, ty_inf12, ty_sz21, ty_st21, ty_cell21, ty_ck21, ty_inf21, ty_sz22, ty_st22, ty_cell22, ty_ck22, ty_inf22, ty_sz23, ty_st23, ty_cell23, ty_ck23, ty_inf23, ty_sz24, ty_st24, ty_cell24, ty_ck24, ty_inf24, ty_sz25, ty_st25, ty_cell25, ty_ck25, ty_inf25, ty_eq25, ty_f25_0, ty_f25_1, ty_sz26, ty_st26, ty_cell26, ty_ck26, ty_inf26, ty_eq26, ty_f26_0, ty_f26_1, ty_sz35, ty_st35, ty_cell35, ty_ck35, ty_inf35, ty_eq35, ty_f35_0, ty_f35_1, ty_sz36, ty_st36, ty_cell36, ty_ck36, ty_inf36, ty_eq36, ty_f36_0, ty_f36_1, ty_sz39, ty_st39, ty_cell39, ty_ck39, ty_inf39, ty_eq39, ty_f39_0, ty_f39_1, ty_f39_2, ty_f39_3, ty_sz40, ty_st40, ty_cell40, ty_ck40, ty_inf40, ty_eq40, ty_f40_0, ty_f40_1, ty_f40_2, ty_f40_3, ty_sz43, ty_st43, ty_cell43, ty_ck43, ty_inf43, ty_sz49, ty_st49, ty_cell49, ty_ck49, ty_inf49, ty_eq49, ty_f49_0, ty_f49_1, ty_f49_2, ty_f49_3, ty_f49_4, ty_f49_5, ty_f49_6, ty_f49_7, ty_f49_8, ty_sz50, ty_st50, ty_cell50, ty_ck50, ty_inf50, ty_eq50, ty_f50_0, ty_f50_1, ty_f50_2, ty_f50_3, ty_f50_4, ty_f50_5, ty_f50_6, ty_f50_7, ty_f50_8, ty_sz60, ty_st60, ty_cell60, ty_ck60, ty_inf60, ty_sz61, ty_st61, ty_cell61, ty_ck61, ty_inf61, ty_sz62, ty_st62, ty_cell62, ty_ck62, ty_inf62, ty_eq62, ty_f62_0, ty_f62_1, ty_sz63, ty_st63, ty_cell63, ty_ck63, ty_inf63, ty_eq63, ty_f63_0, ty_f63_1, ty_sz69, ty_st69, ty_cell69, ty_ck69, ty_inf69, ty_eq69, ty_f69_0, ty_f69_1, ty_f69_2, ty_f69_3, ty_sz73, ty_st73, ty_cell73, ty_ck73, ty_inf73, ty_eq73, ty_f73_0, ty_f73_1, ty_f73_2, ty_f73_3, ty_f73_4, ty_f73_5, ty_f73_6, ty_f73_7, ty_f73_8, ty_sz88, ty_st88, ty_cell88, ty_ck88, ty_inf88, ty_eq88, ty_f88_0, ty_f88_1, ty_f88_2, ty_sz89, ty_st89, ty_cell89, ty_ck89, ty_inf89, ty_eq89, ty_f89_0, ty_f89_1, ty_f89_2, ty_sz112, ty_st112, ty_cell112, ty_ck112, ty_inf112, ty_eq112, ty_f112_0, ty_f112_1, ty_sz113, ty_st113, ty_cell113, ty_ck113, ty_inf113, ty_eq113, ty_f113_0, ty_f113_1, ty_sz119, ty_st119, ty_cell119, ty_ck119, ty_inf119, ty_eq119, ty_f119_0, ty_f119_1, ty_sz121, ty_st121, ty_cell121, ty_ck121, ty_inf121, ty_eq121, ty_f121_0, ty_f121_1, ty_f121_2, ty_sz132, ty_st132, ty_cell132, ty_ck132, ty_inf132, ty_sz141, ty_st141, ty_cell141, ty_ck141, ty_inf141, Try.underlying2, Try.underlying3, Try.underlying4, Try.underlying5, Try.underlying9, Try.underlying12, Try.underlying21, Try.underlying22, Try.underlying23, Try.underlying24, Try.underlying25, Try.underlying26, Try.underlying35, Try.underlying36, Try.underlying39, Try.underlying40, Try.underlying43, Try.underlying49, Try.underlying50, Try.underlying60, Try.underlying61, Try.underlying62, Try.underlying63, Try.underlying69, Try.underlying73, Try.underlying88, Try.underlying89, Try.underlying112, Try.underlying113, Try.underlying119, Try.underlying121, Try.underlying132, Try.underlying141, e_skip, e_label, e_ret, e_exit, e_seq, e_cond, e_block, e_region, seqK_normal, seqK_ret, seqK_exit, blkK_normal, blkK_ret, blkK_exit, condK_some, regK_true, regK_false, e_nil, e_cons, gateK_go, gateK_skip, gateK_ask, pickK_some, exK_some, x_pick, x_move, x_assign, x_alloc, x_box, x_build, x_buildSlice, x_load, x_store, x_binOp, x_unOp, x_convert, x_makeSlice, x_slice, x_fieldAddr, x_field, x_indexAddr, x_extract, x_nilCheck, x_call, x_len, x_append, x_min, oMin, x_copy, oCopy, eqAVs, callK_some, done_ret, done_normal, doneO_ret, doneO_normal, endsO_one, endsO_nil, endsO_more, ownAbs, frzAbs, leafs, leafs.leafsL, uniq, idxOf, bk, zipB, Blk.liveB, gate_none, gate_some, gateS_none, gateS_some, gateV_bool, gateV_undef, boolOf, evA, putT, refn, fpD, oBin, oUn, upsl, upl, up, ups, lk, dstsOf, resL, resA, packA, oLoad, oStore, oAlloc, oBox, oBuild, oBuildSlice, oMake, oAppend, oIndexAddr, oFieldAddr, oField, oExtract, oNil, oSlice, oLen, oConvert, rowLoad, fillA, fillR, dk, dks, dkRows, frz, loOf, hiOf, lenOf, rowsOf, nilV, lenV, putAt, views, viewsOk, CK.av, CK.ok, AV.cells, AV.one, Value.oneCell', Value.cells, pureAbs, nrm, nrm.nrmL, hpAt, sh, AV.ren, AV.ren.renL, Blk.ren, fpOf, footO, foot, blkIds, AV.ids, AV.ids.idsL, Op.operands, Call.operands, List.find?_cons, List.find?_nil, Nat.reduceBEq, beq_self_eq_true, List.map_cons, List.map_nil, List.getD_cons_zero, List.getD_cons_succ, List.getD_nil, List.set_cons_zero, List.set_cons_succ, List.length_cons, List.length_nil, List.replicate, List.cons_append, List.nil_append, List.append_nil, List.getElem?_cons_zero, List.getElem?_cons_succ, List.getElem?_toArray, List.getElem?_nil, List.take_zero, List.take_succ_cons, List.take_nil, List.drop_zero, List.drop_succ_cons, List.drop_nil, List.headD_cons, List.tail_cons, List.flatten_cons, List.flatten_nil, List.flatMap_cons, List.flatMap_nil, List.toList_toArray, Array.toList_append, Option.bind_some, Option.map_some, Option.map_none, Option.isSome_some, List.all_nil, List.all_cons, Bool.and_self, Bool.and_true, Bool.true_and, true_and, and_true, ↓reduceIte, List.size_toArray, Bool.false_eq_true, Bool.true_eq_false, false_implies, true_implies, Bool.not_true, Bool.not_false, and_self, implies_true, decide_true, decide_false, Nat.reduceAdd, Nat.reduceMul, Nat.reduceLT, Nat.reduceSub, Nat.reduceLeDiff, Nat.reduceEqDiff, eq_self, ne_eq, not_false_eq_true, false_and, and_false, reduceCtorEq, List.filter_nil, List.filter_cons, List.isEmpty_nil, List.isEmpty_cons, bne_self_eq_false, Nat.reduceBneDiff, Nat.lt_add_one, Nat.zero_lt_succ, List.append_assoc, Nat.zero_le, and_self_iff, Int.reduceToNat, decide_eq_true_eq, decide_eq_false_iff_not, beq_iff_eq, Int.toNat_natCast]
    have w0 : IntKind.i64.wrap ((xs.length : Int) - 12) = (xs.length : Int) - 12 := wrap_id (by omega) (by omega)
    rw [w0, w9]
    by_cases hA : 12 ≤ xs.length ∧ xs.length ≤ 60 ∧ (xs.getD 9 0).toNat + 12 = xs.length ∧ (xs.getD 8 0).toNat ≤ 3
    · rw [if_pos (by omega), if_pos (by omega)]
      (repeat (refine And.intro ?_ ?_; focus (((repeat' apply And.intro) <;> first | exact rowsOf_w _ | omega | (simp only [List.length_append, rowsOf_len, List.length_cons, List.length_nil, marks_len, List.length_take, List.length_drop, List.length_set]; omega) | exact ⟨_, rfl⟩ | (refine ⟨_, rfl, ?_⟩; omega) | (refine ⟨_, rfl, ?_⟩; simp only [List.length_append, rowsOf_len, List.length_cons, List.length_nil, marks_len, List.length_take, List.length_drop, List.length_set]; omega) | kernel_rfl | (simp; done)); done)))
      rw [if_neg (by simp only [bne_iff_ne, ne_eq, Decidable.not_not]; omega)]
      (repeat (refine And.intro ?_ ?_; focus (((repeat' apply And.intro) <;> first | exact rowsOf_w _ | omega | (simp only [List.length_append, rowsOf_len, List.length_cons, List.length_nil, marks_len, List.length_take, List.length_drop, List.length_set]; omega) | exact ⟨_, rfl⟩ | (refine ⟨_, rfl, ?_⟩; omega) | (refine ⟨_, rfl, ?_⟩; simp only [List.length_append, rowsOf_len, List.length_cons, List.length_nil, marks_len, List.length_take, List.length_drop, List.length_set]; omega) | kernel_rfl | (simp; done)); done)))
      rw [if_pos (by omega)]
      (repeat (refine And.intro ?_ ?_; focus (((repeat' apply And.intro) <;> first | exact rowsOf_w _ | omega | (simp only [List.length_append, rowsOf_len, List.length_cons, List.length_nil, marks_len, List.length_take, List.length_drop, List.length_set]; omega) | exact ⟨_, rfl⟩ | (refine ⟨_, rfl, ?_⟩; omega) | (refine ⟨_, rfl, ?_⟩; simp only [List.length_append, rowsOf_len, List.length_cons, List.length_nil, marks_len, List.length_take, List.length_drop, List.length_set]; omega) | kernel_rfl | (simp; done)); done)))
      have e : pfHead xs = fits (xs.take 10) (numAt xs 10 2) := by rw [pfHead, decide_eq_true hA, Bool.true_and]
      rw [e]
      exact ⟨_, [], rfl, by (refine ⟨?_, ?_, ?_⟩ <;> simp [packA, hpAt, fitT, fit1, fitH, fitB, emptyB, rn, lk, AV.ren, AV.ren.renL, Blk.ren, blkIds, blkPids, AV.ids, AV.ids.idsL, AV.pids, AV.pids.pidsL, Blk.there])⟩
    · have e : pfHead xs = false := by rw [pfHead, decide_eq_false hA, Bool.false_and]
      rw [e]
      by_cases h1 : (xs.length : Int) - 12 < 0
      · rw [if_neg (by omega)]
        exact ⟨_, [], rfl, by (refine ⟨?_, ?_, ?_⟩ <;> simp [packA, hpAt, fitT, fit1, fitH, fitB, emptyB, rn, lk, AV.ren, AV.ren.renL, Blk.ren, blkIds, blkPids, AV.ids, AV.ids.idsL, AV.pids, AV.pids.pidsL, Blk.there])⟩
      · rw [if_pos h1]
        by_cases h2 : (xs.length : Int) - 12 > 48
        · rw [if_neg (by omega)]
          exact ⟨_, [], rfl, by (refine ⟨?_, ?_, ?_⟩ <;> simp [packA, hpAt, fitT, fit1, fitH, fitB, emptyB, rn, lk, AV.ren, AV.ren.renL, Blk.ren, blkIds, blkPids, AV.ids, AV.ids.idsL, AV.pids, AV.pids.pidsL, Blk.there])⟩
        · rw [if_pos h2]
          (repeat (refine And.intro ?_ ?_; focus (((repeat' apply And.intro) <;> first | exact rowsOf_w _ | omega | (simp only [List.length_append, rowsOf_len, List.length_cons, List.length_nil, marks_len, List.length_take, List.length_drop, List.length_set]; omega) | exact ⟨_, rfl⟩ | (refine ⟨_, rfl, ?_⟩; omega) | (refine ⟨_, rfl, ?_⟩; simp only [List.length_append, rowsOf_len, List.length_cons, List.length_nil, marks_len, List.length_take, List.length_drop, List.length_set]; omega) | kernel_rfl | (simp; done)); done)))
          by_cases h3 : (((xs.getD 9 0).toNat : Int) != (xs.length : Int) - 12) = true
          · rw [if_pos h3]
            exact ⟨_, [], rfl, by (refine ⟨?_, ?_, ?_⟩ <;> simp [packA, hpAt, fitT, fit1, fitH, fitB, emptyB, rn, lk, AV.ren, AV.ren.renL, Blk.ren, blkIds, blkPids, AV.ids, AV.ids.idsL, AV.pids, AV.pids.pidsL, Blk.there])⟩
          · rw [if_neg h3]
            simp only [bne_iff_ne, ne_eq, Decidable.not_not] at h3
            (repeat (refine And.intro ?_ ?_; focus (((repeat' apply And.intro) <;> first | exact rowsOf_w _ | omega | (simp only [List.length_append, rowsOf_len, List.length_cons, List.length_nil, marks_len, List.length_take, List.length_drop, List.length_set]; omega) | exact ⟨_, rfl⟩ | (refine ⟨_, rfl, ?_⟩; omega) | (refine ⟨_, rfl, ?_⟩; simp only [List.length_append, rowsOf_len, List.length_cons, List.length_nil, marks_len, List.length_take, List.length_drop, List.length_set]; omega) | kernel_rfl | (simp; done)); done)))
            rw [if_neg (by omega)]
            (repeat (refine And.intro ?_ ?_; focus (((repeat' apply And.intro) <;> first | exact rowsOf_w _ | omega | (simp only [List.length_append, rowsOf_len, List.length_cons, List.length_nil, marks_len, List.length_take, List.length_drop, List.length_set]; omega) | exact ⟨_, rfl⟩ | (refine ⟨_, rfl, ?_⟩; omega) | (refine ⟨_, rfl, ?_⟩; simp only [List.length_append, rowsOf_len, List.length_cons, List.length_nil, marks_len, List.length_take, List.length_drop, List.length_set]; omega) | kernel_rfl | (simp; done)); done)))
            exact ⟨_, [], rfl, by (refine ⟨?_, ?_, ?_⟩ <;> simp [packA, hpAt, fitT, fit1, fitH, fitB, emptyB, rn, lk, AV.ren, AV.ren.renL, Blk.ren, blkIds, blkPids, AV.ids, AV.ids.idsL, AV.pids, AV.pids.pidsL, Blk.there])⟩
  · cases hg
set_option maxRecDepth 100000 in
theorem packetRead_ok : PureOk Try.prog 92 g_packetRead := by
  refine PureOk.of_vc (G := pk5) pk5_ok mixed Try.func92 (by kernel_rfl) rfl ?_
  intro args cnd r bs hg hc
  unfold g_packetRead at hg
  split at hg
  · rename_i sz rows
    cases hg
    obtain ⟨xs, rfl, hl⟩ := hc
    rw [bytesOf_rows]
    have b4 := (xs.getD 4 0).toNat_lt
    have b5 := (xs.getD 5 0).toNat_lt
    have b6 := (xs.getD 6 0).toNat_lt
    have b7 := (xs.getD 7 0).toNat_lt
    have b8 := (xs.getD 8 0).toNat_lt
    have b9 := (xs.getD 9 0).toNat_lt
    have w4 : IntKind.i64.wrap ((xs.getD 4 0).toNat : Int) = ((xs.getD 4 0).toNat : Int) := wrap_id (by omega) (by omega)
    have w5 : IntKind.i64.wrap ((xs.getD 5 0).toNat : Int) = ((xs.getD 5 0).toNat : Int) := wrap_id (by omega) (by omega)
    have w6 : IntKind.i64.wrap ((xs.getD 6 0).toNat : Int) = ((xs.getD 6 0).toNat : Int) := wrap_id (by omega) (by omega)
    have w7 : IntKind.i64.wrap ((xs.getD 7 0).toNat : Int) = ((xs.getD 7 0).toNat : Int) := wrap_id (by omega) (by omega)
    have w9 : IntKind.i64.wrap ((xs.getD 9 0).toNat : Int) = ((xs.getD 9 0).toNat : Int) := wrap_id (by omega) (by omega)
    refine ⟨⟨rfl, by simpa [flatB] using rowsOf_flat (xs.drop 12), by simp [AV.ids, AV.ids.idsL]⟩, [.l 1 (rowsOfBytes xs)], rfl, fun w vs h => CvL.ok (.cons (.l _ _ _ (rowsOf_w xs)) .nil) h, ?_⟩
    simp (maxSteps := 3000000) only [Try.f92, pk5, g_numberAt, g_sumFits, g_bytesCopied, g_packetOk, bytesOf_rows, rowsOf_len, rowsOf_take, rowsOf_drop, row_toI, row_nil, row_head, w4, w5, w6, w7, ty_sz2, ty_st2, ty_cell2, ty_ck2, ty_inf2, ty_sz3, ty_st3, ty_cell3, ty_ck3, ty_inf3, ty_sz4, ty_st4, ty_cell4, ty_ck4, ty_inf4, ty_sz5, ty_st5, ty_cell5, ty_ck5, ty_inf5, ty_sz9, ty_st9, ty_cell9, ty_ck9, ty_inf9, ty_sz12, ty_st12, ty_cell12, ty_ck12, ty_inf12, ty_sz21, ty_st21, ty_cell21, ty_ck21, ty_inf21, ty_sz22, ty_st22, ty_cell22, ty_ck22, ty_inf22, ty_sz23, ty_st23, ty_cell23, ty_ck23, ty_inf23, ty_sz24, ty_st24, ty_cell24, ty_ck24, ty_inf24, ty_sz25, ty_st25, ty_cell25, ty_ck25, ty_inf25, ty_eq25, ty_f25_0, ty_f25_1, ty_sz26, ty_st26, ty_cell26, ty_ck26, ty_inf26, ty_eq26, ty_f26_0, ty_f26_1, ty_sz35, ty_st35, ty_cell35, ty_ck35, ty_inf35, ty_eq35, ty_f35_0, ty_f35_1, ty_sz36, ty_st36, ty_cell36, ty_ck36, ty_inf36, ty_eq36, ty_f36_0, ty_f36_1, ty_sz39, ty_st39, ty_cell39, ty_ck39, ty_inf39, ty_eq39, ty_f39_0, ty_f39_1, ty_f39_2, ty_f39_3, ty_sz40, ty_st40, ty_cell40, ty_ck40, ty_inf40, ty_eq40, ty_f40_0, ty_f40_1, ty_f40_2, ty_f40_3, ty_sz43, ty_st43, ty_cell43, ty_ck43, ty_inf43, ty_sz49, ty_st49, ty_cell49, ty_ck49, ty_inf49, ty_eq49, ty_f49_0, ty_f49_1, ty_f49_2, ty_f49_3, ty_f49_4, ty_f49_5, ty_f49_6, ty_f49_7, ty_f49_8, ty_sz50, ty_st50, ty_cell50, ty_ck50, ty_inf50, ty_eq50, ty_f50_0, ty_f50_1, ty_f50_2, ty_f50_3, ty_f50_4, ty_f50_5, ty_f50_6, ty_f50_7, ty_f50_8, ty_sz60, ty_st60, ty_cell60, ty_ck60, ty_inf60, ty_sz61, ty_st61, ty_cell61, ty_ck61, ty_inf61, ty_sz62, ty_st62, ty_cell62, ty_ck62, ty_inf62, ty_eq62, ty_f62_0, ty_f62_1, ty_sz63, ty_st63, ty_cell63, ty_ck63, ty_inf63, ty_eq63, ty_f63_0, ty_f63_1, ty_sz69, ty_st69, ty_cell69, ty_ck69, ty_inf69, ty_eq69, ty_f69_0, ty_f69_1, ty_f69_2, ty_f69_3, ty_sz73, ty_st73, ty_cell73, ty_ck73, ty_inf73, ty_eq73, ty_f73_0, ty_f73_1, ty_f73_2, ty_f73_3, ty_f73_4, ty_f73_5, ty_f73_6, ty_f73_7, ty_f73_8, ty_sz88, ty_st88, ty_cell88, ty_ck88, ty_inf88, ty_eq88, ty_f88_0, ty_f88_1, ty_f88_2, ty_sz89, ty_st89, ty_cell89, ty_ck89, ty_inf89, ty_eq89, ty_f89_0, ty_f89_1, ty_f89_2, ty_sz112, ty_st112, ty_cell112, ty_ck112, ty_inf112, ty_eq112, ty_f112_0, ty_f112_1, ty_sz113, ty_st113, ty_cell113, ty_ck113, ty_inf113, ty_eq113, ty_f113_0, ty_f113_1, ty_sz119, ty_st119, ty_cell119, ty_ck119, ty_inf119, ty_eq119, ty_f119_0, ty_f119_1, ty_sz121, ty_st121, ty_cell121, ty_ck121, ty_inf121, ty_eq121, ty_f121_0, ty_f121_1, ty_f121_2, ty_sz132, ty_st132, ty_cell132, ty_ck132, ty_inf132, ty_sz141, ty_st141, ty_cell141, ty_ck141, ty_inf141, Try.underlying2, Try.underlying3, Try.underlying4, Try.underlying5, Try.underlying9, Try.underlying12, Try.underlying21, Try.underlying22, Try.underlying23, Try.underlying24, Try.underlying25, Try.underlying26, Try.underlying35, Try.underlying36, Try.underlying39, Try.underlying40, Try.underlying43, Try.underlying49, Try.underlying50, Try.underlying60, Try.underlying61, Try.underlying62, Try.underlying63, Try.underlying69, Try.underlying73, Try.underlying88, Try.underlying89, Try.underlying112, Try.underlying113, Try.underlying119, Try.underlying121, Try.underlying132, Try.underlying141, e_skip, e_label, e_ret, e_exit, e_seq, e_cond, e_block, e_region, seqK_normal, seqK_ret, seqK_exit, blkK_normal, blkK_ret, blkK_exit, condK_some, regK_true, regK_false, e_nil, e_cons, gateK_go, gateK_skip, gateK_ask, pickK_some, exK_some, x_pick, x_move, x_assign, x_alloc, x_box, x_build, x_buildSlice, x_load, x_store, x_binOp, x_unOp, x_convert, x_makeSlice, x_slice, x_fieldAddr, x_field, x_indexAddr, x_extract, x_nilCheck, x_call, x_len, x_append, x_min, oMin, x_copy, oCopy, eqAVs, callK_some, done_ret, done_normal, doneO_ret, doneO_normal, endsO_one, endsO_nil, endsO_more, ownAbs, frzAbs, leafs, leafs.leafsL, uniq, idxOf, bk, zipB, Blk.liveB, gate_none, gate_some, gateS_none, gateS_some, gateV_bool, gateV_undef, boolOf, evA, putT, refn, fpD, oBin, oUn, upsl, upl, up, ups, lk, dstsOf, resL, resA, packA, oLoad, oStore, oAlloc, oBox, oBuild, oBuildSlice, oMake, oAppend, oIndexAddr, oFieldAddr, oField, oExtract, oNil, oSlice, oLen, oConvert, rowLoad, fillA, fillR, dk, dks, dkRows, frz, loOf, hiOf, lenOf, rowsOf, nilV, lenV, putAt, views, viewsOk, CK.av, CK.ok, AV.cells, AV.one, Value.oneCell', Value.cells, pureAbs, nrm, nrm.nrmL, hpAt, sh, AV.ren, AV.ren.renL, Blk.ren, fpOf, footO, foot, blkIds, AV.ids, AV.ids.idsL, Op.operands, Call.operands, List.find?_cons, List.find?_nil, Nat.reduceBEq, beq_self_eq_true, List.map_cons, List.map_nil, List.getD_cons_zero, List.getD_cons_succ, List.getD_nil, List.set_cons_zero, List.set_cons_succ, List.length_cons, List.length_nil, List.replicate, List.cons_append, List.nil_append, List.append_nil, List.getElem?_cons_zero, List.getElem?_cons_succ, List.getElem?_toArray, List.getElem?_nil, List.take_zero, List.take_succ_cons, List.take_nil, List.drop_zero, List.drop_succ_cons, List.drop_nil, List.headD_cons, List.tail_cons, List.flatten_cons, List.flatten_nil, List.flatMap_cons, List.flatMap_nil, List.toList_toArray, Array.toList_append, Option.bind_some, Option.map_some, Option.map_none, Option.isSome_some, List.all_nil, List.all_cons, Bool.and_self, Bool.and_true, Bool.true_and, true_and, and_true, ↓reduceIte, List.size_toArray, Bool.false_eq_true, Bool.true_eq_false, false_implies, true_implies, Bool.not_true, Bool.not_false, and_self, implies_true, decide_true, decide_false, Nat.reduceAdd, Nat.reduceMul, Nat.reduceLT, Nat.reduceSub, Nat.reduceLeDiff, Nat.reduceEqDiff, eq_self, ne_eq, not_false_eq_true, false_and, and_false, reduceCtorEq, List.filter_nil, List.filter_cons, List.isEmpty_nil, List.isEmpty_cons, bne_self_eq_false, Nat.reduceBneDiff, Nat.lt_add_one, Nat.zero_lt_succ, List.append_assoc, Nat.zero_le, and_self_iff, Int.reduceToNat, decide_eq_true_eq, decide_eq_false_iff_not, beq_iff_eq, Int.toNat_natCast]
    simp only [pfHead, Bool.and_eq_true, decide_eq_true_eq] at hl
    simp only [List.take_length, pf_m, pf_u]
    (repeat (refine And.intro ?_ ?_; focus (((repeat' apply And.intro) <;> first | exact rowsOf_w _ | omega | (simp only [List.length_append, rowsOf_len, List.length_cons, List.length_nil, marks_len, List.length_take, List.length_drop, List.length_set]; omega) | exact ⟨_, rfl⟩ | (refine ⟨_, rfl, ?_⟩; omega) | (refine ⟨_, rfl, ?_⟩; simp only [List.length_append, rowsOf_len, List.length_cons, List.length_nil, marks_len, List.length_take, List.length_drop, List.length_set]; omega) | kernel_rfl | (simp; done)); done)))
    refine ⟨_, [(0, some 512)], rfl, ?_⟩
    clear b4 b5 b6 b7 b8 b9 w4 w5 w6 w7 w9 hl
    (refine ⟨?_, ?_, ?_⟩ <;> simp [packA, hpAt, fitT, fit1, fitH, fitB, emptyB, rn, lk, AV.ren, AV.ren.renL, Blk.ren, blkIds, blkPids, AV.ids, AV.ids.idsL, AV.pids, AV.pids.pidsL, Blk.there])
  · cases hg
set_option maxRecDepth 100000 in
theorem specPacketFrom_ok : PureOk Try.prog 38 g_packetFrom := by
  refine PureOk.of_vc (G := pk5) pk5_ok mixed Try.func38 (by kernel_rfl) rfl ?_
  intro args cnd r bs hg hc
  unfold g_packetFrom at hg
  split at hg
  · rename_i sz rows
    cases hg
    obtain ⟨xs, rfl, hl⟩ := hc
    rw [bytesOf_rows]
    have b4 := (xs.getD 4 0).toNat_lt
    have b5 := (xs.getD 5 0).toNat_lt
    have b6 := (xs.getD 6 0).toNat_lt
    have b7 := (xs.getD 7 0).toNat_lt
    have b8 := (xs.getD 8 0).toNat_lt
    have b9 := (xs.getD 9 0).toNat_lt
    have w4 : IntKind.i64.wrap ((xs.getD 4 0).toNat : Int) = ((xs.getD 4 0).toNat : Int) := wrap_id (by omega) (by omega)
    have w5 : IntKind.i64.wrap ((xs.getD 5 0).toNat : Int) = ((xs.getD 5 0).toNat : Int) := wrap_id (by omega) (by omega)
    have w6 : IntKind.i64.wrap ((xs.getD 6 0).toNat : Int) = ((xs.getD 6 0).toNat : Int) := wrap_id (by omega) (by omega)
    have w7 : IntKind.i64.wrap ((xs.getD 7 0).toNat : Int) = ((xs.getD 7 0).toNat : Int) := wrap_id (by omega) (by omega)
    have w9 : IntKind.i64.wrap ((xs.getD 9 0).toNat : Int) = ((xs.getD 9 0).toNat : Int) := wrap_id (by omega) (by omega)
    refine ⟨⟨rfl, by simpa [flatB] using rowsOf_flat (pfD xs), by simp [AV.ids, AV.ids.idsL]⟩, [.l 1 (rowsOfBytes xs)], rfl, fun w vs h => CvL.ok (.cons (.l _ _ _ (rowsOf_w xs)) .nil) h, ?_⟩
    simp (maxSteps := 3000000) only [Try.f38, pk5, g_numberAt, g_sumFits, g_bytesCopied, g_packetOk, bytesOf_rows, rowsOf_len, rowsOf_take, rowsOf_drop, row_toI, row_nil, row_head, w4, w5, w6, w7, w9, ty_sz2, ty_st2, ty_cell2, ty_ck2, ty_inf2, ty_sz3, ty_st3, ty_cell3, ty_ck3, ty_inf3, ty_sz4, ty_st4, ty_cell4, ty_ck4, ty_inf4, ty_sz5, ty_st5, ty_cell5, ty_ck5, ty_inf5, ty_sz9, ty_st9, ty_cell9, ty_ck9, ty_inf9, ty_sz12, ty_st12, ty_cell12, ty_ck12, ty_inf12, ty_sz21, ty_st21, ty_cell21, ty_ck21, ty_inf21, ty_sz22, ty_st22, ty_cell22, ty_ck22, ty_inf22, ty_sz23, ty_st23, ty_cell23, ty_ck23, ty_inf23, ty_sz24, ty_st24, ty_cell24, ty_ck24, ty_inf24, ty_sz25, ty_st25, ty_cell25, ty_ck25, ty_inf25, ty_eq25, ty_f25_0, ty_f25_1, ty_sz26, ty_st26, ty_cell26, ty_ck26, ty_inf26, ty_eq26, ty_f26_0, ty_f26_1, ty_sz35, ty_st35, ty_cell35, ty_ck35, ty_inf35, ty_eq35, ty_f35_0, ty_f35_1, ty_sz36, ty_st36, ty_cell36, ty_ck36, ty_inf36, ty_eq36, ty_f36_0, ty_f36_1, ty_sz39, ty_st39, ty_cell39, ty_ck39, ty_inf39, ty_eq39, ty_f39_0, ty_f39_1, ty_f39_2, ty_f39_3, ty_sz40, ty_st40, ty_cell40, ty_ck40, ty_inf40, ty_eq40, ty_f40_0, ty_f40_1, ty_f40_2, ty_f40_3, ty_sz43, ty_st43, ty_cell43, ty_ck43, ty_inf43, ty_sz49, ty_st49, ty_cell49, ty_ck49, ty_inf49, ty_eq49, ty_f49_0, ty_f49_1, ty_f49_2, ty_f49_3, ty_f49_4, ty_f49_5, ty_f49_6, ty_f49_7, ty_f49_8, ty_sz50, ty_st50, ty_cell50, ty_ck50, ty_inf50, ty_eq50, ty_f50_0, ty_f50_1, ty_f50_2, ty_f50_3, ty_f50_4, ty_f50_5, ty_f50_6, ty_f50_7, ty_f50_8, ty_sz60, ty_st60, ty_cell60, ty_ck60, ty_inf60, ty_sz61, ty_st61, ty_cell61, ty_ck61, ty_inf61, ty_sz62, ty_st62, ty_cell62, ty_ck62, ty_inf62, ty_eq62, ty_f62_0, ty_f62_1, ty_sz63, ty_st63, ty_cell63, ty_ck63, ty_inf63, ty_eq63, ty_f63_0, ty_f63_1, ty_sz69, ty_st69, ty_cell69, ty_ck69, ty_inf69, ty_eq69, ty_f69_0, ty_f69_1, ty_f69_2, ty_f69_3, ty_sz73, ty_st73, ty_cell73, ty_ck73, ty_inf73, ty_eq73, ty_f73_0, ty_f73_1, ty_f73_2, ty_f73_3, ty_f73_4, ty_f73_5, ty_f73_6, ty_f73_7, ty_f73_8, ty_sz88, ty_st88, ty_cell88, ty_ck88, ty_inf88, ty_eq88, ty_f88_0, ty_f88_1, ty_f88_2, ty_sz89, ty_st89, ty_cell89, ty_ck89, ty_inf89, ty_eq89, ty_f89_0, ty_f89_1, ty_f89_2, ty_sz112, ty_st112, ty_cell112, ty_ck112, ty_inf112, ty_eq112, ty_f112_0, ty_f112_1, ty_sz113, ty_st113, ty_cell113, ty_ck113, ty_inf113, ty_eq113, ty_f113_0, ty_f113_1, ty_sz119, ty_st119, ty_cell119, ty_ck119, ty_inf119, ty_eq119, ty_f119_0, ty_f119_1, ty_sz121, ty_st121, ty_cell121, ty_ck121, ty_inf121, ty_eq121, ty_f121_0, ty_f121_1, ty_f121_2, ty_sz132, ty_st132, ty_cell132, ty_ck132, ty_inf132, ty_sz141, ty_st141, ty_cell141, ty_ck141, ty_inf141, Try.underlying2, Try.underlying3, Try.underlying4, Try.underlying5, Try.underlying9, Try.underlying12, Try.underlying21, Try.underlying22, Try.underlying23, Try.underlying24, Try.underlying25, Try.underlying26, Try.underlying35, Try.underlying36, Try.underlying39, Try.underlying40, Try.underlying43, Try.underlying49, Try.underlying50, Try.underlying60, Try.underlying61, Try.underlying62, Try.underlying63, Try.underlying69, Try.underlying73, Try.underlying88, Try.underlying89, Try.underlying112, Try.underlying113, Try.underlying119, Try.underlying121, Try.underlying132, Try.underlying141, e_skip, e_label, e_ret, e_exit, e_seq, e_cond, e_block, e_region, seqK_normal, seqK_ret, seqK_exit, blkK_normal, blkK_ret, blkK_exit, condK_some, regK_true, regK_false, e_nil, e_cons, gateK_go, gateK_skip, gateK_ask, pickK_some, exK_some, x_pick, x_move, x_assign, x_alloc, x_box, x_build, x_buildSlice, x_load, x_store, x_binOp, x_unOp, x_convert, x_makeSlice, x_slice, x_fieldAddr, x_field, x_indexAddr, x_extract, x_nilCheck, x_call, x_len, x_append, x_min, oMin, x_copy, oCopy, eqAVs, callK_some, done_ret, done_normal, doneO_ret, doneO_normal, endsO_one, endsO_nil, endsO_more, ownAbs, frzAbs, leafs, leafs.leafsL, uniq, idxOf, bk, zipB, Blk.liveB, gate_none, gate_some, gateS_none, gateS_some, gateV_bool, gateV_undef, boolOf, evA, putT, refn, fpD, oBin, oUn, upsl, upl, up, ups, lk, dstsOf, resL, resA, packA, oLoad, oStore, oAlloc, oBox, oBuild, oBuildSlice, oMake, oAppend, oIndexAddr, oFieldAddr, oField, oExtract, oNil, oSlice, oLen, oConvert, rowLoad, fillA, fillR, dk, dks, dkRows, frz, loOf, hiOf, lenOf, rowsOf, nilV, lenV, putAt, views, viewsOk, CK.av, CK.ok, AV.cells, AV.one, Value.oneCell', Value.cells, pureAbs, nrm, nrm.nrmL, hpAt, sh, AV.ren, AV.ren.renL, Blk.ren, fpOf, footO, foot, blkIds, AV.ids, AV.ids.idsL, Op.operands, Call.operands, List.find?_cons, List.find?_nil, Nat.reduceBEq, beq_self_eq_true, List.map_cons, List.map_nil, List.getD_cons_zero, List.getD_cons_succ, List.getD_nil, List.set_cons_zero, List.set_cons_succ, List.length_cons, List.length_nil, List.replicate, List.cons_append, List.nil_append, List.append_nil, List.getElem?_cons_zero, List.getElem?_cons_succ, List.getElem?_toArray, List.getElem?_nil, List.take_zero, List.take_succ_cons, List.take_nil, List.drop_zero, List.drop_succ_cons, List.drop_nil, List.headD_cons, List.tail_cons, List.flatten_cons, List.flatten_nil, List.flatMap_cons, List.flatMap_nil, List.toList_toArray, Array.toList_append, Option.bind_some, Option.map_some, Option.map_none, Option.isSome_some, List.all_nil, List.all_cons, Bool.and_self, Bool.and_true, Bool.true_and, true_and, and_true, ↓reduceIte, List.size_toArray, Bool.false_eq_true, Bool.true_eq_false, false_implies, true_implies, Bool.not_true, Bool.not_false, and_self, implies_true, decide_true, decide_false, Nat.reduceAdd, Nat.reduceMul, Nat.reduceLT, Nat.reduceSub, Nat.reduceLeDiff, Nat.reduceEqDiff, eq_self, ne_eq, not_false_eq_true, false_and, and_false, reduceCtorEq, List.filter_nil, List.filter_cons, List.isEmpty_nil, List.isEmpty_cons, bne_self_eq_false, Nat.reduceBneDiff, Nat.lt_add_one, Nat.zero_lt_succ, List.append_assoc, Nat.zero_le, and_self_iff, Int.reduceToNat, decide_eq_true_eq, decide_eq_false_iff_not, beq_iff_eq, Int.toNat_natCast]
    simp only [List.take_length, pf_m]
    by_cases h12 : (xs.length : Int) < 12
    · rw [if_pos h12]
      have e : pfOk xs = false := pf_no (by omega)
      (repeat (refine And.intro ?_ ?_; focus (((repeat' apply And.intro) <;> first | exact rowsOf_w _ | omega | (simp only [List.length_append, rowsOf_len, List.length_cons, List.length_nil, marks_len, List.length_take, List.length_drop, List.length_set]; omega) | exact ⟨_, rfl⟩ | (refine ⟨_, rfl, ?_⟩; omega) | (refine ⟨_, rfl, ?_⟩; simp only [List.length_append, rowsOf_len, List.length_cons, List.length_nil, marks_len, List.length_take, List.length_drop, List.length_set]; omega) | kernel_rfl | (simp; done)); done)))
      refine ⟨_, [(0, none)], rfl, ?_⟩
      simp only [pfF, pfT, pfP, pfH, pfI, pfA, pfM, pfU, pfD, e, ↓reduceIte, Bool.false_eq_true, rowsOf_nil]
      (refine ⟨?_, ?_, ?_⟩ <;> simp [packA, hpAt, fitT, fit1, fitH, fitB, emptyB, rn, lk, AV.ren, AV.ren.renL, Blk.ren, blkIds, blkPids, AV.ids, AV.ids.idsL, AV.pids, AV.pids.pidsL, Blk.there])
      all_goals rfl
    · rw [if_neg h12]
      (repeat (refine And.intro ?_ ?_; focus (((repeat' apply And.intro) <;> first | exact rowsOf_w _ | omega | (simp only [List.length_append, rowsOf_len, List.length_cons, List.length_nil, marks_len, List.length_take, List.length_drop, List.length_set]; omega) | exact ⟨_, rfl⟩ | (refine ⟨_, rfl, ?_⟩; omega) | (refine ⟨_, rfl, ?_⟩; simp only [List.length_append, rowsOf_len, List.length_cons, List.length_nil, marks_len, List.length_take, List.length_drop, List.length_set]; omega) | kernel_rfl | (simp; done)); done)))
      by_cases h3 : ((xs.getD 8 0).toNat : Int) > 3
      · rw [if_neg (by omega)]
        have e : pfOk xs = false := pf_no (by omega)
        (repeat (refine And.intro ?_ ?_; focus (((repeat' apply And.intro) <;> first | exact rowsOf_w _ | omega | (simp only [List.length_append, rowsOf_len, List.length_cons, List.length_nil, marks_len, List.length_take, List.length_drop, List.length_set]; omega) | exact ⟨_, rfl⟩ | (refine ⟨_, rfl, ?_⟩; omega) | (refine ⟨_, rfl, ?_⟩; simp only [List.length_append, rowsOf_len, List.length_cons, List.length_nil, marks_len, List.length_take, List.length_drop, List.length_set]; omega) | kernel_rfl | (simp; done)); done)))
        refine ⟨_, [(0, none)], rfl, ?_⟩
        simp only [pfF, pfT, pfP, pfH, pfI, pfA, pfM, pfU, pfD, e, ↓reduceIte, Bool.false_eq_true, rowsOf_nil]
        (refine ⟨?_, ?_, ?_⟩ <;> simp [packA, hpAt, fitT, fit1, fitH, fitB, emptyB, rn, lk, AV.ren, AV.ren.renL, Blk.ren, blkIds, blkPids, AV.ids, AV.ids.idsL, AV.pids, AV.pids.pidsL, Blk.there])
        all_goals rfl
      · rw [if_pos h3, pf_u1 (by omega)]
        (repeat (refine And.intro ?_ ?_; focus (((repeat' apply And.intro) <;> first | exact rowsOf_w _ | omega | (simp only [List.length_append, rowsOf_len, List.length_cons, List.length_nil, marks_len, List.length_take, List.length_drop, List.length_set]; omega) | exact ⟨_, rfl⟩ | (refine ⟨_, rfl, ?_⟩; omega) | (refine ⟨_, rfl, ?_⟩; simp only [List.length_append, rowsOf_len, List.length_cons, List.length_nil, marks_len, List.length_take, List.length_drop, List.length_set]; omega) | kernel_rfl | (simp; done)); done)))
        have hpk : pkB (numAt xs 0 2) (numAt xs 2 2) ((xs.getD 4 0).toNat : Int) ((xs.getD 5 0).toNat : Int) ((xs.getD 6 0).toNat : Int) ((xs.getD 7 0).toNat : Int) (pfM0 xs) (pfU0 xs) (xs.drop 12).length = pfB xs := rfl
        rw [hpk]
        by_cases h9 : (((xs.getD 9 0).toNat : Int) != ((xs.drop 12).length : Int)) = false
        · rw [if_pos h9]
          simp only [bne_eq_false_iff_eq, List.length_drop] at h9
          by_cases hp : pfB xs = true
          · have hk := pkR_of hp
            rw [List.length_drop] at hk
            rw [if_pos (by rw [hp]; rfl)]
            (repeat (refine And.intro ?_ ?_; focus (((repeat' apply And.intro) <;> first | exact rowsOf_w _ | omega | (simp only [List.length_append, rowsOf_len, List.length_cons, List.length_nil, marks_len, List.length_take, List.length_drop, List.length_set]; omega) | exact ⟨_, rfl⟩ | (refine ⟨_, rfl, ?_⟩; omega) | (refine ⟨_, rfl, ?_⟩; simp only [List.length_append, rowsOf_len, List.length_cons, List.length_nil, marks_len, List.length_take, List.length_drop, List.length_set]; omega) | kernel_rfl | (simp; done)); done)))
            by_cases hf : fits (xs.take 10) (numAt xs 10 2) = true
            · rw [if_neg (by rw [hf]; decide)]
              have e : pfOk xs = true := by rw [pfOk, hp, pfHead, hf, decide_eq_true (by omega)]; rfl
              refine ⟨_, [(0, some 608)], rfl, ?_⟩
              simp only [pfF, pfT, pfP, pfH, pfI, pfA, pfM, pfU, pfD, e, ↓reduceIte]
              clear b4 b5 b6 b7 b8 b9 w4 w5 w6 w7 w9 hl hk hf hp h9 h3 h12 hpk e
              (refine ⟨?_, ?_, ?_⟩ <;> simp [packA, hpAt, fitT, fit1, fitH, fitB, emptyB, rn, lk, AV.ren, AV.ren.renL, Blk.ren, blkIds, blkPids, AV.ids, AV.ids.idsL, AV.pids, AV.pids.pidsL, Blk.there])
            · rw [Bool.not_eq_true] at hf
              rw [if_pos (by rw [hf]; rfl)]
              have e : pfOk xs = false := by rw [pfOk, pfHead, hf, Bool.and_false, Bool.false_and]
              (repeat (refine And.intro ?_ ?_; focus (((repeat' apply And.intro) <;> first | exact rowsOf_w _ | omega | (simp only [List.length_append, rowsOf_len, List.length_cons, List.length_nil, marks_len, List.length_take, List.length_drop, List.length_set]; omega) | exact ⟨_, rfl⟩ | (refine ⟨_, rfl, ?_⟩; omega) | (refine ⟨_, rfl, ?_⟩; simp only [List.length_append, rowsOf_len, List.length_cons, List.length_nil, marks_len, List.length_take, List.length_drop, List.length_set]; omega) | kernel_rfl | (simp; done)); done)))
              refine ⟨_, [(0, none)], rfl, ?_⟩
              simp only [pfF, pfT, pfP, pfH, pfI, pfA, pfM, pfU, pfD, e, ↓reduceIte, Bool.false_eq_true, rowsOf_nil]
              (refine ⟨?_, ?_, ?_⟩ <;> simp [packA, hpAt, fitT, fit1, fitH, fitB, emptyB, rn, lk, AV.ren, AV.ren.renL, Blk.ren, blkIds, blkPids, AV.ids, AV.ids.idsL, AV.pids, AV.pids.pidsL, Blk.there])
              all_goals rfl
          · rw [Bool.not_eq_true] at hp
            rw [if_neg (by rw [hp]; decide)]
            have e : pfOk xs = false := by rw [pfOk, hp, Bool.and_false]
            (repeat (refine And.intro ?_ ?_; focus (((repeat' apply And.intro) <;> first | exact rowsOf_w _ | omega | (simp only [List.length_append, rowsOf_len, List.length_cons, List.length_nil, marks_len, List.length_take, List.length_drop, List.length_set]; omega) | exact ⟨_, rfl⟩ | (refine ⟨_, rfl, ?_⟩; omega) | (refine ⟨_, rfl, ?_⟩; simp only [List.length_append, rowsOf_len, List.length_cons, List.length_nil, marks_len, List.length_take, List.length_drop, List.length_set]; omega) | kernel_rfl | (simp; done)); done)))
            refine ⟨_, [(0, none)], rfl, ?_⟩
            simp only [pfF, pfT, pfP, pfH, pfI, pfA, pfM, pfU, pfD, e, ↓reduceIte, Bool.false_eq_true, rowsOf_nil]
            (refine ⟨?_, ?_, ?_⟩ <;> simp [packA, hpAt, fitT, fit1, fitH, fitB, emptyB, rn, lk, AV.ren, AV.ren.renL, Blk.ren, blkIds, blkPids, AV.ids, AV.ids.idsL, AV.pids, AV.pids.pidsL, Blk.there])
            all_goals rfl
        · rw [if_neg h9]
          simp only [bne_eq_false_iff_eq, List.length_drop] at h9
          have e : pfOk xs = false := pf_no (by omega)
          (repeat (refine And.intro ?_ ?_; focus (((repeat' apply And.intro) <;> first | exact rowsOf_w _ | omega | (simp only [List.length_append, rowsOf_len, List.length_cons, List.length_nil, marks_len, List.length_take, List.length_drop, List.length_set]; omega) | exact ⟨_, rfl⟩ | (refine ⟨_, rfl, ?_⟩; omega) | (refine ⟨_, rfl, ?_⟩; simp only [List.length_append, rowsOf_len, List.length_cons, List.length_nil, marks_len, List.length_take, List.length_drop, List.length_set]; omega) | kernel_rfl | (simp; done)); done)))
          refine ⟨_, [(0, none)], rfl, ?_⟩
          simp only [pfF, pfT, pfP, pfH, pfI, pfA, pfM, pfU, pfD, e, ↓reduceIte, Bool.false_eq_true, rowsOf_nil]
          (refine ⟨?_, ?_, ?_⟩ <;> simp [packA, hpAt, fitT, fit1, fitH, fitB, emptyB, rn, lk, AV.ren, AV.ren.renL, Blk.ren, blkIds, blkPids, AV.ids, AV.ids.idsL, AV.pids, AV.pids.pidsL, Blk.there])
          all_goals rfl
  · cases hg
def pk6 : List (FuncId × Abs) := [(91, pureAbs g_headFits), (92, pureAbs g_packetRead), (30, pureAbs g_packetOk)]
theorem pk6_ok : ∀ p ∈ pk6, CallOk Try.prog p.1 p.2 := by
  intro p hp
  simp only [pk6, List.mem_cons, List.not_mem_nil, or_false] at hp
  rcases hp with rfl | rfl | rfl
  · exact packetHeadFits_ok.call
  · exact packetRead_ok.call
  · exact implPacketOk_ok.call
set_option maxRecDepth 100000 in
theorem implPacketFrom_ok : PureOk Try.prog 35 g_packetFrom := by
  refine PureOk.of_vc (G := pk6) pk6_ok mixed Try.func35 (by kernel_rfl) rfl ?_
  intro args cnd r bs hg hc
  unfold g_packetFrom at hg
  split at hg
  · rename_i sz rows
    cases hg
    obtain ⟨xs, rfl, hl⟩ := hc
    rw [bytesOf_rows]
    refine ⟨⟨rfl, by simpa [flatB] using rowsOf_flat (pfD xs), by simp [AV.ids, AV.ids.idsL]⟩, [.l 1 (rowsOfBytes xs)], rfl, fun w vs h => CvL.ok (.cons (.l _ _ _ (rowsOf_w xs)) .nil) h, ?_⟩
    simp (maxSteps := 3000000) only [Try.f35, pk6, g_headFits, g_packetRead, g_packetOk, bytesOf_rows, rowsOf_len, ty_sz2, ty_st2, ty_cell2, ty_ck2, ty_inf2, ty_sz3, ty_st3, ty_cell3, ty_ck3, ty_inf3, ty_sz4, ty_st4, ty_cell4, ty_ck4, ty_inf4, ty_sz5, ty_st5, ty_cell5, ty_ck5, ty_inf5, ty_sz9, ty_st9, ty_cell9, ty_ck9, ty_inf9, ty_sz12, ty_st12, ty_cell12, ty_ck12, ty_inf12, ty_sz21, ty_st21, ty_cell21, ty_ck21, ty_inf21, ty_sz22, ty_st22, ty_cell22, ty_ck22, ty_inf22, ty_sz23, ty_st23, ty_cell23, ty_ck23, ty_inf23, ty_sz24, ty_st24, ty_cell24, ty_ck24, ty_inf24, ty_sz25, ty_st25, ty_cell25, ty_ck25, ty_inf25, ty_eq25, ty_f25_0, ty_f25_1, ty_sz26, ty_st26, ty_cell26, ty_ck26, ty_inf26, ty_eq26, ty_f26_0, ty_f26_1, ty_sz35, ty_st35, ty_cell35, ty_ck35, ty_inf35, ty_eq35, ty_f35_0, ty_f35_1, ty_sz36, ty_st36, ty_cell36, ty_ck36, ty_inf36, ty_eq36, ty_f36_0, ty_f36_1, ty_sz39, ty_st39, ty_cell39, ty_ck39, ty_inf39, ty_eq39, ty_f39_0, ty_f39_1, ty_f39_2, ty_f39_3, ty_sz40, ty_st40, ty_cell40, ty_ck40, ty_inf40, ty_eq40, ty_f40_0, ty_f40_1, ty_f40_2, ty_f40_3, ty_sz43, ty_st43, ty_cell43, ty_ck43, ty_inf43, ty_sz49, ty_st49, ty_cell49, ty_ck49, ty_inf49, ty_eq49, ty_f49_0, ty_f49_1, ty_f49_2, ty_f49_3, ty_f49_4, ty_f49_5, ty_f49_6, ty_f49_7, ty_f49_8, ty_sz50, ty_st50, ty_cell50, ty_ck50, ty_inf50, ty_eq50, ty_f50_0, ty_f50_1, ty_f50_2, ty_f50_3, ty_f50_4, ty_f50_5, ty_f50_6, ty_f50_7, ty_f50_8, ty_sz60, ty_st60, ty_cell60, ty_ck60, ty_inf60, ty_sz61, ty_st61, ty_cell61, ty_ck61, ty_inf61, ty_sz62, ty_st62, ty_cell62, ty_ck62, ty_inf62, ty_eq62, ty_f62_0, ty_f62_1, ty_sz63, ty_st63, ty_cell63, ty_ck63, ty_inf63, ty_eq63, ty_f63_0, ty_f63_1, ty_sz69, ty_st69, ty_cell69, ty_ck69, ty_inf69, ty_eq69, ty_f69_0, ty_f69_1, ty_f69_2, ty_f69_3, ty_sz73, ty_st73, ty_cell73, ty_ck73, ty_inf73, ty_eq73, ty_f73_0, ty_f73_1, ty_f73_2, ty_f73_3, ty_f73_4, ty_f73_5, ty_f73_6, ty_f73_7, ty_f73_8, ty_sz88, ty_st88, ty_cell88, ty_ck88, ty_inf88, ty_eq88, ty_f88_0, ty_f88_1, ty_f88_2, ty_sz89, ty_st89, ty_cell89, ty_ck89, ty_inf89, ty_eq89, ty_f89_0, ty_f89_1, ty_f89_2, ty_sz112, ty_st112, ty_cell112, ty_ck112, ty_inf112, ty_eq112, ty_f112_0, ty_f112_1, ty_sz113, ty_st113, ty_cell113, ty_ck113, ty_inf113, ty_eq113, ty_f113_0, ty_f113_1, ty_sz119, ty_st119, ty_cell119, ty_ck119, ty_inf119, ty_eq119, ty_f119_0, ty_f119_1, ty_sz121, ty_st121, ty_cell121, ty_ck121, ty_inf121, ty_eq121, ty_f121_0, ty_f121_1, ty_f121_2, ty_sz132, ty_st132, ty_cell132, ty_ck132, ty_inf132, ty_sz141, ty_st141, ty_cell141, ty_ck141, ty_inf141, Try.underlying2, Try.underlying3, Try.underlying4, Try.underlying5, Try.underlying9, Try.underlying12, Try.underlying21, Try.underlying22, Try.underlying23, Try.underlying24, Try.underlying25, Try.underlying26, Try.underlying35, Try.underlying36, Try.underlying39, Try.underlying40, Try.underlying43, Try.underlying49, Try.underlying50, Try.underlying60, Try.underlying61, Try.underlying62, Try.underlying63, Try.underlying69, Try.underlying73, Try.underlying88, Try.underlying89, Try.underlying112, Try.underlying113, Try.underlying119, Try.underlying121, Try.underlying132, Try.underlying141, e_skip, e_label, e_ret, e_exit, e_seq, e_cond, e_block, e_region, seqK_normal, seqK_ret, seqK_exit, blkK_normal, blkK_ret, blkK_exit, condK_some, regK_true, regK_false, e_nil, e_cons, gateK_go, gateK_skip, gateK_ask, pickK_some, exK_some, x_pick, x_move, x_assign, x_alloc, x_box, x_build, x_buildSlice, x_load, x_store, x_binOp, x_unOp, x_convert, x_makeSlice, x_slice, x_fieldAddr, x_field, x_indexAddr, x_extract, x_nilCheck, x_call, x_len, x_append, x_min, oMin, x_copy, oCopy, eqAVs, callK_some, done_ret, done_normal, doneO_ret, doneO_normal, endsO_one, endsO_nil, endsO_more, ownAbs, frzAbs, leafs, leafs.leafsL, uniq, idxOf, bk, zipB, Blk.liveB, gate_none, gate_some, gateS_none, gateS_some, gateV_bool, gateV_undef, boolOf, evA, putT, refn, fpD, oBin, oUn, upsl, upl, up, ups, lk, dstsOf, resL, resA, packA, oLoad, oStore, oAlloc, oBox, oBuild, oBuildSlice, oMake, oAppend, oIndexAddr, oFieldAddr, oField, oExtract, oNil, oSlice, oLen, oConvert, rowLoad, fillA, fillR, dk, dks, dkRows, frz, loOf, hiOf, lenOf, rowsOf, nilV, lenV, putAt, views, viewsOk, CK.av, CK.ok, AV.cells, AV.one, Value.oneCell', Value.cells, pureAbs, nrm, nrm.nrmL, hpAt, sh, AV.ren, AV.ren.renL, Blk.ren, fpOf, footO, foot, blkIds, AV.ids, AV.ids.idsL, Op.operands, Call.operands, List.find?_cons, List.find?_nil, Nat.reduceBEq, beq_self_eq_true, List.map_cons, List.map_nil, List.getD_cons_zero, List.getD_cons_succ, List.getD_nil, List.set_cons_zero, List.set_cons_succ, List.length_cons, List.length_nil, List.replicate, List.cons_append, List.nil_append, List.append_nil, List.getElem?_cons_zero, List.getElem?_cons_succ, List.getElem?_toArray, List.getElem?_nil, List.take_zero, List.take_succ_cons, List.take_nil, List.drop_zero, List.drop_succ_cons, List.drop_nil, List.headD_cons, List.tail_cons, List.flatten_cons, List.flatten_nil, List.flatMap_cons, List.flatMap_nil, List.toList_toArray, Array.toList_append, Option.bind_some, Option.map_some, Option.map_none, Option.isSome_some, List.all_nil, List.all_cons, Bool.and_self, Bool.and_true, Bool.true_and, true_and, and_true, ↓reduceIte, List.size_toArray, Bool.false_eq_true, Bool.true_eq_false, false_implies, true_implies, Bool.not_true, Bool.not_false, and_self, implies_true, decide_true, decide_false, Nat.reduceAdd, Nat.reduceMul, Nat.reduceLT, Nat.reduceSub, Nat.reduceLeDiff, Nat.reduceEqDiff, eq_self, ne_eq, not_false_eq_true, false_and, and_false, reduceCtorEq, List.filter_nil, List.filter_cons, List.isEmpty_nil, List.isEmpty_cons, bne_self_eq_false, Nat.reduceBneDiff, Nat.lt_add_one, Nat.zero_lt_succ, List.append_assoc, Nat.zero_le, and_self_iff, Int.reduceToNat, decide_eq_true_eq, decide_eq_false_iff_not, beq_iff_eq, Int.toNat_natCast]
    have hpk : pkB (numAt xs 0 2) (numAt xs 2 2) ((xs.getD 4 0).toNat : Int) ((xs.getD 5 0).toNat : Int) ((xs.getD 6 0).toNat : Int) ((xs.getD 7 0).toNat : Int) (pfM0 xs) (pfU0 xs) (xs.drop 12).length = pfB xs := rfl
    rw [hpk]
    (repeat (refine And.intro ?_ ?_; focus (((repeat' apply And.intro) <;> first | exact rowsOf_w _ | omega | (simp only [List.length_append, rowsOf_len, List.length_cons, List.length_nil, marks_len, List.length_take, List.length_drop, List.length_set]; omega) | exact ⟨_, rfl⟩ | (refine ⟨_, rfl, ?_⟩; omega) | (refine ⟨_, rfl, ?_⟩; simp only [List.length_append, rowsOf_len, List.length_cons, List.length_nil, marks_len, List.length_take, List.length_drop, List.length_set]; omega) | kernel_rfl | (simp; done)); done)))
    by_cases hh : pfHead xs = true
    · rw [if_neg (by rw [hh]; decide)]
      refine ⟨⟨_, rfl, hh⟩, ?_⟩
      by_cases hp : pfB xs = true
      · rw [if_neg (by rw [hp]; decide)]
        have e : pfOk xs = true := by rw [pfOk, hh, hp]; rfl
        refine ⟨_, [(0, some 96)], rfl, ?_⟩
        simp only [pfF, pfT, pfP, pfH, pfI, pfA, pfM, pfU, pfD, e, ↓reduceIte]
        clear hl hh hp hpk e
        (refine ⟨?_, ?_, ?_⟩ <;> simp [packA, hpAt, fitT, fit1, fitH, fitB, emptyB, rn, lk, AV.ren, AV.ren.renL, Blk.ren, blkIds, blkPids, AV.ids, AV.ids.idsL, AV.pids, AV.pids.pidsL, Blk.there])
      · rw [Bool.not_eq_true] at hp
        rw [if_pos (by rw [hp]; rfl)]
        have e : pfOk xs = false := by rw [pfOk, hp, Bool.and_false]
        (repeat (refine And.intro ?_ ?_; focus (((repeat' apply And.intro) <;> first | exact rowsOf_w _ | omega | (simp only [List.length_append, rowsOf_len, List.length_cons, List.length_nil, marks_len, List.length_take, List.length_drop, List.length_set]; omega) | exact ⟨_, rfl⟩ | (refine ⟨_, rfl, ?_⟩; omega) | (refine ⟨_, rfl, ?_⟩; simp only [List.length_append, rowsOf_len, List.length_cons, List.length_nil, marks_len, List.length_take, List.length_drop, List.length_set]; omega) | kernel_rfl | (simp; done)); done)))
        refine ⟨_, [(0, none)], rfl, ?_⟩
        simp only [pfF, pfT, pfP, pfH, pfI, pfA, pfM, pfU, pfD, e, ↓reduceIte, Bool.false_eq_true, rowsOf_nil]
        (refine ⟨?_, ?_, ?_⟩ <;> simp [packA, hpAt, fitT, fit1, fitH, fitB, emptyB, rn, lk, AV.ren, AV.ren.renL, Blk.ren, blkIds, blkPids, AV.ids, AV.ids.idsL, AV.pids, AV.pids.pidsL, Blk.there])
        all_goals rfl
    · rw [Bool.not_eq_true] at hh
      rw [if_pos (by rw [hh]; rfl)]
      have e : pfOk xs = false := by rw [pfOk, hh, Bool.false_and]
      (repeat (refine And.intro ?_ ?_; focus (((repeat' apply And.intro) <;> first | exact rowsOf_w _ | omega | (simp only [List.length_append, rowsOf_len, List.length_cons, List.length_nil, marks_len, List.length_take, List.length_drop, List.length_set]; omega) | exact ⟨_, rfl⟩ | (refine ⟨_, rfl, ?_⟩; omega) | (refine ⟨_, rfl, ?_⟩; simp only [List.length_append, rowsOf_len, List.length_cons, List.length_nil, marks_len, List.length_take, List.length_drop, List.length_set]; omega) | kernel_rfl | (simp; done)); done)))
      refine ⟨_, [(0, none)], rfl, ?_⟩
      simp only [pfF, pfT, pfP, pfH, pfI, pfA, pfM, pfU, pfD, e, ↓reduceIte, Bool.false_eq_true, rowsOf_nil]
      (refine ⟨?_, ?_, ?_⟩ <;> simp [packA, hpAt, fitT, fit1, fitH, fitB, emptyB, rn, lk, AV.ren, AV.ren.renL, Blk.ren, blkIds, blkPids, AV.ids, AV.ids.idsL, AV.pids, AV.pids.pidsL, Blk.there])
      all_goals rfl
  · cases hg
def pk7 : List (FuncId × Abs) := [(35, pureAbs g_packetFrom), (38, pureAbs g_packetFrom), (98, pureAbs g_numberAt), (94, pureAbs g_numberAt), (97, pureAbs g_sumTurned), (99, pureAbs g_sumTurned), (96, pureAbs g_bytesCopied), (75, pureAbs g_bytesOf), (89, pureAbs g_bytesOf)]
theorem pk7_ok : ∀ p ∈ pk7, CallOk Try.prog p.1 p.2 := by
  intro p hp
  simp only [pk7, List.mem_cons, List.not_mem_nil, or_false] at hp
  rcases hp with rfl | rfl | rfl | rfl | rfl | rfl | rfl | rfl | rfl
  · exact implPacketFrom_ok.call
  · exact specPacketFrom_ok.call
  · exact implNumberAt_ok.call
  · exact specNumberAt_ok.call
  · exact implSumTurned_ok.call
  · exact specSumTurned_ok.call
  · exact bytesCopied_ok.call
  · exact implBytesOf_ok.call
  · exact specBytesOf_ok.call
set_option maxRecDepth 100000 in
theorem specPacketPassed_ok : PureOk Try.prog 41 g_packetPassed := by
  refine PureOk.of_vc (G := pk7) pk7_ok mixed Try.func41 (by kernel_rfl) rfl ?_
  intro args cnd r bs hg hc
  unfold g_packetPassed at hg
  split at hg
  · rename_i sz rows
    cases hg
    obtain ⟨xs, rfl, hl⟩ := hc
    rw [bytesOf_rows]
    refine ⟨⟨rfl, by simpa [flatB] using rowsOf_flat (ppV xs), by simp [AV.ids, AV.ids.idsL]⟩, [.l 1 (rowsOfBytes xs)], rfl, fun w vs h => CvL.ok (.cons (.l _ _ _ (rowsOf_w xs)) .nil) h, ?_⟩
    simp (maxSteps := 3000000) only [Try.f41, pk7, g_packetFrom, g_numberAt, g_sumTurned, g_bytesCopied, g_bytesOf, bytesOf_rows, rowsOf_len, rowsOf_take, rowsOf_drop, row_toI, row_nil, row_head, rows_set, ty_sz2, ty_st2, ty_cell2, ty_ck2, ty_inf2, ty_sz3, ty_st3, ty_cell3, ty_ck3, ty_inf3, ty_sz4, ty_st4, ty_cell4, ty_ck4, ty_inf4, ty_sz5, ty_st5, ty_cell5, ty_ck5, ty_inf5, ty_sz9, ty_st9, ty_cell9, ty_ck9, ty_inf9, ty_sz12, ty_st12, ty_cell12, ty_ck12, ty_inf12, ty_sz21, ty_st21, ty_cell21, ty_ck21, ty_inf21, ty_sz22, ty_st22, ty_cell22, ty_ck22, ty_inf22, ty_sz23, ty_st23, ty_cell23, ty_ck23, ty_inf23, ty_sz24, ty_st24, ty_cell24, ty_ck24, ty_inf24, ty_sz25, ty_st25, ty_cell25, ty_ck25, ty_inf25, ty_eq25, ty_f25_0, ty_f25_1, ty_sz26, ty_st26, ty_cell26, ty_ck26, ty_inf26, ty_eq26, ty_f26_0, ty_f26_1, ty_sz35, ty_st35, ty_cell35, ty_ck35, ty_inf35, ty_eq35, ty_f35_0, ty_f35_1, ty_sz36, ty_st36, ty_cell36, ty_ck36, ty_inf36, ty_eq36, ty_f36_0, ty_f36_1, ty_sz39, ty_st39, ty_cell39, ty_ck39, ty_inf39, ty_eq39, ty_f39_0, ty_f39_1, ty_f39_2, ty_f39_3, ty_sz40, ty_st40, ty_cell40, ty_ck40, ty_inf40, ty_eq40, ty_f40_0, ty_f40_1, ty_f40_2, ty_f40_3, ty_sz43, ty_st43, ty_cell43, ty_ck43, ty_inf43, ty_sz49, ty_st49, ty_cell49, ty_ck49, ty_inf49, ty_eq49, ty_f49_0, ty_f49_1, ty_f49_2, ty_f49_3, ty_f49_4, ty_f49_5, ty_f49_6, ty_f49_7, ty_f49_8, ty_sz50, ty_st50, ty_cell50, ty_ck50, ty_inf50, ty_eq50, ty_f50_0, ty_f50_1, ty_f50_2, ty_f50_3, ty_f50_4, ty_f50_5, ty_f50_6, ty_f50_7, ty_f50_8, ty_sz60, ty_st60, ty_cell60, ty_ck60, ty_inf60, ty_sz61, ty_st61, ty_cell61, ty_ck61, ty_inf61, ty_sz62, ty_st62, ty_cell62, ty_ck62, ty_inf62, ty_eq62, ty_f62_0, ty_f62_1, ty_sz63, ty_st63, ty_cell63, ty_ck63, ty_inf63, ty_eq63, ty_f63_0, ty_f63_1, ty_sz69, ty_st69, ty_cell69, ty_ck69, ty_inf69, ty_eq69, ty_f69_0, ty_f69_1, ty_f69_2, ty_f69_3, ty_sz73, ty_st73, ty_cell73, ty_ck73, ty_inf73, ty_eq73, ty_f73_0, ty_f73_1, ty_f73_2, ty_f73_3, ty_f73_4, ty_f73_5, ty_f73_6, ty_f73_7, ty_f73_8, ty_sz88, ty_st88, ty_cell88, ty_ck88, ty_inf88, ty_eq88, ty_f88_0, ty_f88_1, ty_f88_2, ty_sz89, ty_st89, ty_cell89, ty_ck89, ty_inf89, ty_eq89, ty_f89_0, ty_f89_1, ty_f89_2, ty_sz112, ty_st112, ty_cell112, ty_ck112, ty_inf112, ty_eq112, ty_f112_0, ty_f112_1, ty_sz113, ty_st113, ty_cell113, ty_ck113, ty_inf113, ty_eq113, ty_f113_0, ty_f113_1, ty_sz119, ty_st119, ty_cell119, ty_ck119, ty_inf119, ty_eq119, ty_f119_0, ty_f119_1, ty_sz121, ty_st121, ty_cell121, ty_ck121, ty_inf121, ty_eq121, ty_f121_0, ty_f121_1, ty_f121_2, ty_sz132, ty_st132, ty_cell132, ty_ck132, ty_inf132, ty_sz141, ty_st141, ty_cell141, ty_ck141, ty_inf141, Try.underlying2, Try.underlying3, Try.underlying4, Try.underlying5, Try.underlying9, Try.underlying12, Try.underlying21, Try.underlying22, Try.underlying23, Try.underlying24, Try.underlying25, Try.underlying26, Try.underlying35, Try.underlying36, Try.underlying39, Try.underlying40, Try.underlying43, Try.underlying49, Try.underlying50, Try.underlying60, Try.underlying61, Try.underlying62, Try.underlying63, Try.underlying69, Try.underlying73, Try.underlying88, Try.underlying89, Try.underlying112, Try.underlying113, Try.underlying119, Try.underlying121, Try.underlying132, Try.underlying141, e_skip, e_label, e_ret, e_exit, e_seq, e_cond, e_block, e_region, seqK_normal, seqK_ret, seqK_exit, blkK_normal, blkK_ret, blkK_exit, condK_some, regK_true, regK_false, e_nil, e_cons, gateK_go, gateK_skip, gateK_ask, pickK_some, exK_some, x_pick, x_move, x_assign, x_alloc, x_box, x_build, x_buildSlice, x_load, x_store, x_binOp, x_unOp, x_convert, x_makeSlice, x_slice, x_fieldAddr, x_field, x_indexAddr, x_extract, x_nilCheck, x_call, x_len, x_append, x_min, oMin, x_copy, oCopy, eqAVs, callK_some, done_ret, done_normal, doneO_ret, doneO_normal, endsO_one, endsO_nil, endsO_more, ownAbs, frzAbs, leafs, leafs.leafsL, uniq, idxOf, bk, zipB, Blk.liveB, gate_none, gate_some, gateS_none, gateS_some, gateV_bool, gateV_undef, boolOf, evA, putT, refn, fpD, oBin, oUn, upsl, upl, up, ups, lk, dstsOf, resL, resA, packA, oLoad, oStore, oAlloc, oBox, oBuild, oBuildSlice, oMake, oAppend, oIndexAddr, oFieldAddr, oField, oExtract, oNil, oSlice, oLen, oConvert, rowLoad, fillA, fillR, dk, dks, dkRows, frz, loOf, hiOf, lenOf, rowsOf, nilV, lenV, putAt, views, viewsOk, CK.av, CK.ok, AV.cells, AV.one, Value.oneCell', Value.cells, pureAbs, nrm, nrm.nrmL, hpAt, sh, AV.ren, AV.ren.renL, Blk.ren, fpOf, footO, foot, blkIds, AV.ids, AV.ids.idsL, Op.operands, Call.operands, List.find?_cons, List.find?_nil, Nat.reduceBEq, beq_self_eq_true, List.map_cons, List.map_nil, List.getD_cons_zero, List.getD_cons_succ, List.getD_nil, List.set_cons_zero, List.set_cons_succ, List.length_cons, List.length_nil, List.replicate, List.cons_append, List.nil_append, List.append_nil, List.getElem?_cons_zero, List.getElem?_cons_succ, List.getElem?_toArray, List.getElem?_nil, List.take_zero, List.take_succ_cons, List.take_nil, List.drop_zero, List.drop_succ_cons, List.drop_nil, List.headD_cons, List.tail_cons, List.flatten_cons, List.flatten_nil, List.flatMap_cons, List.flatMap_nil, List.toList_toArray, Array.toList_append, Option.bind_some, Option.map_some, Option.map_none, Option.isSome_some, List.all_nil, List.all_cons, Bool.and_self, Bool.and_true, Bool.true_and, true_and, and_true, ↓reduceIte, List.size_toArray, Bool.false_eq_true, Bool.true_eq_false, false_implies, true_implies, Bool.not_true, Bool.not_false, and_self, implies_true, decide_true, decide_false, Nat.reduceAdd, Nat.reduceMul, Nat.reduceLT, Nat.reduceSub, Nat.reduceLeDiff, Nat.reduceEqDiff, eq_self, ne_eq, not_false_eq_true, false_and, and_false, reduceCtorEq, List.filter_nil, List.filter_cons, List.isEmpty_nil, List.isEmpty_cons, bne_self_eq_false, Nat.reduceBneDiff, Nat.lt_add_one, Nat.zero_lt_succ, List.append_assoc, Nat.zero_le, and_self_iff, Int.reduceToNat, decide_eq_true_eq, decide_eq_false_iff_not, beq_iff_eq, Int.toNat_natCast]
    have e0 : xs.set 5 (toU8 (((xs.getD 5 0).toNat : Int) - 1)) = ppO xs := rfl
    have e1 : sTurn (numAt xs 10 2) (numAt xs 4 2) (numAt (ppO xs) 4 2) = ppS xs := rfl
    simp only [e0, e1, List.take_length]
    clear e0 e1
    (repeat (refine And.intro ?_ ?_; focus (((repeat' apply And.intro) <;> first | exact rowsOf_w _ | omega | (simp only [List.length_append, rowsOf_len, List.length_cons, List.length_nil, marks_len, List.length_take, List.length_drop, List.length_set]; omega) | exact ⟨_, rfl⟩ | (refine ⟨_, rfl, ?_⟩; omega) | (refine ⟨_, rfl, ?_⟩; simp only [List.length_append, rowsOf_len, List.length_cons, List.length_nil, marks_len, List.length_take, List.length_drop, List.length_set]; omega) | kernel_rfl | (simp; done)); done)))
    by_cases hok : pfOk xs = true
    · have hl2 := pf_len hok
      have eh : pfH xs = ((xs.getD 5 0).toNat : Int) := by rw [pfH, if_pos hok]
      rw [if_pos (by rw [hok]; rfl)]
      by_cases h2 : pfH xs < 2
      · rw [if_pos h2]
        have e : ppOk xs = false := by rw [ppOk, hok, Bool.true_and]; exact decide_eq_false (by omega)
        refine ⟨_, [(0, some 272)], rfl, ?_⟩
        simp only [ppV, e, Bool.false_eq_true, ↓reduceIte, rowsOf_nil]
        (refine ⟨?_, ?_, ?_⟩ <;> simp [packA, hpAt, fitT, fit1, fitH, fitB, emptyB, rn, lk, AV.ren, AV.ren.renL, Blk.ren, blkIds, blkPids, AV.ids, AV.ids.idsL, AV.pids, AV.pids.pidsL, Blk.there])
      · rw [if_neg h2]
        have e : ppOk xs = true := by rw [ppOk, hok, Bool.true_and]; exact decide_eq_true (by omega)
        have hs := ppS_bd hl2.1
        have h5 := bytesOf_two_len hs
        have h6 := ppO_len xs
        (repeat (refine And.intro ?_ ?_; focus (((repeat' apply And.intro) <;> first | exact rowsOf_w _ | omega | (simp only [List.length_append, rowsOf_len, List.length_cons, List.length_nil, marks_len, List.length_take, List.length_drop, List.length_set]; omega) | exact ⟨_, rfl⟩ | (refine ⟨_, rfl, ?_⟩; omega) | (refine ⟨_, rfl, ?_⟩; simp only [List.length_append, rowsOf_len, List.length_cons, List.length_nil, marks_len, List.length_take, List.length_drop, List.length_set]; omega) | kernel_rfl | (simp; done)); done)))
        refine ⟨_, [(0, some 752)], rfl, ?_⟩
        simp only [ppV, e, ↓reduceIte]
        rw [← rowsOf_app, ← rowsOf_app]
        clear hl hok hl2 eh h2 hs h5 h6 e
        (refine ⟨?_, ?_, ?_⟩ <;> simp [packA, hpAt, fitT, fit1, fitH, fitB, emptyB, rn, lk, AV.ren, AV.ren.renL, Blk.ren, blkIds, blkPids, AV.ids, AV.ids.idsL, AV.pids, AV.pids.pidsL, Blk.there])
    · rw [Bool.not_eq_true] at hok
      rw [if_neg (by rw [hok]; decide)]
      have e : ppOk xs = false := by rw [ppOk, hok, Bool.false_and]
      refine ⟨_, [(0, some 272)], rfl, ?_⟩
      simp only [ppV, e, Bool.false_eq_true, ↓reduceIte, rowsOf_nil]
      (refine ⟨?_, ?_, ?_⟩ <;> simp [packA, hpAt, fitT, fit1, fitH, fitB, emptyB, rn, lk, AV.ren, AV.ren.renL, Blk.ren, blkIds, blkPids, AV.ids, AV.ids.idsL, AV.pids, AV.pids.pidsL, Blk.there])
  · cases hg
set_option maxRecDepth 100000 in
theorem implPacketPassed_ok : PureOk Try.prog 40 g_packetPassed := by
  refine PureOk.of_vc (G := pk7) pk7_ok mixed Try.func40 (by kernel_rfl) rfl ?_
  intro args cnd r bs hg hc
  unfold g_packetPassed at hg
  split at hg
  · rename_i sz rows
    cases hg
    obtain ⟨xs, rfl, hl⟩ := hc
    rw [bytesOf_rows]
    refine ⟨⟨rfl, by simpa [flatB] using rowsOf_flat (ppV xs), by simp [AV.ids, AV.ids.idsL]⟩, [.l 1 (rowsOfBytes xs)], rfl, fun w vs h => CvL.ok (.cons (.l _ _ _ (rowsOf_w xs)) .nil) h, ?_⟩
    simp (maxSteps := 3000000) only [Try.f40, pk7, g_packetFrom, g_numberAt, g_sumTurned, g_bytesCopied, g_bytesOf, bytesOf_rows, rowsOf_len, rowsOf_take, rowsOf_drop, row_toI, row_nil, row_head, rows_set, ty_sz2, ty_st2, ty_cell2, ty_ck2, ty_inf2, ty_sz3, ty_st3, ty_cell3, ty_ck3, ty_inf3, ty_sz4, ty_st4, ty_cell4, ty_ck4, ty_inf4, ty_sz5, ty_st5, ty_cell5, ty_ck5, ty_inf5, ty_sz9, ty_st9, ty_cell9, ty_ck9, ty_inf9, ty_sz12, ty_st12, ty_cell12, ty_ck12, ty_inf12, ty_sz21, ty_st21, ty_cell21, ty_ck21, ty_inf21, ty_sz22, ty_st22, ty_cell22, ty_ck22, ty_inf22, ty_sz23, ty_st23, ty_cell23, ty_ck23, ty_inf23, ty_sz24, ty_st24, ty_cell24, ty_ck24, ty_inf24, ty_sz25, ty_st25, ty_cell25, ty_ck25, ty_inf25, ty_eq25, ty_f25_0, ty_f25_1, ty_sz26, ty_st26, ty_cell26, ty_ck26, ty_inf26, ty_eq26, ty_f26_0, ty_f26_1, ty_sz35, ty_st35, ty_cell35, ty_ck35, ty_inf35, ty_eq35, ty_f35_0, ty_f35_1, ty_sz36, ty_st36, ty_cell36, ty_ck36, ty_inf36, ty_eq36, ty_f36_0, ty_f36_1, ty_sz39, ty_st39, ty_cell39, ty_ck39, ty_inf39, ty_eq39, ty_f39_0, ty_f39_1, ty_f39_2, ty_f39_3, ty_sz40, ty_st40, ty_cell40, ty_ck40, ty_inf40, ty_eq40, ty_f40_0, ty_f40_1, ty_f40_2, ty_f40_3, ty_sz43, ty_st43, ty_cell43, ty_ck43, ty_inf43, ty_sz49, ty_st49, ty_cell49, ty_ck49, ty_inf49, ty_eq49, ty_f49_0, ty_f49_1, ty_f49_2, ty_f49_3, ty_f49_4, ty_f49_5, ty_f49_6, ty_f49_7, ty_f49_8, ty_sz50, ty_st50, ty_cell50, ty_ck50, ty_inf50, ty_eq50, ty_f50_0, ty_f50_1, ty_f50_2, ty_f50_3, ty_f50_4, ty_f50_5, ty_f50_6, ty_f50_7, ty_f50_8, ty_sz60, ty_st60, ty_cell60, ty_ck60, ty_inf60, ty_sz61, ty_st61, ty_cell61, ty_ck61, ty_inf61, ty_sz62, ty_st62, ty_cell62, ty_ck62, ty_inf62, ty_eq62, ty_f62_0, ty_f62_1, ty_sz63, ty_st63, ty_cell63, ty_ck63, ty_inf63, ty_eq63, ty_f63_0, ty_f63_1, ty_sz69, ty_st69, ty_cell69, ty_ck69, ty_inf69, ty_eq69, ty_f69_0, ty_f69_1, ty_f69_2, ty_f69_3, ty_sz73, ty_st73, ty_cell73, ty_ck73, ty_inf73, ty_eq73, ty_f73_0, ty_f73_1, ty_f73_2, ty_f73_3, ty_f73_4, ty_f73_5, ty_f73_6, ty_f73_7, ty_f73_8, ty_sz88, ty_st88, ty_cell88, ty_ck88, ty_inf88, ty_eq88, ty_f88_0, ty_f88_1, ty_f88_2, ty_sz89, ty_st89, ty_cell89, ty_ck89, ty_inf89, ty_eq89, ty_f89_0, ty_f89_1, ty_f89_2, ty_sz112, ty_st112, ty_cell112, ty_ck112, ty_inf112, ty_eq112, ty_f112_0, ty_f112_1, ty_sz113, ty_st113, ty_cell113, ty_ck113, ty_inf113, ty_eq113, ty_f113_0, ty_f113_1, ty_sz119, ty_st119, ty_cell119, ty_ck119, ty_inf119, ty_eq119, ty_f119_0, ty_f119_1, ty_sz121, ty_st121, ty_cell121, ty_ck121, ty_inf121, ty_eq121, ty_f121_0, ty_f121_1, ty_f121_2, ty_sz132, ty_st132, ty_cell132, ty_ck132, ty_inf132, ty_sz141, ty_st141, ty_cell141, ty_ck141, ty_inf141, Try.underlying2, Try.underlying3, Try.underlying4, Try.underlying5, Try.underlying9, Try.underlying12, Try.underlying21, Try.underlying22, Try.underlying23, Try.underlying24, Try.underlying25, Try.underlying26, Try.underlying35, Try.underlying36, Try.underlying39, Try.underlying40, Try.underlying43, Try.underlying49, Try.underlying50, Try.underlying60, Try.underlying61, Try.underlying62, Try.underlying63, Try.underlying69, Try.underlying73, Try.underlying88, Try.underlying89, Try.underlying112, Try.underlying113, Try.underlying119, Try.underlying121, Try.underlying132, Try.underlying141, e_skip, e_label, e_ret, e_exit, e_seq, e_cond, e_block, e_region, seqK_normal, seqK_ret, seqK_exit, blkK_normal, blkK_ret, blkK_exit, condK_some, regK_true, regK_false, e_nil, e_cons, gateK_go, gateK_skip, gateK_ask, pickK_some, exK_some, x_pick, x_move, x_assign, x_alloc, x_box, x_build, x_buildSlice, x_load, x_store, x_binOp, x_unOp, x_convert, x_makeSlice, x_slice, x_fieldAddr, x_field, x_indexAddr, x_extract, x_nilCheck, x_call, x_len, x_append, x_min, oMin, x_copy, oCopy, eqAVs, callK_some, done_ret, done_normal, doneO_ret, doneO_normal, endsO_one, endsO_nil, endsO_more, ownAbs, frzAbs, leafs, leafs.leafsL, uniq, idxOf, bk, zipB, Blk.liveB, gate_none, gate_some, gateS_none, gateS_some, gateV_bool, gateV_undef, boolOf, evA, putT, refn, fpD, oBin, oUn, upsl, upl, up, ups, lk, dstsOf, resL, resA, packA, oLoad, oStore, oAlloc, oBox, oBuild, oBuildSlice, oMake, oAppend, oIndexAddr, oFieldAddr, oField, oExtract, oNil, oSlice, oLen, oConvert, rowLoad, fillA, fillR, dk, dks, dkRows, frz, loOf, hiOf, lenOf, rowsOf, nilV, lenV, putAt, views, viewsOk, CK.av, CK.ok, AV.cells, AV.one, Value.oneCell', Value.cells, pureAbs, nrm, nrm.nrmL, hpAt, sh, AV.ren, AV.ren.renL, Blk.ren, fpOf, footO, foot, blkIds, AV.ids, AV.ids.idsL, Op.operands, Call.operands, List.find?_cons, List.find?_nil, Nat.reduceBEq, beq_self_eq_true, List.map_cons, List.map_nil, List.getD_cons_zero, List.getD_cons_succ, List.getD_nil, List.set_cons_zero, List.set_cons_succ, List.length_cons, List.length_nil, List.replicate, List.cons_append, List.nil_append, List.append_nil, List.getElem?_cons_zero, List.getElem?_cons_succ, List.getElem?_toArray, List.getElem?_nil, List.take_zero, List.take_succ_cons, List.take_nil, List.drop_zero, List.drop_succ_cons, List.drop_nil, List.headD_cons, List.tail_cons, List.flatten_cons, List.flatten_nil, List.flatMap_cons, List.flatMap_nil, List.toList_toArray, Array.toList_append, Option.bind_some, Option.map_some, Option.map_none, Option.isSome_some, List.all_nil, List.all_cons, Bool.and_self, Bool.and_true, Bool.true_and, true_and, and_true, ↓reduceIte, List.size_toArray, Bool.false_eq_true, Bool.true_eq_false, false_implies, true_implies, Bool.not_true, Bool.not_false, and_self, implies_true, decide_true, decide_false, Nat.reduceAdd, Nat.reduceMul, Nat.reduceLT, Nat.reduceSub, Nat.reduceLeDiff, Nat.reduceEqDiff, eq_self, ne_eq, not_false_eq_true, false_and, and_false, reduceCtorEq, List.filter_nil, List.filter_cons, List.isEmpty_nil, List.isEmpty_cons, bne_self_eq_false, Nat.reduceBneDiff, Nat.lt_add_one, Nat.zero_lt_succ, List.append_assoc, Nat.zero_le, and_self_iff, Int.reduceToNat, decide_eq_true_eq, decide_eq_false_iff_not, beq_iff_eq, Int.toNat_natCast]
    (repeat (refine And.intro ?_ ?_; focus (((repeat' apply And.intro) <;> first | exact rowsOf_w _ | omega | (simp only [List.length_append, rowsOf_len, List.length_cons, List.length_nil, marks_len, List.length_take, List.length_drop, List.length_set]; omega) | exact ⟨_, rfl⟩ | (refine ⟨_, rfl, ?_⟩; omega) | (refine ⟨_, rfl, ?_⟩; simp only [List.length_append, rowsOf_len, List.length_cons, List.length_nil, marks_len, List.length_take, List.length_drop, List.length_set]; omega) | kernel_rfl | (simp; done)); done)))
    by_cases hok : pfOk xs = true
    · have hl2 := pf_len hok
      have b5 := (xs.getD 5 0).toNat_lt
      have eh : pfH xs = ((xs.getD 5 0).toNat : Int) := by rw [pfH, if_pos hok]
      have w1 : IntKind.i64.wrap (pfH xs - 1) = ((xs.getD 5 0).toNat : Int) - 1 := by rw [eh]; exact wrap_id (by omega) (by omega)
      have e0 : xs.set 5 (toU8 (((xs.getD 5 0).toNat : Int) - 1)) = ppO xs := rfl
      have e1 : sTurn (numAt xs 10 2) (numAt xs 4 2) (numAt (ppO xs) 4 2) = ppS xs := rfl
      rw [if_pos (by rw [hok]; rfl), w1]
      simp only [e0, e1]
      clear e0 e1
      by_cases h2 : pfH xs ≤ 1
      · rw [if_pos h2]
        have e : ppOk xs = false := by rw [ppOk, hok, Bool.true_and]; exact decide_eq_false (by omega)
        refine ⟨_, [(0, none)], rfl, ?_⟩
        simp only [ppV, e, Bool.false_eq_true, ↓reduceIte, rowsOf_nil]
        (refine ⟨?_, ?_, ?_⟩ <;> simp [packA, hpAt, fitT, fit1, fitH, fitB, emptyB, rn, lk, AV.ren, AV.ren.renL, Blk.ren, blkIds, blkPids, AV.ids, AV.ids.idsL, AV.pids, AV.pids.pidsL, Blk.there])
        all_goals rfl
      · rw [if_neg h2]
        have e : ppOk xs = true := by rw [ppOk, hok, Bool.true_and]; exact decide_eq_true (by omega)
        have hs := ppS_bd hl2.1
        have h5 := bytesOf_two_len hs
        have h6 := ppO_len xs
        (repeat (refine And.intro ?_ ?_; focus (((repeat' apply And.intro) <;> first | exact rowsOf_w _ | omega | (simp only [List.length_append, rowsOf_len, List.length_cons, List.length_nil, marks_len, List.length_take, List.length_drop, List.length_set]; omega) | exact ⟨_, rfl⟩ | (refine ⟨_, rfl, ?_⟩; omega) | (refine ⟨_, rfl, ?_⟩; simp only [List.length_append, rowsOf_len, List.length_cons, List.length_nil, marks_len, List.length_take, List.length_drop, List.length_set]; omega) | kernel_rfl | (simp; done)); done)))
        have e2 : 10 + 2 = 12 := rfl
        refine ⟨_, [(0, some 288)], rfl, ?_⟩
        simp only [ppV, e, ↓reduceIte, h5, e2, ppO_drop]
        rw [← rowsOf_app, ← rowsOf_app]
        clear hl hok hl2 eh h2 hs h5 h6 e w1 b5 e2
        (refine ⟨?_, ?_, ?_⟩ <;> simp [packA, hpAt, fitT, fit1, fitH, fitB, emptyB, rn, lk, AV.ren, AV.ren.renL, Blk.ren, blkIds, blkPids, AV.ids, AV.ids.idsL, AV.pids, AV.pids.pidsL, Blk.there])
    · rw [Bool.not_eq_true] at hok
      rw [if_neg (by rw [hok]; decide)]
      have e : ppOk xs = false := by rw [ppOk, hok, Bool.false_and]
      refine ⟨_, [(0, none)], rfl, ?_⟩
      simp only [ppV, e, Bool.false_eq_true, ↓reduceIte, rowsOf_nil]
      (refine ⟨?_, ?_, ?_⟩ <;> simp [packA, hpAt, fitT, fit1, fitH, fitB, emptyB, rn, lk, AV.ren, AV.ren.renL, Blk.ren, blkIds, blkPids, AV.ids, AV.ids.idsL, AV.pids, AV.pids.pidsL, Blk.there])
      all_goals rfl
  · cases hg
end Go.Proofs.Ytdanjfnobanehaa
