import Derived.Test.YtdanjfnobanehaaTa
import Derived.Test.YtdanjfnobanehaaSh
import Derived.Test.YtdanjfnobanehaaLw
namespace Go.Proofs.Ytdanjfnobanehaa
open Go.RowKit
set_option linter.unusedSimpArgs false

/-! old contracts of numbers, told of the plain machine -/
def g_numberAt : PC := fun args => match args with
  | [.l _ rows, .v (.int .i64 a), .v (.int .i64 n)] => some (∃ xs, rows = rowsOfBytes xs ∧ xs.length ≤ 140737488355328, .v (.int .i64 (numAt (bytesOfRows rows) a n)), [])
  | _ => none
theorem arg_lii {w : World} {sz : Nat} {rows : List (List D)} {a b : Value} {vs : List Value} (h : ARel w (Zold w) (fun _ => .none) (fun _ => nilS) [.l sz rows, .v a, .v b] vs) : ∃ u, vs = [u, a, b] ∧ Rep w (Zold w) (.l sz rows) u := by
  obtain ⟨hl, hr⟩ := h
  match vs, hl, hr with
  | [u, x, y], _, hr =>
    have h1 := hr 0 _ u rfl rfl
    have h2 := hr 1 _ x rfl rfl
    have h3 := hr 2 _ y rfl rfl
    cases h1 with
    | l _ _ _ h1 =>
      cases h2
      cases h3
      exact ⟨u, rfl, h1⟩
theorem implNumberAt_ok : PureOk Try.prog 98 g_numberAt := by
  refine PureOk.of_calls ⟨_, _, Try.func98, by kernel_rfl, rfl⟩ fun w args vs c r bs hargs hg hc => ?_
  unfold g_numberAt at hg
  split at hg
  · cases hg
    obtain ⟨xs, rfl, hl⟩ := hc
    obtain ⟨u, rfl, h1⟩ := arg_lii hargs
    obtain ⟨A, n, c, rfl, hx, _⟩ := rd_of_rep h1
    rw [bytesOf_rows]
    refine ⟨_, rfl, rfl, (numberAt_any A n c _ xs _ _ w hx (by have := rd_len hx; omega)).mono ?_⟩
    rintro e w' ⟨rfl, rfl⟩
    exact ⟨rfl, Below.refl _ _⟩
  · cases hg
theorem specNumberAt_ok : PureOk Try.prog 94 g_numberAt := by
  refine PureOk.of_calls ⟨_, _, Try.func94, by kernel_rfl, rfl⟩ fun w args vs c r bs hargs hg hc => ?_
  unfold g_numberAt at hg
  split at hg
  · cases hg
    obtain ⟨xs, rfl, hl⟩ := hc
    obtain ⟨u, rfl, h1⟩ := arg_lii hargs
    obtain ⟨A, n, c, rfl, hx, _⟩ := rd_of_rep h1
    rw [bytesOf_rows]
    refine ⟨_, rfl, rfl, (numberAtS_any A n c _ xs _ _ w hx (by have := rd_len hx; omega)).mono ?_⟩
    rintro e w' ⟨rfl, rfl⟩
    exact ⟨rfl, Below.refl _ _⟩
  · cases hg

/-! chapter 3: queries as bytes -/
def qbV (k l a w : Int) : List UInt8 := if qB k l a w = true then [toU8 k, toU8 l] ++ bytesOf a 2 ++ bytesOf w 2 else []
def g_queryBytes : PC := fun args => match args with
  | [.agg [.v (.int .i64 k), .v (.int .i64 l), .v (.int .i64 a), .v (.int .i64 w)]] => some (True, .own 0, [.sl 5 1 (rowsOfBytes (qbV k l a w))])
  | _ => none
/-- the query that bytes tell, or none -/
def qfOk (xs : List UInt8) : Bool := decide (xs.length = 6) && qB ((xs.getD 0 0).toNat : Int) ((xs.getD 1 0).toNat : Int) (numAt xs 2 2) (numAt xs 4 2)
def qfK (xs : List UInt8) : Int := if qfOk xs = true then ((xs.getD 0 0).toNat : Int) else 0
def qfL (xs : List UInt8) : Int := if qfOk xs = true then ((xs.getD 1 0).toNat : Int) else 0
def qfA (xs : List UInt8) : Int := if qfOk xs = true then numAt xs 2 2 else 0
def qfW (xs : List UInt8) : Int := if qfOk xs = true then numAt xs 4 2 else 0
def g_queryFrom : PC := fun args => match args with
  | [.l _ rows] => some (∃ xs, rows = rowsOfBytes xs ∧ xs.length ≤ 140737488355328, .tup [.agg [.v (.int .i64 (qfK (bytesOfRows rows))), .v (.int .i64 (qfL (bytesOfRows rows))), .v (.int .i64 (qfA (bytesOfRows rows))), .v (.int .i64 (qfW (bytesOfRows rows)))], .v (.bool (qfOk (bytesOfRows rows)))], [])
  | _ => none
/-- is a query answered -/
def ntB (link addr k l a w : Int) : Bool := qB k l a w && decide (k = 1 ∧ w = addr) && qB 2 link addr a
def g_nearTells : PC := fun args => match args with
  | [.v (.int .i64 link), .v (.int .i64 addr), .agg [.v (.int .i64 k), .v (.int .i64 l), .v (.int .i64 a), .v (.int .i64 w)]] => some (True, .tup [.agg [.v (.int .i64 (if ntB link addr k l a w = true then 2 else 0)), .v (.int .i64 (if ntB link addr k l a w = true then link else 0)), .v (.int .i64 (if ntB link addr k l a w = true then addr else 0)), .v (.int .i64 (if ntB link addr k l a w = true then a else 0))], .v (.bool (ntB link addr k l a w))], [])
  | _ => none
def qbs : List (FuncId × Abs) := [(27, pureAbs g_queryOk), (81, pureAbs g_queryOk), (75, pureAbs g_bytesOf), (89, pureAbs g_bytesOf), (98, pureAbs g_numberAt), (94, pureAbs g_numberAt)]
theorem qbs_ok : ∀ p ∈ qbs, CallOk Try.prog p.1 p.2 := by
  intro p hp
  simp only [qbs, List.mem_cons, List.not_mem_nil, or_false] at hp
  rcases hp with rfl | rfl | rfl | rfl | rfl | rfl
  · exact implQueryOk_ok.call
  · exact specQueryOk_ok.call
  · exact implBytesOf_ok.call
  · exact specBytesOf_ok.call
  · exact implNumberAt_ok.call
  · exact specNumberAt_ok.call
theorem qbV_yes {k l a w : Int} (h : qB k l a w = true) : rowsOfBytes (qbV k l a w) = [D.v (Value.int IntKind.u8 (IntKind.u8.wrap k))] :: [D.v (Value.int IntKind.u8 (IntKind.u8.wrap l))] :: (rowsOfBytes (bytesOf a 2) ++ rowsOfBytes (bytesOf w 2)) := by
  rw [qbV, if_pos h, ← rowsOf_app, ← rowsOf_app]
  simp [rowsOfBytes, toU8_val]
theorem qbV_no {k l a w : Int} (h : ¬ qB k l a w = true) : rowsOfBytes (qbV k l a w) = [] := by rw [qbV, if_neg h]; rfl
/-! bytes copied -/
def g_bytesCopied : PC := fun args => match args with
  | [.l _ rows] => some (∃ xs, rows = rowsOfBytes xs ∧ xs.length ≤ 1048576, .own 0, [.sl 5 1 rows])
  | _ => none
set_option maxRecDepth 100000 in
theorem bytesCopied_ok : PureOk Try.prog 96 g_bytesCopied := by
  refine PureOk.of_vc (G := []) (by simp) mixed Try.func96 (by kernel_rfl) rfl ?_
  intro args cnd r bs hg hc
  unfold g_bytesCopied at hg
  split at hg
  · rename_i sz rows
    cases hg
    obtain ⟨xs, rfl, hl⟩ := hc
    refine ⟨⟨rfl, by simpa [flatB] using rowsOf_flat xs, by simp [AV.ids, AV.ids.idsL]⟩, [.l 1 (rowsOfBytes xs)], rfl, fun w vs h => CvL.ok (.cons (.l _ _ _ (rowsOf_w xs)) .nil) h, ?_⟩
    simp (maxSteps := 3000000) only [Try.f96, rowsOf_len, List.length_replicate, ty_sz2, ty_st2, ty_cell2, ty_ck2, ty_inf2, ty_sz3, ty_st3, ty_cell3, ty_ck3, ty_inf3, ty_sz4, ty_st4, ty_cell4, ty_ck4, ty_inf4, ty_sz5, ty_st5, ty_cell5, ty_ck5, ty_inf5, ty_sz9, ty_st9, ty_cell9, ty_ck9, ty_inf9, ty_sz12, ty_st12, ty_cell12, ty_ck12, ty_inf12, ty_sz21, ty_st21, ty_cell21, ty_ck21, ty_inf21, ty_sz22, ty_st22, ty_cell22, ty_ck22, ty_inf22, ty_sz23, ty_st23, ty_cell23, ty_ck23, ty_inf23, ty_sz24, ty_st24, ty_cell24, ty_ck24, ty_inf24, ty_sz25, ty_st25, ty_cell25, ty_ck25, ty_inf25, ty_eq25, ty_f25_0, ty_f25_1, ty_sz26, ty_st26, ty_cell26, ty_ck26, ty_inf26, ty_eq26, ty_f26_0, ty_f26_1, ty_sz35, ty_st35, ty_cell35, ty_ck35, ty_inf35, ty_eq35, ty_f35_0, ty_f35_1, ty_sz36, ty_st36, ty_cell36, ty_ck36, ty_inf36, ty_eq36, ty_f36_0, ty_f36_1, ty_sz39, ty_st39, ty_cell39, ty_ck39, ty_inf39, ty_eq39, ty_f39_0, ty_f39_1, ty_f39_2, ty_f39_3, ty_sz40, ty_st40, ty_cell40, ty_ck40, ty_inf40, ty_eq40, ty_f40_0, ty_f40_1, ty_f40_2, ty_f40_3, ty_sz43, ty_st43, ty_cell43, ty_ck43, ty_inf43, ty_sz49, ty_st49, ty_cell49, ty_ck49, ty_inf49, ty_eq49, ty_f49_0, ty_f49_1, ty_f49_2, ty_f49_3, ty_f49_4, ty_f49_5, ty_f49_6, ty_f49_7, ty_f49_8, ty_sz50, ty_st50, ty_cell50, ty_ck50, ty_inf50, ty_eq50, ty_f50_0, ty_f50_1, ty_f50_2, ty_f50_3, ty_f50_4, ty_f50_5, ty_f50_6, ty_f50_7, ty_f50_8, ty_sz60, ty_st60, ty_cell60, ty_ck60, ty_inf60, ty_sz61, ty_st61, ty_cell61, ty_ck61, ty_inf61, ty_sz62, ty_st62, ty_cell62, ty_ck62, ty_inf62, ty_eq62, ty_f62_0, ty_f62_1, ty_sz63, ty_st63, ty_cell63, ty_ck63, ty_inf63, ty_eq63, ty_f63_0, ty_f63_1, ty_sz69, ty_st69, ty_cell69, ty_ck69, ty_inf69, ty_eq69, ty_f69_0, ty_f69_1, ty_f69_2, ty_f69_3, ty_sz73, ty_st73, ty_cell73, ty_ck73, ty_inf73, ty_eq73, ty_f73_0, ty_f73_1, ty_f73_2, ty_f73_3, ty_f73_4, ty_f73_5, ty_f73_6, ty_f73_7, ty_f73_8, ty_sz88, ty_st88, ty_cell88, ty_ck88, ty_inf88, ty_eq88, ty_f88_0, ty_f88_1, ty_f88_2, ty_sz89, ty_st89, ty_cell89, ty_ck89, ty_inf89, ty_eq89, ty_f89_0, ty_f89_1, ty_f89_2, ty_sz112, ty_st112, ty_cell112, ty_ck112, ty_inf112, ty_eq112, ty_f112_0, ty_f112_1, ty_sz113, ty_st113, ty_cell113, ty_ck113, ty_inf113, ty_eq113, ty_f113_0, ty_f113_1, ty_sz119, ty_st119, ty_cell119, ty_ck119, ty_inf119, ty_eq119, ty_f119_0, ty_f119_1, ty_sz121, ty_st121, ty_cell121, ty_ck121, ty_inf121, ty_eq121, ty_f121_0, ty_f121_1, ty_f121_2, ty_sz132, ty_st132, ty_cell132, ty_ck132, ty_inf132, ty_sz141, ty_st141, ty_cell141, ty_ck141, ty_inf141, Try.underlying2, Try.underlying3, Try.underlying4, Try.underlying5, Try.underlying9, Try.underlying12, Try.underlying21, Try.underlying22, Try.underlying23, Try.underlying24, Try.underlying25, Try.underlying26, Try.underlying35, Try.underlying36, Try.underlying39, Try.underlying40, Try.underlying43, Try.underlying49, Try.underlying50, Try.underlying60, Try.underlying61, Try.underlying62, Try.underlying63, Try.underlying69, Try.underlying73, Try.underlying88, Try.underlying89, Try.underlying112, Try.underlying113, Try.underlying119, Try.underlying121, Try.underlying132, Try.underlying141, e_skip, e_label, e_ret, e_exit, e_seq, e_cond, e_block, e_region, seqK_normal, seqK_ret, seqK_exit, blkK_normal, blkK_ret, blkK_exit, condK_some, regK_true, regK_false, e_nil, e_cons, gateK_go, gateK_skip, gateK_ask, pickK_some, exK_some, x_pick, x_move, x_assign, x_alloc, x_box, x_build, x_buildSlice, x_load, x_store, x_binOp, x_unOp, x_convert, x_makeSlice, x_slice, x_fieldAddr, x_field, x_indexAddr, x_extract, x_nilCheck, x_call, x_len, x_append, x_min, oMin, x_copy, oCopy, eqAVs, callK_some, done_ret, done_normal, doneO_ret, doneO_normal, endsO_one, endsO_nil, endsO_more, ownAbs, frzAbs, leafs, leafs.leafsL, uniq, idxOf, bk, zipB, Blk.liveB, gate_none, gate_some, gateS_none, gateS_some, gateV_bool, gateV_undef, boolOf, evA, putT, refn, fpD, oBin, oUn, upsl, upl, up, ups, lk, dstsOf, resL, resA, packA, oLoad, oStore, oAlloc, oBox, oBuild, oBuildSlice, oMake, oAppend, oIndexAddr, oFieldAddr, oField, oExtract, oNil, oSlice, oLen, oConvert, rowLoad, fillA, fillR, dk, dks, dkRows, frz, loOf, hiOf, lenOf, rowsOf, nilV, lenV, putAt, views, viewsOk, CK.av, CK.ok, AV.cells, AV.one, Value.oneCell', Value.cells, pureAbs, nrm, nrm.nrmL, hpAt, sh, AV.ren, AV.ren.renL, Blk.ren, fpOf, footO, foot, blkIds, AV.ids, AV.ids.idsL, Op.operands, Call.operands, List.find?_cons, List.find?_nil, Nat.reduceBEq, beq_self_eq_true, List.map_cons, List.map_nil, List.getD_cons_zero, List.getD_cons_succ, List.getD_nil, List.set_cons_zero, List.set_cons_succ, List.length_cons, List.length_nil, List.replicate, List.cons_append, List.nil_append, List.append_nil, List.getElem?_cons_zero, List.getElem?_cons_succ, List.getElem?_toArray, List.getElem?_nil, List.take_zero, List.take_succ_cons, List.take_nil, List.drop_zero, List.drop_succ_cons, List.drop_nil, List.headD_cons, List.tail_cons, List.flatten_cons, List.flatten_nil, List.flatMap_cons, List.flatMap_nil, List.toList_toArray, Array.toList_append, Option.bind_some, Option.map_some, Option.map_none, Option.isSome_some, List.all_nil, List.all_cons, Bool.and_self, Bool.and_true, Bool.true_and, true_and, and_true, ↓reduceIte, List.size_toArray, Bool.false_eq_true, Bool.true_eq_false, false_implies, true_implies, Bool.not_true, Bool.not_false, and_self, implies_true, decide_true, decide_false, Nat.reduceAdd, Nat.reduceMul, Nat.reduceLT, Nat.reduceSub, Nat.reduceLeDiff, Nat.reduceEqDiff, eq_self, ne_eq, not_false_eq_true, false_and, and_false, reduceCtorEq, List.filter_nil, List.filter_cons, List.isEmpty_nil, List.isEmpty_cons, bne_self_eq_false, Nat.reduceBneDiff, Nat.lt_add_one, Nat.zero_lt_succ, List.append_assoc, Nat.zero_le, and_self_iff, Int.reduceToNat, decide_eq_true_eq, decide_eq_false_iff_not, beq_iff_eq, Int.toNat_natCast]
    refine ⟨by omega, rowsOf_w _, _, [(0, some 48)], rfl, ?_⟩
    (refine ⟨?_, ?_, ?_⟩ <;> simp [packA, hpAt, fitT, fit1, fitH, fitB, emptyB, rn, lk, AV.ren, AV.ren.renL, Blk.ren, blkIds, blkPids, AV.ids, AV.ids.idsL, AV.pids, AV.pids.pidsL, Blk.there])
  · cases hg
end Go.Proofs.Ytdanjfnobanehaa
