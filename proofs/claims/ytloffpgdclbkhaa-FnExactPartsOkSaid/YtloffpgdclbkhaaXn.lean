import Derived.Test.YtloffpgdclbkhaaXm
namespace Go.Proofs.Ytloffpgdclbkhaa
open Go.RowKit
set_option linter.unusedSimpArgs false
set_option linter.unusedVariables false

/-! the exact laws of PartOk and PartsOk -/
def g_part1 : PC := fun args => match args with
  | [.agg [.l _ rows, .v (.int .i64 u)]] => some (∃ ps, rows = pRows ps ∧ pFin ps, .v (.bool true), [])
  | _ => none
def g_parts1 : PC := fun args => match args with
  | [.l _ rows] => some (∃ l, rows = ptRows l ∧ ptFin l, .v (.bool true), [])
  | _ => none
def xpo : List (FuncId × Abs) := [(18, pureAbs g_szPart), (20, pureAbs g_toPart), (22, pureAbs g_eqPart), (19, pureAbs g_partOk), (21, pureAbs g_partOk)]
theorem xpo_ok : ∀ p ∈ xpo, CallOk Try.prog p.1 p.2 := by
  intro p hp
  simp only [xpo, List.mem_cons, List.not_mem_nil, or_false] at hp
  rcases hp with rfl | rfl | rfl | rfl | rfl
  · exact szPart_ok.call
  · exact toPart_ok.call
  · exact eqPart_ok.call
  · exact specPartOk_ok.call
  · exact implPartOk_ok.call
set_option maxRecDepth 100000 in
theorem lawExactPartOk_ok : PureOk Try.prog 4 g_part1 := by
  refine PureOk.of_vc (G := xpo) xpo_ok mixed Try.func4 (by kernel_rfl) rfl ?_
  intro args cnd r bs hg hc
  unfold g_part1 at hg
  split at hg
  · rename_i sz rows u
    cases hg
    obtain ⟨ps, rfl, hf⟩ := hc
    refine ⟨⟨rfl, by simp, by simp [AV.ids, AV.ids.idsL]⟩, [.agg [.l 9 (pRows ps), .v (.int .i64 u)]], rfl, fun w vs h => CvL.ok (.cons (.cons (.l _ _ _ (pRows_w ps)) (.cons (.refl _) .nil)) .nil) h, ?_⟩
    simp (maxSteps := 3000000) only [Try.f4, xpo, g_szPart, g_toPart, g_eqPart, g_partOk, psOf_rows, bne_self_eq_false, and_self, decide_true, tY2, tY3, tY4, tY5, tY9, tY12, tY21, tY22, tY23, tY24, tY26, tY29, tY36, tY37, tY38, tY41, tY42, tY52, tY55, tY93, tY102, Try.underlying2, Try.underlying3, Try.underlying4, Try.underlying5, Try.underlying9, Try.underlying12, Try.underlying21, Try.underlying22, Try.underlying23, Try.underlying24, Try.underlying26, Try.underlying29, Try.underlying36, Try.underlying37, Try.underlying38, Try.underlying41, Try.underlying42, Try.underlying52, Try.underlying55, Try.underlying93, Try.underlying102, e_skip, e_label, e_ret, e_exit, e_seq, e_cond, e_block, e_region, seqK_normal, seqK_ret, seqK_exit, blkK_normal, blkK_ret, blkK_exit, condK_some, regK_true, regK_false, e_nil, e_cons, gateK_go, gateK_skip, gateK_ask, pickK_some, exK_some, x_pick, x_move, x_assign, x_alloc, x_box, x_build, x_buildSlice, x_load, x_store, x_binOp, x_unOp, x_convert, x_makeSlice, x_slice, x_fieldAddr, x_field, x_indexAddr, x_extract, x_nilCheck, x_call, x_len, x_append, x_min, oMin, x_copy, oCopy, eqAVs, callK_some, done_ret, done_normal, doneO_ret, doneO_normal, endsO_one, endsO_nil, endsO_more, ownAbs, frzAbs, leafs, leafs.leafsL, uniq, idxOf, bk, zipB, Blk.liveB, gate_none, gate_some, gateS_none, gateS_some, gateV_bool, gateV_undef, boolOf, evA, putT, refn, fpD, oBin, oUn, upsl, upl, up, ups, lk, dstsOf, resL, resA, packA, oLoadQ, oLoadKid, oStoreQ, oStoreTree, oBuildSliceQ, oBuildTree, oAppendQ, oAppendTree, isTr, isTrP, tkd, tkds, tkRows, ownOf, nodupB, deadL, treeOf, kidAbs, kidBlk, kidRows, TK.isCell, D.toL, oLoad, oStore, oAlloc, oBox, oBuild, oBuildSlice, oMake, oAppend, oIndexAddr, oFieldAddr, oField, oExtract, oNil, oSlice, oLen, oConvert, rowLoad, fillA, fillR, slB, dk, dks, dkRows, frz, loOf, hiOf, lenOf, rowsOf, nilV, lenV, putAt, views, viewsOk, CK.av, CK.ok, AV.cells, AV.one, Value.oneCell', Value.cells, pureAbs, nrm, nrm.nrmL, hpAt, sh, AV.ren, AV.ren.renL, Blk.ren, fpOf, footO, foot, blkIds, AV.ids, AV.ids.idsL, Op.operands, Call.operands, List.find?_cons, List.find?_nil, Nat.reduceBEq, beq_self_eq_true, List.map_cons, List.map_nil, List.getD_cons_zero, List.getD_cons_succ, List.getD_nil, List.set_cons_zero, List.set_cons_succ, List.length_cons, List.length_nil, List.replicate, List.cons_append, List.nil_append, List.append_nil, List.getElem?_cons_zero, List.getElem?_cons_succ, List.getElem?_toArray, List.getElem?_nil, List.take_zero, List.take_succ_cons, List.take_nil, List.drop_zero, List.drop_succ_cons, List.drop_nil, List.headD_cons, List.tail_cons, List.flatten_cons, List.flatten_nil, List.flatMap_cons, List.flatMap_nil, List.toList_toArray, Array.toList_append, Option.bind_some, Option.map_some, Option.map_none, Option.isSome_some, List.all_nil, List.all_cons, Bool.and_self, Bool.and_true, Bool.true_and, true_and, and_true, ↓reduceIte, List.size_toArray, Bool.false_eq_true, Bool.true_eq_false, false_implies, true_implies, Bool.not_true, Bool.not_false, and_self, implies_true, decide_true, decide_false, Nat.reduceAdd, Nat.reduceMul, Nat.reduceLT, Nat.reduceSub, Nat.reduceLeDiff, Nat.reduceEqDiff, eq_self, ne_eq, not_false_eq_true, false_and, and_false, reduceCtorEq, List.filter_nil, List.filter_cons, List.isEmpty_nil, List.isEmpty_cons, bne_self_eq_false, Nat.reduceBneDiff, Nat.lt_add_one, Nat.zero_lt_succ, List.append_assoc, Nat.zero_le, and_self_iff, Int.reduceToNat, List.any_nil, List.any_cons, List.filterMap_nil, List.filterMap_cons, List.contains_nil, List.contains_cons, Bool.or_false, Bool.false_or, Bool.or_true, Bool.true_or, Bool.false_and, Bool.and_false, decide_eq_true_eq, decide_eq_false_iff_not, beq_iff_eq, Int.toNat_natCast]
    have hb := szPS_bd ps 1048576 (by omega)
    refine ⟨⟨by omega, _, rfl, hf⟩, ?_⟩
    by_cases hz : szPS ps 1048576 < 0
    · rw [if_pos hz]
      exact ⟨_, [], rfl, ⟨⟨⟨rfl, rfl, rfl⟩, trivial⟩, trivial, by simp [rn, hpAt]⟩⟩
    · rw [if_neg hz]
      have hm := hb.2.2 (by omega)
      exact ⟨⟨_, rfl, hm⟩, ⟨_, rfl, hm⟩, ⟨_, rfl, hm⟩, ⟨_, rfl, hm⟩, ⟨_, rfl, hm⟩, ⟨_, rfl, hm⟩, by kernel_rfl, _, [], rfl, ⟨⟨⟨rfl, rfl, rfl⟩, trivial⟩, trivial, by simp [rn, hpAt]⟩⟩
  · cases hg
def xps : List (FuncId × Abs) := [(30, pureAbs g_szPartS), (32, pureAbs g_toPartS), (34, pureAbs g_eqPartS), (31, pureAbs g_partsOk), (33, pureAbs g_partsOk)]
theorem xps_ok : ∀ p ∈ xps, CallOk Try.prog p.1 p.2 := by
  intro p hp
  simp only [xps, List.mem_cons, List.not_mem_nil, or_false] at hp
  rcases hp with rfl | rfl | rfl | rfl | rfl
  · exact szPartS_ok.call
  · exact toPartS_ok.call
  · exact eqPartS_ok.call
  · exact specPartsOk_ok.call
  · exact implPartsOk_ok.call
set_option maxRecDepth 100000 in
theorem lawExactPartsOk_ok : PureOk Try.prog 7 g_parts1 := by
  refine PureOk.of_vc (G := xps) xps_ok mixed Try.func7 (by kernel_rfl) rfl ?_
  intro args cnd r bs hg hc
  unfold g_parts1 at hg
  split at hg
  · rename_i sz rows
    cases hg
    obtain ⟨l, rfl, hf⟩ := hc
    refine ⟨⟨rfl, by simp, by simp [AV.ids, AV.ids.idsL]⟩, [.l 2 (ptRows l)], rfl, fun w vs h => CvL.ok (.cons (.l _ _ _ (ptRows_w l)) .nil) h, ?_⟩
    simp (maxSteps := 3000000) only [Try.f7, xps, g_szPartS, g_toPartS, g_eqPartS, g_partsOk, ptsOf_rows, bne_self_eq_false, and_self, decide_true, tY2, tY3, tY4, tY5, tY9, tY12, tY21, tY22, tY23, tY24, tY26, tY29, tY36, tY37, tY38, tY41, tY42, tY52, tY55, tY93, tY102, Try.underlying2, Try.underlying3, Try.underlying4, Try.underlying5, Try.underlying9, Try.underlying12, Try.underlying21, Try.underlying22, Try.underlying23, Try.underlying24, Try.underlying26, Try.underlying29, Try.underlying36, Try.underlying37, Try.underlying38, Try.underlying41, Try.underlying42, Try.underlying52, Try.underlying55, Try.underlying93, Try.underlying102, e_skip, e_label, e_ret, e_exit, e_seq, e_cond, e_block, e_region, seqK_normal, seqK_ret, seqK_exit, blkK_normal, blkK_ret, blkK_exit, condK_some, regK_true, regK_false, e_nil, e_cons, gateK_go, gateK_skip, gateK_ask, pickK_some, exK_some, x_pick, x_move, x_assign, x_alloc, x_box, x_build, x_buildSlice, x_load, x_store, x_binOp, x_unOp, x_convert, x_makeSlice, x_slice, x_fieldAddr, x_field, x_indexAddr, x_extract, x_nilCheck, x_call, x_len, x_append, x_min, oMin, x_copy, oCopy, eqAVs, callK_some, done_ret, done_normal, doneO_ret, doneO_normal, endsO_one, endsO_nil, endsO_more, ownAbs, frzAbs, leafs, leafs.leafsL, uniq, idxOf, bk, zipB, Blk.liveB, gate_none, gate_some, gateS_none, gateS_some, gateV_bool, gateV_undef, boolOf, evA, putT, refn, fpD, oBin, oUn, upsl, upl, up, ups, lk, dstsOf, resL, resA, packA, oLoadQ, oLoadKid, oStoreQ, oStoreTree, oBuildSliceQ, oBuildTree, oAppendQ, oAppendTree, isTr, isTrP, tkd, tkds, tkRows, ownOf, nodupB, deadL, treeOf, kidAbs, kidBlk, kidRows, TK.isCell, D.toL, oLoad, oStore, oAlloc, oBox, oBuild, oBuildSlice, oMake, oAppend, oIndexAddr, oFieldAddr, oField, oExtract, oNil, oSlice, oLen, oConvert, rowLoad, fillA, fillR, slB, dk, dks, dkRows, frz, loOf, hiOf, lenOf, rowsOf, nilV, lenV, putAt, views, viewsOk, CK.av, CK.ok, AV.cells, AV.one, Value.oneCell', Value.cells, pureAbs, nrm, nrm.nrmL, hpAt, sh, AV.ren, AV.ren.renL, Blk.ren, fpOf, footO, foot, blkIds, AV.ids, AV.ids.idsL, Op.operands, Call.operands, List.find?_cons, List.find?_nil, Nat.reduceBEq, beq_self_eq_true, List.map_cons, List.map_nil, List.getD_cons_zero, List.getD_cons_succ, List.getD_nil, List.set_cons_zero, List.set_cons_succ, List.length_cons, List.length_nil, List.replicate, List.cons_append, List.nil_append, List.append_nil, List.getElem?_cons_zero, List.getElem?_cons_succ, List.getElem?_toArray, List.getElem?_nil, List.take_zero, List.take_succ_cons, List.take_nil, List.drop_zero, List.drop_succ_cons, List.drop_nil, List.headD_cons, List.tail_cons, List.flatten_cons, List.flatten_nil, List.flatMap_cons, List.flatMap_nil, List.toList_toArray, Array.toList_append, Option.bind_some, Option.map_some, Option.map_none, Option.isSome_some, List.all_nil, List.all_cons, Bool.and_self, Bool.and_true, Bool.true_and, true_and, and_true, ↓reduceIte, List.size_toArray, Bool.false_eq_true, Bool.true_eq_false, false_implies, true_implies, Bool.not_true, Bool.not_false, and_self, implies_true, decide_true, decide_false, Nat.reduceAdd, Nat.reduceMul, Nat.reduceLT, Nat.reduceSub, Nat.reduceLeDiff, Nat.reduceEqDiff, eq_self, ne_eq, not_false_eq_true, false_and, and_false, reduceCtorEq, List.filter_nil, List.filter_cons, List.isEmpty_nil, List.isEmpty_cons, bne_self_eq_false, Nat.reduceBneDiff, Nat.lt_add_one, Nat.zero_lt_succ, List.append_assoc, Nat.zero_le, and_self_iff, Int.reduceToNat, List.any_nil, List.any_cons, List.filterMap_nil, List.filterMap_cons, List.contains_nil, List.contains_cons, Bool.or_false, Bool.false_or, Bool.or_true, Bool.true_or, Bool.false_and, Bool.and_false, decide_eq_true_eq, decide_eq_false_iff_not, beq_iff_eq, Int.toNat_natCast]
    have hb := szTS_bd l 1048576 (by omega)
    refine ⟨⟨by omega, _, rfl, hf⟩, ?_⟩
    by_cases hz : szTS l 1048576 < 0
    · rw [if_pos hz]
      exact ⟨_, [], rfl, ⟨⟨⟨rfl, rfl, rfl⟩, trivial⟩, trivial, by simp [rn, hpAt]⟩⟩
    · rw [if_neg hz]
      have hm := hb.2.2 (by omega)
      exact ⟨⟨_, rfl, hm⟩, ⟨_, rfl, hm⟩, ⟨_, rfl, hm⟩, ⟨_, rfl, hm⟩, ⟨_, rfl, hm⟩, ⟨_, rfl, hm⟩, _, [], rfl, ⟨⟨⟨rfl, rfl, rfl⟩, trivial⟩, trivial, by simp [rn, hpAt]⟩⟩
  · cases hg

/-! what is handed in as parts -/
theorem wt_pk {d : D} (h : WT (.sl packetKinds) d) : ∃ ps, d = .l 9 (pRows ps) ∧ pFin ps := by
  obtain ⟨rows, rfl, hn, hr⟩ := wt_row h
  obtain ⟨ps, h1, h2⟩ := map_of pRow (fun x => x.d.length ≤ 9223372036854775807) rows fun r hm => by
    obtain ⟨h1, h2⟩ := hr r hm
    match r, h1 with
    | [x0, x1, x2, x3, x4, x5, x6, x7, x8], _ =>
      obtain ⟨f, rfl, _⟩ := wt_int (h2 0 _ x0 rfl rfl)
      obtain ⟨t, rfl, _⟩ := wt_int (h2 1 _ x1 rfl rfl)
      obtain ⟨p, rfl, _⟩ := wt_int (h2 2 _ x2 rfl rfl)
      obtain ⟨h, rfl, _⟩ := wt_int (h2 3 _ x3 rfl rfl)
      obtain ⟨i, rfl, _⟩ := wt_int (h2 4 _ x4 rfl rfl)
      obtain ⟨a, rfl, _⟩ := wt_int (h2 5 _ x5 rfl rfl)
      obtain ⟨m, rfl⟩ := wt_bool (h2 6 _ x6 rfl rfl)
      obtain ⟨u, rfl⟩ := wt_bool (h2 7 _ x7 rfl rfl)
      obtain ⟨xs, rfl, hx⟩ := wt_bytes (h2 8 _ x8 rfl rfl)
      exact ⟨⟨f, t, p, h, i, a, m, u, xs⟩, rfl, Nat.le_trans hx (by decide)⟩
  refine ⟨ps, by rw [h1]; rfl, ?_, h2⟩
  rw [h1, List.length_map] at hn
  exact Nat.le_trans hn (by decide)
def partKinds : List KD := [.sl packetKinds, .int .i64]
theorem wt_pt {d : D} (h : WT (.sl partKinds) d) : ∃ l, d = .l 2 (ptRows l) ∧ ptFin l := by
  obtain ⟨rows, rfl, hn, hr⟩ := wt_row h
  obtain ⟨l, h1, h2⟩ := map_of ptRow (fun x => pFin x.ps) rows fun r hm => by
    obtain ⟨h1, h2⟩ := hr r hm
    match r, h1 with
    | [x, y], _ =>
      obtain ⟨ps, rfl, hp⟩ := wt_pk (h2 0 _ x rfl rfl)
      obtain ⟨u, rfl, _⟩ := wt_int (h2 1 _ y rfl rfl)
      exact ⟨⟨ps, u⟩, rfl, hp⟩
  refine ⟨l, by rw [h1]; rfl, ?_, h2⟩
  rw [h1, List.length_map] at hn
  exact Nat.le_trans hn (by decide)
theorem part_in {w : World} {ds : List D} {cs : Array Value} (H : Reads w partKinds ds cs.toList) : ∃ ps u, AVR w (Zold w) (fun _ => .none) (fun _ => nilS) (.agg [.l 9 (pRows ps), .v (.int .i64 u)]) (.agg cs) ∧ pFin ps := by
  obtain ⟨h1, h2, h3, h4⟩ := H
  obtain ⟨cs⟩ := cs
  match ds, h1, cs, h2 with
  | [x, y], _, [u, v], _ =>
    obtain ⟨ps, rfl, hp⟩ := wt_pk (h3 0 _ x rfl rfl)
    obtain ⟨n, rfl, _⟩ := wt_int (h3 1 _ y rfl rfl)
    exact ⟨ps, n, avr_agg (xs := [u, v]) (arel_cons (.l _ _ _ (h4 0 _ u rfl rfl)) (arel_cons (avr_rep (h4 1 _ v rfl rfl)) arel_nil)), hp⟩
def partSKinds : List KD := [.sl partKinds]
theorem parts_in {w : World} {ds : List D} {c : Value} (H : Reads w partSKinds ds [c]) : ∃ l, AVR w (Zold w) (fun _ => .none) (fun _ => nilS) (.l 2 (ptRows l)) c ∧ ptFin l := by
  obtain ⟨h1, h2, h3, h4⟩ := H
  match ds, h1 with
  | [x], _ =>
    obtain ⟨l, rfl, hp⟩ := wt_pt (h3 0 _ x rfl rfl)
    exact ⟨l, .l _ _ _ (h4 0 _ c rfl rfl), hp⟩
theorem walk_ExactPartOk (cs : Array Value) (ds : List D) (w : World) (H : Reads w partKinds ds cs.toList) :
    Calls Try.prog 4 #[.agg cs] w fun e w' => e = .returned (.bool true) ∧ Below w.heap.size w w' := by
  obtain ⟨ps, u, hr, hf⟩ := part_in H
  exact lawExactPartOk_ok.walk (vs := [_]) (arel_cons hr arel_nil) rfl ⟨_, rfl, hf⟩
theorem walk_ExactPartsOk (c : Value) (ds : List D) (w : World) (H : Reads w partSKinds ds [c]) :
    Calls Try.prog 7 #[c] w fun e w' => e = .returned (.bool true) ∧ Below w.heap.size w w' := by
  obtain ⟨l, hr, hf⟩ := parts_in H
  exact lawExactPartsOk_ok.walk (vs := [_]) (arel_cons hr arel_nil) rfl ⟨_, rfl, hf⟩
end Go.Proofs.Ytloffpgdclbkhaa
