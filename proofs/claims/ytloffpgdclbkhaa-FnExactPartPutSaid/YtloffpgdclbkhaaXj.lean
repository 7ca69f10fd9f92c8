import Derived.Test.YtloffpgdclbkhaaXf
import Derived.Test.YtloffpgdclbkhaaVd
import Derived.Test.YtloffpgdclbkhaaTp
namespace Go.Proofs.Ytloffpgdclbkhaa
open Go.RowKit
set_option linter.unusedSimpArgs false
set_option linter.unusedVariables false

/-! the helpers of the exact laws, over pieces and parts -/
def szF {α : Type} (f : α → Int → Int) : List α → Int → Int
  | [], l => l
  | x :: t, l => if f x l < 0 then -1 else szF f t (f x l)
theorem szF_bd {α : Type} {f : α → Int → Int} {P : α → Prop} : ∀ (xs : List α), (∀ x ∈ xs, ∀ l, 0 ≤ l ∧ l ≤ 1048576 → -1 ≤ f x l ∧ f x l ≤ 1048576 ∧ (0 ≤ f x l → P x)) → ∀ l, 0 ≤ l ∧ l ≤ 1048576 → -1 ≤ szF f xs l ∧ szF f xs l ≤ 1048576 ∧ (0 ≤ szF f xs l → ∀ x ∈ xs, P x)
  | [], _, l, hl => ⟨by simp [szF]; omega, by simp [szF]; omega, fun _ x hx => by cases hx⟩
  | x :: t, hf, l, hl => by
    obtain ⟨b1, b2, b3⟩ := hf x (List.mem_cons_self ..) l hl
    simp only [szF]
    split
    · exact ⟨by omega, by omega, fun h => by omega⟩
    · obtain ⟨h1, h2, h3⟩ := szF_bd t (fun y hy => hf y (List.mem_cons_of_mem _ hy)) (f x l) (by omega)
      refine ⟨h1, h2, fun h0 y hy => ?_⟩
      rcases List.mem_cons.1 hy with rfl | hy
      · exact b3 (by omega)
      · exact h3 h0 y hy
def szP (x : Pk) (l : Int) : Int := szLeft l x.d.length
def szPS (ps : List Pk) (l : Int) : Int := if szLeft l ps.length < 0 then -1 else szF szP ps (szLeft l ps.length)
def szT (x : Pt) (l : Int) : Int := szPS x.ps l
def szTS (xs : List Pt) (l : Int) : Int := if szLeft l xs.length < 0 then -1 else szF szT xs (szLeft l xs.length)
def pFin (ps : List Pk) : Prop := ps.length ≤ 9223372036854775807 ∧ ∀ x ∈ ps, x.d.length ≤ 9223372036854775807
def ptFin (l : List Pt) : Prop := l.length ≤ 9223372036854775807 ∧ ∀ x ∈ l, pFin x.ps
theorem szPS_bd (ps : List Pk) (l : Int) (hl : 0 ≤ l ∧ l ≤ 1048576) : -1 ≤ szPS ps l ∧ szPS ps l ≤ 1048576 ∧ (0 ≤ szPS ps l → pMid ps) := by
  have hb := szLeft_bd (n := ps.length) hl
  unfold szPS
  split
  · exact ⟨by omega, by omega, fun h => by omega⟩
  · obtain ⟨h1, h2, h3⟩ := szF_bd (f := szP) (P := fun x => x.d.length ≤ 1048576) ps (fun x _ l hl => by
      have := szLeft_bd (n := x.d.length) hl
      simp only [szP]
      omega) (szLeft l ps.length) (by omega)
    exact ⟨h1, h2, fun h0 => ⟨by omega, h3 h0⟩⟩
def g_szPacketS : PC := fun args => match args with
  | [.l _ rows, .v (.int .i64 l)] => some ((0 ≤ l ∧ l ≤ 1048576) ∧ ∃ ps, rows = pRows ps ∧ pFin ps, .v (.int .i64 (szPS (psOf rows) l)), [])
  | _ => none
def g_szPart : PC := fun args => match args with
  | [.agg [.l _ rows, .v (.int .i64 u)], .v (.int .i64 l)] => some ((0 ≤ l ∧ l ≤ 1048576) ∧ ∃ ps, rows = pRows ps ∧ pFin ps, .v (.int .i64 (szPS (psOf rows) l)), [])
  | _ => none
def g_szPartS : PC := fun args => match args with
  | [.l _ rows, .v (.int .i64 l)] => some ((0 ≤ l ∧ l ≤ 1048576) ∧ ∃ xs, rows = ptRows xs ∧ ptFin xs, .v (.int .i64 (szTS (ptsOf rows) l)), [])
  | _ => none
def zps : List (FuncId × Abs) := [(9, pureAbs g_szPacket)]
theorem zps_ok : ∀ p ∈ zps, CallOk Try.prog p.1 p.2 := by
  intro p hp
  simp only [zps, List.mem_cons, List.not_mem_nil, or_false] at hp
  rcases hp with rfl
  · exact szPacket_ok.call
set_option maxRecDepth 100000 in
theorem szPacketS_ok : PureOk Try.prog 50 g_szPacketS := by
  refine PureOk.of_vc (G := zps) zps_ok mixed Try.func50 (by kernel_rfl) rfl ?_
  intro args cnd r bs hg hc
  unfold g_szPacketS at hg
  split at hg
  · rename_i sz rows l0
    cases hg
    obtain ⟨hl, ps, rfl, hf1, hf2⟩ := hc
    rw [psOf_rows]
    have hb := szLeft_bd (n := ps.length) hl
    have e0 := szLeft_eq hl hf1
    have w0 : IntKind.i64.wrap (l0 - (ps.length : Int)) = l0 - (ps.length : Int) := wrap_id (by omega) (by omega)
    refine ⟨⟨rfl, by simp, by simp [AV.ids, AV.ids.idsL]⟩, [.l 9 (pRows ps), .v (.int .i64 l0)], rfl, fun w vs h => CvL.ok (.cons (.l _ _ _ (pRows_w ps)) (.cons (.refl _) .nil)) h, ?_⟩
    simp (maxSteps := 3000000) only [Try.f50, zps, pRows_len, w0, tY2, tY3, tY4, tY5, tY9, tY12, tY21, tY22, tY23, tY24, tY26, tY29, tY36, tY37, tY38, tY41, tY42, tY52, tY55, tY93, tY102, Try.underlying2, Try.underlying3, Try.underlying4, Try.underlying5, Try.underlying9, Try.underlying12, Try.underlying21, Try.underlying22, Try.underlying23, Try.underlying24, Try.underlying26, Try.underlying29, Try.underlying36, Try.underlying37, Try.underlying38, Try.underlying41, Try.underlying42, Try.underlying52, Try.underlying55, Try.underlying93, Try.underlying102, e_skip, e_label, e_ret, e_exit, e_seq, e_cond, e_block, e_region, seqK_normal, seqK_ret, seqK_exit, blkK_normal, blkK_ret, blkK_exit, condK_some, regK_true, regK_false, e_nil, e_cons, gateK_go, gateK_skip, gateK_ask, pickK_some, exK_some, x_pick, x_move, x_assign, x_alloc, x_box, x_build, x_buildSlice, x_load, x_store, x_binOp, x_unOp, x_convert, x_makeSlice, x_slice, x_fieldAddr, x_field, x_indexAddr, x_extract, x_nilCheck, x_call, x_len, x_append, x_min, oMin, x_copy, oCopy, eqAVs, callK_some, done_ret, done_normal, doneO_ret, doneO_normal, endsO_one, endsO_nil, endsO_more, ownAbs, frzAbs, leafs, leafs.leafsL, uniq, idxOf, bk, zipB, Blk.liveB, gate_none, gate_some, gateS_none, gateS_some, gateV_bool, gateV_undef, boolOf, evA, putT, refn, fpD, oBin, oUn, upsl, upl, up, ups, lk, dstsOf, resL, resA, packA, oLoadQ, oLoadKid, oStoreQ, oStoreTree, oBuildSliceQ, oBuildTree, oAppendQ, oAppendTree, isTr, isTrP, tkd, tkds, tkRows, ownOf, nodupB, deadL, treeOf, kidAbs, kidBlk, kidRows, TK.isCell, D.toL, oLoad, oStore, oAlloc, oBox, oBuild, oBuildSlice, oMake, oAppend, oIndexAddr, oFieldAddr, oField, oExtract, oNil, oSlice, oLen, oConvert, rowLoad, fillA, fillR, slB, dk, dks, dkRows, frz, loOf, hiOf, lenOf, rowsOf, nilV, lenV, putAt, views, viewsOk, CK.av, CK.ok, AV.cells, AV.one, Value.oneCell', Value.cells, pureAbs, nrm, nrm.nrmL, hpAt, sh, AV.ren, AV.ren.renL, Blk.ren, fpOf, footO, foot, blkIds, AV.ids, AV.ids.idsL, Op.operands, Call.operands, List.find?_cons, List.find?_nil, Nat.reduceBEq, beq_self_eq_true, List.map_cons, List.map_nil, List.getD_cons_zero, List.getD_cons_succ, List.getD_nil, List.set_cons_zero, List.set_cons_succ, List.length_cons, List.length_nil, List.replicate, List.cons_append, List.nil_append, List.append_nil, List.getElem?_cons_zero, List.getElem?_cons_succ, List.getElem?_toArray, List.getElem?_nil, List.take_zero, List.take_succ_cons, List.take_nil, List.drop_zero, List.drop_succ_cons, List.drop_nil, List.headD_cons, List.tail_cons, List.flatten_cons, List.flatten_nil, List.flatMap_cons, List.flatMap_nil, List.toList_toArray, Array.toList_append, Option.bind_some, Option.map_some, Option.map_none, Option.isSome_some, List.all_nil, List.all_cons, Bool.and_self, Bool.and_true, Bool.true_and, true_and, and_true, ↓reduceIte, List.size_toArray, Bool.false_eq_true, Bool.true_eq_false, false_implies, true_implies, Bool.not_true, Bool.not_false, and_self, implies_true, decide_true, decide_false, Nat.reduceAdd, Nat.reduceMul, Nat.reduceLT, Nat.reduceSub, Nat.reduceLeDiff, Nat.reduceEqDiff, eq_self, ne_eq, not_false_eq_true, false_and, and_false, reduceCtorEq, List.filter_nil, List.filter_cons, List.isEmpty_nil, List.isEmpty_cons, bne_self_eq_false, Nat.reduceBneDiff, Nat.lt_add_one, Nat.zero_lt_succ, List.append_assoc, Nat.zero_le, and_self_iff, Int.reduceToNat, List.any_nil, List.any_cons, List.filterMap_nil, List.filterMap_cons, List.contains_nil, List.contains_cons, Bool.or_false, Bool.false_or, Bool.or_true, Bool.true_or, Bool.false_and, Bool.and_false, decide_eq_true_eq, decide_eq_false_iff_not, beq_iff_eq, Int.toNat_natCast]
    rw [w0] at e0
    by_cases h0 : l0 - (ps.length : Int) < 0
    · rw [if_pos h0]
      rw [if_pos h0] at e0
      have e : szPS ps l0 = -1 := by rw [szPS, e0]; rfl
      rw [e]
      exact ⟨_, [], rfl, ⟨⟨⟨rfl, rfl, rfl⟩, trivial⟩, trivial, by simp [rn, hpAt]⟩⟩
    · rw [if_neg h0]
      rw [if_neg h0] at e0
      have e : szPS ps l0 = szF szP ps (l0 - ps.length) := by rw [szPS, e0, if_neg h0]
      rw [e]
      refine e_loop _ _ _ _ _ _ _ _ (fun x : Nat × Int => [.l 9 (pRows ps), .v (.int .i64 x.2), .any, .any, .any, .v (.int .i64 (x.1 : Int))] ++ List.replicate (Try.f50.ntmps - 6) .any) (fun x => []) (fun x => x.1 ≤ ps.length ∧ (0 ≤ x.2 ∧ x.2 ≤ 1048576) ∧ szF szP ps (l0 - ps.length) = szF szP (ps.drop x.1) x.2) (fun x => ps.length - x.1) 0 (fun x => by simp) ?_ fun x hk' => ?_
      · exact ⟨(0, l0 - ps.length), [], ⟨Nat.zero_le _, ⟨by dsimp only; omega, by dsimp only; omega⟩, rfl⟩, ⟨⟨⟨rfl, rfl, rfl⟩, ⟨rfl, rfl, rfl⟩, trivial, trivial, trivial, ⟨rfl, rfl, rfl⟩, fitT_rep _ _ rfl⟩, trivial, by simp [rn, hpAt]⟩, by simp [keepIds]⟩
      obtain ⟨k, m⟩ := x
      obtain ⟨hk1, hm, hinv⟩ := hk'
      dsimp only at hk1 hm hinv
      have w2 : IntKind.i64.wrap ((k : Int) + 1) = ((k + 1 : Nat) : Int) := by rw [wrap_id] <;> omega
      by_cases hk : k < ps.length
      · have hrow := pRows_get ps k hk
        have hlt : ((k : Int) < (ps.length : Int)) = True := eq_true (by omega)
        have h0 : (0 ≤ (k : Int)) = True := eq_true (by omega)
        have hfk := hf2 ps[k] (List.getElem_mem hk)
        have hb2 := szLeft_bd (n := ps[k].d.length) hm
        rw [drop_at _ _ hk, szF] at hinv
        simp (maxSteps := 3000000) only [Try.f50, zps, pRows_len, rowsOf_len, bytesOf_rows, g_szPacket, hrow, hlt, h0, D.toI, dB, D.toB, D.toL, pRow, tY2, tY3, tY4, tY5, tY9, tY12, tY21, tY22, tY23, tY24, tY26, tY29, tY36, tY37, tY38, tY41, tY42, tY52, tY55, tY93, tY102, Try.underlying2, Try.underlying3, Try.underlying4, Try.underlying5, Try.underlying9, Try.underlying12, Try.underlying21, Try.underlying22, Try.underlying23, Try.underlying24, Try.underlying26, Try.underlying29, Try.underlying36, Try.underlying37, Try.underlying38, Try.underlying41, Try.underlying42, Try.underlying52, Try.underlying55, Try.underlying93, Try.underlying102, e_skip, e_label, e_ret, e_exit, e_seq, e_cond, e_block, e_region, seqK_normal, seqK_ret, seqK_exit, blkK_normal, blkK_ret, blkK_exit, condK_some, regK_true, regK_false, e_nil, e_cons, gateK_go, gateK_skip, gateK_ask, pickK_some, exK_some, x_pick, x_move, x_assign, x_alloc, x_box, x_build, x_buildSlice, x_load, x_store, x_binOp, x_unOp, x_convert, x_makeSlice, x_slice, x_fieldAddr, x_field, x_indexAddr, x_extract, x_nilCheck, x_call, x_len, x_append, x_min, oMin, x_copy, oCopy, eqAVs, callK_some, done_ret, done_normal, doneO_ret, doneO_normal, endsO_one, endsO_nil, endsO_more, ownAbs, frzAbs, leafs, leafs.leafsL, uniq, idxOf, bk, zipB, Blk.liveB, gate_none, gate_some, gateS_none, gateS_some, gateV_bool, gateV_undef, boolOf, evA, putT, refn, fpD, oBin, oUn, upsl, upl, up, ups, lk, dstsOf, resL, resA, packA, oLoadQ, oLoadKid, oStoreQ, oStoreTree, oBuildSliceQ, oBuildTree, oAppendQ, oAppendTree, isTr, isTrP, tkd, tkds, tkRows, ownOf, nodupB, deadL, treeOf, kidAbs, kidBlk, kidRows, TK.isCell, D.toL, oLoad, oStore, oAlloc, oBox, oBuild, oBuildSlice, oMake, oAppend, oIndexAddr, oFieldAddr, oField, oExtract, oNil, oSlice, oLen, oConvert, rowLoad, fillA, fillR, slB, dk, dks, dkRows, frz, loOf, hiOf, lenOf, rowsOf, nilV, lenV, putAt, views, viewsOk, CK.av, CK.ok, AV.cells, AV.one, Value.oneCell', Value.cells, pureAbs, nrm, nrm.nrmL, hpAt, sh, AV.ren, AV.ren.renL, Blk.ren, fpOf, footO, foot, blkIds, AV.ids, AV.ids.idsL, Op.operands, Call.operands, List.find?_cons, List.find?_nil, Nat.reduceBEq, beq_self_eq_true, List.map_cons, List.map_nil, List.getD_cons_zero, List.getD_cons_succ, List.getD_nil, List.set_cons_zero, List.set_cons_succ, List.length_cons, List.length_nil, List.replicate, List.cons_append, List.nil_append, List.append_nil, List.getElem?_cons_zero, List.getElem?_cons_succ, List.getElem?_toArray, List.getElem?_nil, List.take_zero, List.take_succ_cons, List.take_nil, List.drop_zero, List.drop_succ_cons, List.drop_nil, List.headD_cons, List.tail_cons, List.flatten_cons, List.flatten_nil, List.flatMap_cons, List.flatMap_nil, List.toList_toArray, Array.toList_append, Option.bind_some, Option.map_some, Option.map_none, Option.isSome_some, List.all_nil, List.all_cons, Bool.and_self, Bool.and_true, Bool.true_and, true_and, and_true, ↓reduceIte, List.size_toArray, Bool.false_eq_true, Bool.true_eq_false, false_implies, true_implies, Bool.not_true, Bool.not_false, and_self, implies_true, decide_true, decide_false, Nat.reduceAdd, Nat.reduceMul, Nat.reduceLT, Nat.reduceSub, Nat.reduceLeDiff, Nat.reduceEqDiff, eq_self, ne_eq, not_false_eq_true, false_and, and_false, reduceCtorEq, List.filter_nil, List.filter_cons, List.isEmpty_nil, List.isEmpty_cons, bne_self_eq_false, Nat.reduceBneDiff, Nat.lt_add_one, Nat.zero_lt_succ, List.append_assoc, Nat.zero_le, and_self_iff, Int.reduceToNat, List.any_nil, List.any_cons, List.filterMap_nil, List.filterMap_cons, List.contains_nil, List.contains_cons, Bool.or_false, Bool.false_or, Bool.or_true, Bool.true_or, Bool.false_and, Bool.and_false, decide_eq_true_eq, decide_eq_false_iff_not, beq_iff_eq, Int.toNat_natCast, loopK_normal, loopK_exit, loopK_ret, w2]
        refine ⟨⟨hm, hfk, _, rfl⟩, ?_⟩
        by_cases hz : szLeft m ps[k].d.length < 0
        · rw [if_pos hz]
          rw [if_pos (show szP ps[k] m < 0 from hz)] at hinv
          rw [hinv]
          exact ⟨_, [], rfl, ⟨⟨⟨rfl, rfl, rfl⟩, trivial⟩, trivial, by simp [rn, hpAt]⟩⟩
        · rw [if_neg hz]
          rw [if_neg (show ¬ szP ps[k] m < 0 from hz)] at hinv
          exact ⟨(k + 1, szLeft m ps[k].d.length), [], ⟨by dsimp only; omega, ⟨by dsimp only; omega, by dsimp only; omega⟩, hinv⟩, by dsimp only; omega, ⟨⟨⟨rfl, rfl, rfl⟩, ⟨rfl, rfl, rfl⟩, trivial, trivial, trivial, ⟨rfl, rfl, rfl⟩, fitT_rep _ _ rfl⟩, trivial, by simp [rn, hpAt]⟩, by simp [keepIds]⟩
      · have hlt : ((k : Int) < (ps.length : Int)) = False := eq_false (by omega)
        simp (maxSteps := 3000000) only [Try.f50, zps, pRows_len, rowsOf_len, bytesOf_rows, hlt, D.toI, dB, D.toB, D.toL, pRow, tY2, tY3, tY4, tY5, tY9, tY12, tY21, tY22, tY23, tY24, tY26, tY29, tY36, tY37, tY38, tY41, tY42, tY52, tY55, tY93, tY102, Try.underlying2, Try.underlying3, Try.underlying4, Try.underlying5, Try.underlying9, Try.underlying12, Try.underlying21, Try.underlying22, Try.underlying23, Try.underlying24, Try.underlying26, Try.underlying29, Try.underlying36, Try.underlying37, Try.underlying38, Try.underlying41, Try.underlying42, Try.underlying52, Try.underlying55, Try.underlying93, Try.underlying102, e_skip, e_label, e_ret, e_exit, e_seq, e_cond, e_block, e_region, seqK_normal, seqK_ret, seqK_exit, blkK_normal, blkK_ret, blkK_exit, condK_some, regK_true, regK_false, e_nil, e_cons, gateK_go, gateK_skip, gateK_ask, pickK_some, exK_some, x_pick, x_move, x_assign, x_alloc, x_box, x_build, x_buildSlice, x_load, x_store, x_binOp, x_unOp, x_convert, x_makeSlice, x_slice, x_fieldAddr, x_field, x_indexAddr, x_extract, x_nilCheck, x_call, x_len, x_append, x_min, oMin, x_copy, oCopy, eqAVs, callK_some, done_ret, done_normal, doneO_ret, doneO_normal, endsO_one, endsO_nil, endsO_more, ownAbs, frzAbs, leafs, leafs.leafsL, uniq, idxOf, bk, zipB, Blk.liveB, gate_none, gate_some, gateS_none, gateS_some, gateV_bool, gateV_undef, boolOf, evA, putT, refn, fpD, oBin, oUn, upsl, upl, up, ups, lk, dstsOf, resL, resA, packA, oLoadQ, oLoadKid, oStoreQ, oStoreTree, oBuildSliceQ, oBuildTree, oAppendQ, oAppendTree, isTr, isTrP, tkd, tkds, tkRows, ownOf, nodupB, deadL, treeOf, kidAbs, kidBlk, kidRows, TK.isCell, D.toL, oLoad, oStore, oAlloc, oBox, oBuild, oBuildSlice, oMake, oAppend, oIndexAddr, oFieldAddr, oField, oExtract, oNil, oSlice, oLen, oConvert, rowLoad, fillA, fillR, slB, dk, dks, dkRows, frz, loOf, hiOf, lenOf, rowsOf, nilV, lenV, putAt, views, viewsOk, CK.av, CK.ok, AV.cells, AV.one, Value.oneCell', Value.cells, pureAbs, nrm, nrm.nrmL, hpAt, sh, AV.ren, AV.ren.renL, Blk.ren, fpOf, footO, foot, blkIds, AV.ids, AV.ids.idsL, Op.operands, Call.operands, List.find?_cons, List.find?_nil, Nat.reduceBEq, beq_self_eq_true, List.map_cons, List.map_nil, List.getD_cons_zero, List.getD_cons_succ, List.getD_nil, List.set_cons_zero, List.set_cons_succ, List.length_cons, List.length_nil, List.replicate, List.cons_append, List.nil_append, List.append_nil, List.getElem?_cons_zero, List.getElem?_cons_succ, List.getElem?_toArray, List.getElem?_nil, List.take_zero, List.take_succ_cons, List.take_nil, List.drop_zero, List.drop_succ_cons, List.drop_nil, List.headD_cons, List.tail_cons, List.flatten_cons, List.flatten_nil, List.flatMap_cons, List.flatMap_nil, List.toList_toArray, Array.toList_append, Option.bind_some, Option.map_some, Option.map_none, Option.isSome_some, List.all_nil, List.all_cons, Bool.and_self, Bool.and_true, Bool.true_and, true_and, and_true, ↓reduceIte, List.size_toArray, Bool.false_eq_true, Bool.true_eq_false, false_implies, true_implies, Bool.not_true, Bool.not_false, and_self, implies_true, decide_true, decide_false, Nat.reduceAdd, Nat.reduceMul, Nat.reduceLT, Nat.reduceSub, Nat.reduceLeDiff, Nat.reduceEqDiff, eq_self, ne_eq, not_false_eq_true, false_and, and_false, reduceCtorEq, List.filter_nil, List.filter_cons, List.isEmpty_nil, List.isEmpty_cons, bne_self_eq_false, Nat.reduceBneDiff, Nat.lt_add_one, Nat.zero_lt_succ, List.append_assoc, Nat.zero_le, and_self_iff, Int.reduceToNat, List.any_nil, List.any_cons, List.filterMap_nil, List.filterMap_cons, List.contains_nil, List.contains_cons, Bool.or_false, Bool.false_or, Bool.or_true, Bool.true_or, Bool.false_and, Bool.and_false, decide_eq_true_eq, decide_eq_false_iff_not, beq_iff_eq, Int.toNat_natCast, loopK_normal, loopK_exit, loopK_ret, w2]
        rw [List.drop_eq_nil_of_le (by omega), szF] at hinv
        rw [hinv]
        exact ⟨_, [], rfl, ⟨⟨⟨rfl, rfl, rfl⟩, trivial⟩, trivial, by simp [rn, hpAt]⟩⟩
  · cases hg
def zpt : List (FuncId × Abs) := [(50, pureAbs g_szPacketS)]
theorem zpt_ok : ∀ p ∈ zpt, CallOk Try.prog p.1 p.2 := by
  intro p hp
  simp only [zpt, List.mem_cons, List.not_mem_nil, or_false] at hp
  rcases hp with rfl
  · exact szPacketS_ok.call
set_option maxRecDepth 100000 in
theorem szPart_ok : PureOk Try.prog 18 g_szPart := by
  refine PureOk.of_vc (G := zpt) zpt_ok mixed Try.func18 (by kernel_rfl) rfl ?_
  intro args cnd r bs hg hc
  unfold g_szPart at hg
  split at hg
  · rename_i sz rows u l0
    cases hg
    obtain ⟨hl, ps, rfl, hf⟩ := hc
    rw [psOf_rows]
    have hb := szPS_bd ps l0 hl
    refine ⟨⟨rfl, by simp, by simp [AV.ids, AV.ids.idsL]⟩, [.agg [.l 9 (pRows ps), .v (.int .i64 u)], .v (.int .i64 l0)], rfl, fun w vs h => CvL.ok (.cons (.cons (.l _ _ _ (pRows_w ps)) (.cons (.refl _) .nil)) (.cons (.refl _) .nil)) h, ?_⟩
    simp (maxSteps := 3000000) only [Try.f18, zpt, g_szPacketS, psOf_rows, tY2, tY3, tY4, tY5, tY9, tY12, tY21, tY22, tY23, tY24, tY26, tY29, tY36, tY37, tY38, tY41, tY42, tY52, tY55, tY93, tY102, Try.underlying2, Try.underlying3, Try.underlying4, Try.underlying5, Try.underlying9, Try.underlying12, Try.underlying21, Try.underlying22, Try.underlying23, Try.underlying24, Try.underlying26, Try.underlying29, Try.underlying36, Try.underlying37, Try.underlying38, Try.underlying41, Try.underlying42, Try.underlying52, Try.underlying55, Try.underlying93, Try.underlying102, e_skip, e_label, e_ret, e_exit, e_seq, e_cond, e_block, e_region, seqK_normal, seqK_ret, seqK_exit, blkK_normal, blkK_ret, blkK_exit, condK_some, regK_true, regK_false, e_nil, e_cons, gateK_go, gateK_skip, gateK_ask, pickK_some, exK_some, x_pick, x_move, x_assign, x_alloc, x_box, x_build, x_buildSlice, x_load, x_store, x_binOp, x_unOp, x_convert, x_makeSlice, x_slice, x_fieldAddr, x_field, x_indexAddr, x_extract, x_nilCheck, x_call, x_len, x_append, x_min, oMin, x_copy, oCopy, eqAVs, callK_some, done_ret, done_normal, doneO_ret, doneO_normal, endsO_one, endsO_nil, endsO_more, ownAbs, frzAbs, leafs, leafs.leafsL, uniq, idxOf, bk, zipB, Blk.liveB, gate_none, gate_some, gateS_none, gateS_some, gateV_bool, gateV_undef, boolOf, evA, putT, refn, fpD, oBin, oUn, upsl, upl, up, ups, lk, dstsOf, resL, resA, packA, oLoadQ, oLoadKid, oStoreQ, oStoreTree, oBuildSliceQ, oBuildTree, oAppendQ, oAppendTree, isTr, isTrP, tkd, tkds, tkRows, ownOf, nodupB, deadL, treeOf, kidAbs, kidBlk, kidRows, TK.isCell, D.toL, oLoad, oStore, oAlloc, oBox, oBuild, oBuildSlice, oMake, oAppend, oIndexAddr, oFieldAddr, oField, oExtract, oNil, oSlice, oLen, oConvert, rowLoad, fillA, fillR, slB, dk, dks, dkRows, frz, loOf, hiOf, lenOf, rowsOf, nilV, lenV, putAt, views, viewsOk, CK.av, CK.ok, AV.cells, AV.one, Value.oneCell', Value.cells, pureAbs, nrm, nrm.nrmL, hpAt, sh, AV.ren, AV.ren.renL, Blk.ren, fpOf, footO, foot, blkIds, AV.ids, AV.ids.idsL, Op.operands, Call.operands, List.find?_cons, List.find?_nil, Nat.reduceBEq, beq_self_eq_true, List.map_cons, List.map_nil, List.getD_cons_zero, List.getD_cons_succ, List.getD_nil, List.set_cons_zero, List.set_cons_succ, List.length_cons, List.length_nil, List.replicate, List.cons_append, List.nil_append, List.append_nil, List.getElem?_cons_zero, List.getElem?_cons_succ, List.getElem?_toArray, List.getElem?_nil, List.take_zero, List.take_succ_cons, List.take_nil, List.drop_zero, List.drop_succ_cons, List.drop_nil, List.headD_cons, List.tail_cons, List.flatten_cons, List.flatten_nil, List.flatMap_cons, List.flatMap_nil, List.toList_toArray, Array.toList_append, Option.bind_some, Option.map_some, Option.map_none, Option.isSome_some, List.all_nil, List.all_cons, Bool.and_self, Bool.and_true, Bool.true_and, true_and, and_true, ↓reduceIte, List.size_toArray, Bool.false_eq_true, Bool.true_eq_false, false_implies, true_implies, Bool.not_true, Bool.not_false, and_self, implies_true, decide_true, decide_false, Nat.reduceAdd, Nat.reduceMul, Nat.reduceLT, Nat.reduceSub, Nat.reduceLeDiff, Nat.reduceEqDiff, eq_self, ne_eq, not_false_eq_true, false_and, and_false, reduceCtorEq, List.filter_nil, List.filter_cons, List.isEmpty_nil, List.isEmpty_cons, bne_self_eq_false, Nat.reduceBneDiff, Nat.lt_add_one, Nat.zero_lt_succ, List.append_assoc, Nat.zero_le, and_self_iff, Int.reduceToNat, List.any_nil, List.any_cons, List.filterMap_nil, List.filterMap_cons, List.contains_nil, List.contains_cons, Bool.or_false, Bool.false_or, Bool.or_true, Bool.true_or, Bool.false_and, Bool.and_false, decide_eq_true_eq, decide_eq_false_iff_not, beq_iff_eq, Int.toNat_natCast]
    refine ⟨⟨hl, _, rfl, hf⟩, ?_⟩
    by_cases hz : szPS ps l0 < 0
    · have e : szPS ps l0 = -1 := by omega
      rw [if_pos hz, e]
      exact ⟨_, [], rfl, ⟨⟨⟨rfl, rfl, rfl⟩, trivial⟩, trivial, by simp [rn, hpAt]⟩⟩
    · rw [if_neg hz]
      exact ⟨_, [], rfl, ⟨⟨⟨rfl, rfl, rfl⟩, trivial⟩, trivial, by simp [rn, hpAt]⟩⟩
  · cases hg
def zts : List (FuncId × Abs) := [(18, pureAbs g_szPart)]
end Go.Proofs.Ytloffpgdclbkhaa
