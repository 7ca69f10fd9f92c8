import Derived.Test.YtdeldmagmljacaaHg
import Derived.Test.YtdeldmagmljacaaHq
import Derived.Test.YtdeldmagmljacaaXi
namespace Go.Proofs.Ytdeldmagmljacaa
open Go.RowKit
set_option linter.unusedSimpArgs false
set_option linter.unusedVariables false

/-! the law of pieces in any order -/
def g_hearPD : PC := fun args => match args with
  | [.l _ rows', .agg [.v (.int .i64 f), .v (.int .i64 t), .v (.int .i64 p), .v (.int .i64 h), .v (.int .i64 i), .v (.int .i64 a), .v (.bool m), .v (.bool u), .l _ rows], .v (.int .i64 n)] => some ((∃ l, rows' = ptRows l ∧ ptMid l) ∧ (∃ xs, rows = rowsOfBytes xs ∧ xs.length ≤ 1048576) ∧ phS (ptsOf rows') ⟨f, t, p, h, i, a, m, u, bytesOfRows rows⟩ n = false,
      .tup [.l 2 (ptRows (phF (ptsOf rows') ⟨f, t, p, h, i, a, m, u, bytesOfRows rows⟩ n)), .agg [.v (.int .i64 (phP (ptsOf rows') ⟨f, t, p, h, i, a, m, u, bytesOfRows rows⟩ n).f), .v (.int .i64 (phP (ptsOf rows') ⟨f, t, p, h, i, a, m, u, bytesOfRows rows⟩ n).t), .v (.int .i64 (phP (ptsOf rows') ⟨f, t, p, h, i, a, m, u, bytesOfRows rows⟩ n).p), .v (.int .i64 (phP (ptsOf rows') ⟨f, t, p, h, i, a, m, u, bytesOfRows rows⟩ n).h), .v (.int .i64 (phP (ptsOf rows') ⟨f, t, p, h, i, a, m, u, bytesOfRows rows⟩ n).i), .v (.int .i64 (phP (ptsOf rows') ⟨f, t, p, h, i, a, m, u, bytesOfRows rows⟩ n).a), .v (.bool (phP (ptsOf rows') ⟨f, t, p, h, i, a, m, u, bytesOfRows rows⟩ n).m), .v (.bool (phP (ptsOf rows') ⟨f, t, p, h, i, a, m, u, bytesOfRows rows⟩ n).u), .l 1 (rowsOfBytes (phP (ptsOf rows') ⟨f, t, p, h, i, a, m, u, bytesOfRows rows⟩ n).d)], .v (.bool (phB (ptsOf rows') ⟨f, t, p, h, i, a, m, u, bytesOfRows rows⟩ n))], [])
  | _ => none
theorem implPartsHearD_ok : OwnOk Try.prog 33 (ocOf g_hearPD) := by
  refine implPartsHear_ok.toOwn.toData.narrow fun args B0 c r B1 bs hg hc => ?_
  unfold ocOf g_hearPD at hg
  split at hg
  · split at hg
    · rename_i c' r' bs' hg'
      cases hg
      split at hg'
      · rename_i sz' rows' f t p h i a m u sz rows n
        cases hg'
        obtain ⟨h1, h2, h3⟩ := hc
        refine ⟨(∃ l, rows' = ptRows l ∧ ptMid l) ∧ (∃ xs, rows = rowsOfBytes xs ∧ xs.length ≤ 1048576), ?_, h1, h2⟩
        simp only [ocOf, dataOf, g_partsHear, h3]
        rfl
      · cases hg'
    · cases hg
  · cases hg
/-- what is kept after so many pieces -/
def keptL (C : List Pk) (w : List Nat) (k : Nat) : List Pt := if k = 0 ∨ k = w.length then [] else [⟨sel C fun j => (w.take k).contains j, 20⟩]
theorem take_has {w : List Nat} {k : Nat} (h : k < w.length) (j : Nat) : (w.take (k + 1)).contains j = ((w.take k).contains j || j == w[k]) := by
  rw [Bool.eq_iff_iff, Bool.or_eq_true, List.contains_iff_mem, List.contains_iff_mem, beq_iff_eq, List.take_add_one, List.getElem?_eq_getElem h, List.mem_append]
  simp
theorem keep_mid {C : List Pk} (h : wholeB C 20 = true) {T : List Nat} {z : Nat} (hz : z ∉ T) (hT : ∀ i ∈ T, i < C.length) (hzn : z < C.length) {k : Nat} (hk : k < T.length) :
    ∃ hi : T[k] < C.length, phF (keptL C (T ++ [z]) k) (C[T[k]]'hi) 5 = keptL C (T ++ [z]) (k + 1) ∧ phB (keptL C (T ++ [z]) k) (C[T[k]]'hi) 5 = false ∧ phS (keptL C (T ++ [z]) k) (C[T[k]]'hi) 5 = false := by
  have hi := hT _ (List.getElem_mem hk)
  have hne : T[k] ≠ z := fun e => hz (by rw [← e]; exact List.getElem_mem hk)
  have h2 : 2 ≤ C.length := by omega
  have hlen : (T ++ [z]).length = T.length + 1 := by simp
  have hg : (T ++ [z])[k]'(by omega) = T[k] := List.getElem_append_left hk
  have hn : keptL C (T ++ [z]) (k + 1) = [⟨sel C fun j => ((T ++ [z]).take (k + 1)).contains j, 20⟩] := by rw [keptL, if_neg (by omega)]
  have hth := take_has (w := T ++ [z]) (k := k) (by omega)
  rw [hg] at hth
  refine ⟨hi, ?_⟩
  rw [hn]
  by_cases h0 : k = 0
  · subst h0
    have hk0 : keptL C (T ++ [z]) 0 = [] := by rw [keptL, if_pos (.inl rfl)]
    obtain ⟨a, b, c⟩ := hear_first h h2 hi
    rw [hk0, a, b, c]
    refine ⟨?_, rfl, rfl⟩
    congr 2
    refine sel_congr fun j _ => ?_
    rw [hth]; simp
  · have hk1 : keptL C (T ++ [z]) k = [⟨sel C fun j => ((T ++ [z]).take k).contains j, 20⟩] := by rw [keptL, if_neg (by omega)]
    have hpos : 0 < (sel C fun j => ((T ++ [z]).take k).contains j).length := by
      refine sel_has (i := T[0]'(by omega)) (hT _ (List.getElem_mem _)) ?_
      rw [List.contains_iff_mem]
      refine List.mem_take_iff_getElem.2 ⟨0, by omega, ?_⟩
      exact List.getElem_append_left (by omega)
    obtain ⟨a, b, c, _⟩ := hear_next h h2 hpos hi
    have hs : (sel C fun j => ((T ++ [z]).take (k + 1)).contains j) = sel C fun j => ((T ++ [z]).take k).contains j || j == T[k] := sel_congr fun j _ => hth j
    have hw : wholeB (sel C fun j => ((T ++ [z]).take k).contains j || j == T[k]) 20 = false := by
      refine sel_not h hzn ?_
      have e : (z == T[k]) = false := by simpa using fun e => hne e.symm
      rw [e, Bool.or_false, Bool.eq_false_iff, ne_eq, List.contains_iff_mem]
      intro hm
      rw [List.take_append_of_le_length (by omega)] at hm
      exact hz (List.mem_of_mem_take hm)
    rw [hk1, a, b, c, hw, hs]
    exact ⟨rfl, rfl, rfl⟩
theorem keep_last {C : List Pk} (h : wholeB C 20 = true) {T : List Nat} {z : Nat} (hzn : z < C.length) (hT : ∀ i ∈ T, i < C.length) (hzT : z ∉ T) (hall : ∀ i, i < C.length → i ∈ T ++ [z]) :
    phF (keptL C (T ++ [z]) T.length) C[z] 5 = [] ∧ phB (keptL C (T ++ [z]) T.length) C[z] 5 = true ∧ phS (keptL C (T ++ [z]) T.length) C[z] 5 = false ∧ (phP (keptL C (T ++ [z]) T.length) C[z] 5).d = joinD C := by
  have hlen : (T ++ [z]).length = T.length + 1 := by simp
  by_cases h0 : T.length = 0
  · have hTn : T = [] := List.eq_nil_of_length_eq_zero h0
    subst hTn
    have h1 : C.length = 1 := by
      by_cases h2 : 2 ≤ C.length
      · have a := hall 0 (by omega)
        have b := hall 1 (by omega)
        simp at a b
        omega
      · omega
    have hz0 : z = 0 := by omega
    subst hz0
    have hk0 : keptL C ([] ++ [0]) ([] : List Nat).length = [] := by rw [keptL, if_pos (.inl rfl)]
    have hp := partC h
    have hm : C[0].m = false := by
      have := (whole_parts h).2.2
      rw [more_last hzn] at this
      simp only [h1] at this
      exact this
    obtain ⟨a, b, c, d⟩ := hear_alone (hp.1 _ (List.getElem_mem hzn)) (zero_at hzn (whole_parts h).2.1) hm
    rw [hk0, a, b, c, d]
    refine ⟨rfl, rfl, rfl, ?_⟩
    match C, h1 with
    | [y], _ => simp [joinD]
  · have hk1 : keptL C (T ++ [z]) T.length = [⟨sel C fun j => ((T ++ [z]).take T.length).contains j, 20⟩] := by rw [keptL, if_neg (by omega)]
    have hpos : 0 < (sel C fun j => ((T ++ [z]).take T.length).contains j).length := by
      refine sel_has (i := T[0]'(by omega)) (hT _ (List.getElem_mem _)) ?_
      rw [List.contains_iff_mem]
      refine List.mem_take_iff_getElem.2 ⟨0, by omega, ?_⟩
      exact List.getElem_append_left (by omega)
    have hne : 2 ≤ C.length := by
      have a := hT _ (List.getElem_mem (l := T) (n := 0) (by omega))
      have b : T[0]'(by omega) ≠ z := fun e => hzT (by rw [← e]; exact List.getElem_mem _)
      omega
    obtain ⟨a, b, c, d⟩ := hear_next h hne hpos hzn
    have hs : (sel C fun j => ((T ++ [z]).take T.length).contains j || j == z) = C := sel_all fun i hi => by
      rw [List.take_left]
      rcases List.mem_append.1 (hall i hi) with hm | hm
      · rw [List.contains_iff_mem.2 hm, Bool.true_or]
      · rw [List.mem_singleton.1 hm]; simp
    rw [hs] at a b d
    rw [hk1, a, b, c, d, h]
    refine ⟨rfl, rfl, rfl, ?_⟩
    rw [wholeV, if_pos h]
theorem keptL_mid {C : List Pk} (hd : C.length ≤ 48 ∧ ∀ y ∈ C, y.d.length ≤ 48) (w : List Nat) (k : Nat) : ptMid (keptL C w k) := by
  rw [keptL]
  split
  · exact ⟨by simp, fun x hx => by cases hx⟩
  · refine ⟨by simp, fun x hx => ?_⟩
    rw [List.mem_singleton.1 hx]
    have hs := sel_sub C fun j => (w.take k).contains j
    exact ⟨by have := hs.length_le; dsimp only; omega, fun y hy => by have := hd.2 y (hs.subset hy); omega⟩
theorem cut_same (x : Pk) (l : Int) : ∀ y ∈ cutL x l, same4 y x = true := by
  intro y hy
  rw [cutL] at hy
  split at hy
  · split at hy
    · rw [List.mem_singleton.1 hy]; simp [same4]
    · obtain ⟨j, _, rfl⟩ := List.mem_map.1 hy
      simp [same4, pieceAt]
  · cases hy
def lsh : List (FuncId × Abs) := [(15, pureAbs g_alive), (17, pureAbs g_sameBytes), (14, pureAbs g_samePackets), (12, ownAbs (ocOf g_sPacketCut)), (13, ownAbs (ocOf g_sPacketCut)), (33, frzAbs g_hearPD), (36, ownAbs (ocOf g_drawSh))]
theorem lsh_ok : ∀ p ∈ lsh, CallOk Try.prog p.1 p.2 := by
  intro p hp
  simp only [lsh, List.mem_cons, List.not_mem_nil, or_false] at hp
  rcases hp with rfl | rfl | rfl | rfl | rfl | rfl | rfl
  · exact alive_ok.call
  · exact sameBytes_ok.call
  · exact samePackets_ok.call
  · exact implPacketCutD_ok.call
  · exact specPacketCut_ok.call
  · exact implPartsHearD_ok.callF
  · exact drawShuffled_ok.call
def shCell (k : Nat) (rows : List (List D)) : AV := if k = 0 then .own 1 else .l 2 rows
def shBlk (k : Nat) : HP := if k = 0 then [(1, .sl 36 2 [])] else []
set_option maxHeartbeats 4000000 in
set_option maxRecDepth 100000 in
theorem lawPartsShuffled_ok : PureOk Try.prog 9 g_true := by
  refine PureOk.of_vc (G := lsh) lsh_ok mixed Try.func9 (by kernel_rfl) rfl ?_
  intro args cnd r bs hg hc
  unfold g_true at hg
  split at hg
  · rename_i sz rows
    cases hg
    obtain ⟨xs, rfl⟩ := hc
    refine ⟨⟨rfl, by simp, by simp [AV.ids, AV.ids.idsL]⟩, [.l 1 (rowsOfBytes xs)], rfl, fun w vs h => CvL.ok (.cons (.l _ _ _ (rowsOf_w xs)) .nil) h, ?_⟩
    obtain ⟨ys, hys⟩ : ∃ ys, ys = List.take 2000 xs := ⟨_, rfl⟩
    have hb := lnV_q ys 0 (by omega)
    have hok := shB ys
    have hcb := shC_bd ys
    have hlo := lnV_ok ys 0 (by omega)
    have hC0 : shC ys = cutL (pvK (lnV ys 0)) (shL ys) := rfl
    have hT0 : shT ys = (twK ys (ordK ys (shQ ys) (shC ys).length) (shQ ys + ((shC ys).length : Int)) (shC ys).length).1 := rfl
    have hS1 : shQ ys = (lnV ys 0).q + 1 := rfl
    have hxd : (pvK (lnV ys 0)).d.length ≤ 48 := by have := hb.2.2.2; show (lnV ys 0).d.length ≤ 48; omega
    have hwh := cut_whole hok rfl rfl (by rw [← hC0]; exact hcb.1.1) hxd (cut_same _ _)
    have hjo := cut_join hok
    rw [← hC0] at hwh hjo
    obtain ⟨T, z, hTz, hz1, hz2, hz3, hz4⟩ := tw_last ys (shQ ys) (shQ ys + ((shC ys).length : Int)) (by omega) (shC ys).length hcb.1.1 (by omega)
    rw [hTz] at hT0
    obtain ⟨V, hV⟩ : ∃ V, lnV ys 0 = V := ⟨_, rfl⟩
    obtain ⟨C, hC⟩ : ∃ C, shC ys = C := ⟨_, rfl⟩
    obtain ⟨l, hl⟩ : ∃ l, shL ys = l := ⟨_, rfl⟩
    rw [hC] at hC0 hcb hwh hjo hz1 hz3 hz4
    rw [hV] at hb hC0 hok hjo
    rw [hl] at hC0 hok
    have hC' := hC0.symm
    have hX : (⟨V.f, V.t, V.pr, V.h, V.i, V.a, V.m, V.u, V.d⟩ : Pk) = pvK V := rfl
    have hVd : (pvK V).d = V.d := rfl
    rw [hVd] at hjo
    have hlen : (T ++ [z]).length = T.length + 1 := by simp
    have hCm : C.length ≤ 48 ∧ ∀ y ∈ C, y.d.length ≤ 48 := ⟨hcb.1.2, hcb.2⟩
    have m0 : ptMid [] := ⟨by simp, fun x hx => by cases hx⟩
    have hTn : T.length ≤ 200 := by
      have := twK_pos ys (ordK ys (shQ ys) C.length) (shQ ys + (C.length : Int)) C.length
      rw [hC] at hTz
      rw [hTz, hlen] at this
      omega
    simp (maxSteps := 3000000) only [Try.f9, lsh, ← hys, hV, hl, hX, hC', hok, hT0, ocOf, g_alive, g_sameBytes, g_samePackets, g_sPacketCut, g_hearPD, g_drawSh, bytesOf_rows, rowsOf_len, pRows_len, nRows_len, ptRows_len, ptsOf_rows, tY2, tY3, tY4, tY5, tY9, tY12, tY21, tY22, tY23, tY24, tY27, tY35, tY36, tY47, tY55, tY83, tY84, tY97, tY106, Try.underlying2, Try.underlying3, Try.underlying4, Try.underlying5, Try.underlying9, Try.underlying12, Try.underlying21, Try.underlying22, Try.underlying23, Try.underlying24, Try.underlying27, Try.underlying35, Try.underlying36, Try.underlying47, Try.underlying55, Try.underlying83, Try.underlying84, Try.underlying97, Try.underlying106, e_skip, e_label, e_ret, e_exit, e_seq, e_cond, e_block, e_region, seqK_normal, seqK_ret, seqK_exit, blkK_normal, blkK_ret, blkK_exit, condK_some, regK_true, regK_false, e_nil, e_cons, gateK_go, gateK_skip, gateK_ask, pickK_some, exK_some, x_pick, x_move, x_assign, x_alloc, x_box, x_build, x_buildSlice, x_load, x_store, x_binOp, x_unOp, x_convert, x_makeSlice, x_slice, x_fieldAddr, x_field, x_indexAddr, x_extract, x_nilCheck, x_call, x_len, x_append, x_min, oMin, x_copy, oCopy, eqAVs, callK_some, done_ret, done_normal, doneO_ret, doneO_normal, endsO_one, endsO_nil, endsO_more, ownAbs, frzAbs, leafs, leafs.leafsL, uniq, idxOf, bk, zipB, Blk.liveB, gate_none, gate_some, gateS_none, gateS_some, gateV_bool, gateV_undef, boolOf, evA, putT, refn, fpD, oBin, oUn, upsl, upl, up, ups, lk, dstsOf, resL, resA, packA, oLoadQ, oLoadKid, oStoreQ, oStoreTree, oBuildSliceQ, oBuildTree, oAppendQ, oAppendTree, isTr, isTrP, tkd, tkds, tkRows, ownOf, nodupB, deadL, treeOf, kidAbs, kidBlk, kidRows, TK.isCell, D.toL, oLoad, oStore, oAlloc, oBox, oBuild, oBuildSlice, oMake, oAppend, oIndexAddr, oFieldAddr, oField, oExtract, oNil, oSlice, oLen, oConvert, rowLoad, fillA, fillR, slB, dk, dks, dkRows, frz, loOf, hiOf, lenOf, rowsOf, nilV, lenV, putAt, views, viewsOk, CK.av, CK.ok, AV.cells, AV.one, Value.oneCell', Value.cells, pureAbs, nrm, nrm.nrmL, hpAt, sh, AV.ren, AV.ren.renL, Blk.ren, fpOf, footO, foot, blkIds, AV.ids, AV.ids.idsL, Op.operands, Call.operands, List.find?_cons, List.find?_nil, Nat.reduceBEq, beq_self_eq_true, List.map_cons, List.map_nil, List.getD_cons_zero, List.getD_cons_succ, List.getD_nil, List.set_cons_zero, List.set_cons_succ, List.length_cons, List.length_nil, List.replicate, List.cons_append, List.nil_append, List.append_nil, List.getElem?_cons_zero, List.getElem?_cons_succ, List.getElem?_toArray, List.getElem?_nil, List.take_zero, List.take_succ_cons, List.take_nil, List.drop_zero, List.drop_succ_cons, List.drop_nil, List.headD_cons, List.tail_cons, List.flatten_cons, List.flatten_nil, List.flatMap_cons, List.flatMap_nil, List.toList_toArray, Array.toList_append, Option.bind_some, Option.map_some, Option.map_none, Option.isSome_some, List.all_nil, List.all_cons, Bool.and_self, Bool.and_true, Bool.true_and, true_and, and_true, ↓reduceIte, List.size_toArray, Bool.false_eq_true, Bool.true_eq_false, false_implies, true_implies, Bool.not_true, Bool.not_false, and_self, implies_true, decide_true, decide_false, Nat.reduceAdd, Nat.reduceMul, Nat.reduceLT, Nat.reduceSub, Nat.reduceLeDiff, Nat.reduceEqDiff, eq_self, ne_eq, not_false_eq_true, false_and, and_false, reduceCtorEq, List.filter_nil, List.filter_cons, List.isEmpty_nil, List.isEmpty_cons, bne_self_eq_false, Nat.reduceBneDiff, Nat.lt_add_one, Nat.zero_lt_succ, List.append_assoc, Nat.zero_le, and_self_iff, Int.reduceToNat, List.any_nil, List.any_cons, List.filterMap_nil, List.filterMap_cons, List.contains_nil, List.contains_cons, Bool.or_false, Bool.false_or, Bool.or_true, Bool.true_or, Bool.false_and, Bool.and_false, decide_eq_true_eq, decide_eq_false_iff_not, beq_iff_eq, Int.toNat_natCast, loopK_normal, loopK_exit, loopK_ret, ↓reduceIte, Bool.false_eq_true, Bool.not_true, Bool.not_false, bne_self_eq_false, beq_self_eq_true]
    split
    · exact ⟨_, [], rfl, ⟨⟨⟨rfl, rfl, rfl⟩, trivial⟩, trivial, by simp [rn, hpAt]⟩⟩
    · refine ⟨⟨_, rfl⟩, ⟨_, rfl, by omega⟩, ⟨_, rfl, by omega⟩, ⟨C, rfl, rfl, by omega⟩, ?_⟩
      refine e_loop _ _ _ _ _ _ _ _ (fun k : Nat => [.any, .any, .any, .ptr 0 0, .any, .l 1 (nRows (T ++ [z])), .l 9 (pRows C), .any, .any, .any, (shCell k (ptRows (keptL C (T ++ [z]) k))), .v (.int .i64 (k : Int))] ++ List.replicate (Try.f9.ntmps - 12) .any) (fun k => ([(0, .var 24 [.v (.int .i64 V.f), .v (.int .i64 V.t), .v (.int .i64 V.pr), .v (.int .i64 V.h), .v (.int .i64 V.i), .v (.int .i64 V.a), .v (.bool V.m), .v (.bool V.u), .l 1 (rowsOfBytes V.d)])] ++ shBlk k)) (fun k => k ≤ (T ++ [z]).length) (fun k => (T ++ [z]).length - k) 2 (fun k => by by_cases h : k = 0 <;> simp [shBlk, h]) ?_ fun k hk' => ?_
      · exact ⟨0, [(0, some _), (1, some _)], Nat.zero_le _, ⟨⟨trivial, trivial, trivial, ⟨rfl, rfl, rfl⟩, trivial, ⟨rfl, rfl, rfl⟩, ⟨rfl, rfl, rfl⟩, trivial, trivial, trivial, ⟨rfl, rfl, rfl⟩, ⟨rfl, rfl, rfl⟩, fitT_rep _ _ rfl⟩, ⟨.inl rfl, rfl, rfl, rfl, .inl rfl, rfl, rfl, rfl, trivial⟩, by simp [rn, hpAt, shBlk]⟩, by simp [keepIds, shBlk]⟩
      have w2 : IntKind.i64.wrap ((k : Int) + 1) = ((k + 1 : Nat) : Int) := by rw [wrap_id] <;> omega
      have wl : IntKind.i64.wrap (((T ++ [z]).length : Int) - 1) = ((T.length : Nat) : Int) := by rw [hlen, wrap_id] <;> omega
      have hkm := keptL_mid hCm (T ++ [z]) k
      by_cases hk : k < (T ++ [z]).length
      · have hlt : ((k : Int) < ((T ++ [z]).length : Int)) = True := eq_true (by omega)
        have h0 : (0 ≤ (k : Int)) = True := eq_true (by omega)
        have hrow := nRows_get (T ++ [z]) k hk
        obtain ⟨L, hL⟩ : ∃ L, keptL C (T ++ [z]) k = L := ⟨_, rfl⟩
        have hcase : (∃ (i : Nat) (hi : i < C.length), (T ++ [z])[k] = i ∧ (k < T.length ∧ phF L C[i] 5 = keptL C (T ++ [z]) (k + 1) ∧ phB L C[i] 5 = false ∧ phS L C[i] 5 = false)) ∨ (∃ (i : Nat) (hi : i < C.length), (T ++ [z])[k] = i ∧ (k = T.length ∧ phF L C[i] 5 = [] ∧ phB L C[i] 5 = true ∧ phS L C[i] 5 = false ∧ (phP L C[i] 5).d = V.d)) := by
          by_cases hkT : k < T.length
          · left
            obtain ⟨hi, a, b, c⟩ := keep_mid hwh hz2 hz3 hz1 hkT
            rw [hL] at a b c
            exact ⟨T[k], hi, List.getElem_append_left hkT, hkT, a, b, c⟩
          · right
            have hkT' : k = T.length := by omega
            subst hkT'
            obtain ⟨a, b, c, d⟩ := keep_last hwh hz1 hz3 hz2 hz4
            rw [hL] at a b c d
            exact ⟨z, hz1, by simp, rfl, a, b, c, by rw [d, hjo]⟩
        rcases hcase with ⟨i, hi, hik, hkT, a, b, c⟩ | ⟨i, hi, hik, hkT, a, b, c, d⟩
        · have hrowi := pRows_get C i hi
          have hi0 : (0 ≤ (i : Int)) = True := eq_true (by omega)
          have hi1 : ((i : Int) < (C.length : Int)) = True := eq_true (by omega)
          have hE : (⟨C[i].f, C[i].t, C[i].p, C[i].h, C[i].i, C[i].a, C[i].m, C[i].u, C[i].d⟩ : Pk) = C[i] := rfl
          have hid := hcb.2 _ (List.getElem_mem hi)
          have hne : ((k : Int) == ((T.length : Nat) : Int)) = false := by simp; omega
          obtain ⟨W, hW⟩ : ∃ W, phP L C[i] 5 = W := ⟨_, rfl⟩
          rw [hik] at hrow
          by_cases hk0 : k = 0
          · have hL0 : L = [] := by rw [← hL, hk0, keptL, if_pos (.inl rfl)]
            have hsc : shCell k (ptRows L) = .own 1 := if_pos hk0
            have hsb : shBlk k = [(1, .sl 36 2 [])] := if_pos hk0
            rw [hL, hsc, hsb]
            have hnil : ptsOf [] = L := by rw [hL0]; rfl
            simp (maxSteps := 3000000) only [Try.f9, lsh, hlt, h0, hrow, hrowi, hi0, hi1, hE, hnil, a, b, c, hW, hne, w2, wl, nRow, D.toI, dB, D.toB, D.toL, pRow, List.cons_append, List.nil_append, decide_false, ocOf, g_alive, g_sameBytes, g_samePackets, g_sPacketCut, g_hearPD, g_drawSh, bytesOf_rows, rowsOf_len, pRows_len, nRows_len, ptRows_len, ptsOf_rows, tY2, tY3, tY4, tY5, tY9, tY12, tY21, tY22, tY23, tY24, tY27, tY35, tY36, tY47, tY55, tY83, tY84, tY97, tY106, Try.underlying2, Try.underlying3, Try.underlying4, Try.underlying5, Try.underlying9, Try.underlying12, Try.underlying21, Try.underlying22, Try.underlying23, Try.underlying24, Try.underlying27, Try.underlying35, Try.underlying36, Try.underlying47, Try.underlying55, Try.underlying83, Try.underlying84, Try.underlying97, Try.underlying106, e_skip, e_label, e_ret, e_exit, e_seq, e_cond, e_block, e_region, seqK_normal, seqK_ret, seqK_exit, blkK_normal, blkK_ret, blkK_exit, condK_some, regK_true, regK_false, e_nil, e_cons, gateK_go, gateK_skip, gateK_ask, pickK_some, exK_some, x_pick, x_move, x_assign, x_alloc, x_box, x_build, x_buildSlice, x_load, x_store, x_binOp, x_unOp, x_convert, x_makeSlice, x_slice, x_fieldAddr, x_field, x_indexAddr, x_extract, x_nilCheck, x_call, x_len, x_append, x_min, oMin, x_copy, oCopy, eqAVs, callK_some, done_ret, done_normal, doneO_ret, doneO_normal, endsO_one, endsO_nil, endsO_more, ownAbs, frzAbs, leafs, leafs.leafsL, uniq, idxOf, bk, zipB, Blk.liveB, gate_none, gate_some, gateS_none, gateS_some, gateV_bool, gateV_undef, boolOf, evA, putT, refn, fpD, oBin, oUn, upsl, upl, up, ups, lk, dstsOf, resL, resA, packA, oLoadQ, oLoadKid, oStoreQ, oStoreTree, oBuildSliceQ, oBuildTree, oAppendQ, oAppendTree, isTr, isTrP, tkd, tkds, tkRows, ownOf, nodupB, deadL, treeOf, kidAbs, kidBlk, kidRows, TK.isCell, D.toL, oLoad, oStore, oAlloc, oBox, oBuild, oBuildSlice, oMake, oAppend, oIndexAddr, oFieldAddr, oField, oExtract, oNil, oSlice, oLen, oConvert, rowLoad, fillA, fillR, slB, dk, dks, dkRows, frz, loOf, hiOf, lenOf, rowsOf, nilV, lenV, putAt, views, viewsOk, CK.av, CK.ok, AV.cells, AV.one, Value.oneCell', Value.cells, pureAbs, nrm, nrm.nrmL, hpAt, sh, AV.ren, AV.ren.renL, Blk.ren, fpOf, footO, foot, blkIds, AV.ids, AV.ids.idsL, Op.operands, Call.operands, List.find?_cons, List.find?_nil, Nat.reduceBEq, beq_self_eq_true, List.map_cons, List.map_nil, List.getD_cons_zero, List.getD_cons_succ, List.getD_nil, List.set_cons_zero, List.set_cons_succ, List.length_cons, List.length_nil, List.replicate, List.cons_append, List.nil_append, List.append_nil, List.getElem?_cons_zero, List.getElem?_cons_succ, List.getElem?_toArray, List.getElem?_nil, List.take_zero, List.take_succ_cons, List.take_nil, List.drop_zero, List.drop_succ_cons, List.drop_nil, List.headD_cons, List.tail_cons, List.flatten_cons, List.flatten_nil, List.flatMap_cons, List.flatMap_nil, List.toList_toArray, Array.toList_append, Option.bind_some, Option.map_some, Option.map_none, Option.isSome_some, List.all_nil, List.all_cons, Bool.and_self, Bool.and_true, Bool.true_and, true_and, and_true, ↓reduceIte, List.size_toArray, Bool.false_eq_true, Bool.true_eq_false, false_implies, true_implies, Bool.not_true, Bool.not_false, and_self, implies_true, decide_true, decide_false, Nat.reduceAdd, Nat.reduceMul, Nat.reduceLT, Nat.reduceSub, Nat.reduceLeDiff, Nat.reduceEqDiff, eq_self, ne_eq, not_false_eq_true, false_and, and_false, reduceCtorEq, List.filter_nil, List.filter_cons, List.isEmpty_nil, List.isEmpty_cons, bne_self_eq_false, Nat.reduceBneDiff, Nat.lt_add_one, Nat.zero_lt_succ, List.append_assoc, Nat.zero_le, and_self_iff, Int.reduceToNat, List.any_nil, List.any_cons, List.filterMap_nil, List.filterMap_cons, List.contains_nil, List.contains_cons, Bool.or_false, Bool.false_or, Bool.or_true, Bool.true_or, Bool.false_and, Bool.and_false, decide_eq_true_eq, decide_eq_false_iff_not, beq_iff_eq, Int.toNat_natCast, loopK_normal, loopK_exit, loopK_ret, ↓reduceIte, Bool.false_eq_true, Bool.not_true, Bool.not_false, bne_self_eq_false, beq_self_eq_true]
            refine ⟨⟨⟨[], rfl, m0⟩, ⟨_, rfl, by omega⟩⟩, ?_⟩
            exact ⟨k + 1, [(0, some 0)], by omega, by omega, ⟨⟨trivial, trivial, trivial, ⟨rfl, rfl, rfl⟩, trivial, ⟨rfl, rfl, rfl⟩, ⟨rfl, rfl, rfl⟩, trivial, trivial, trivial, ⟨rfl, rfl, rfl⟩, ⟨rfl, rfl, rfl⟩, fitT_rep _ _ rfl⟩, ⟨.inl rfl, rfl, rfl, rfl, trivial⟩, by simp [rn, hpAt, shBlk]⟩, by simp [keepIds, shBlk]⟩
          · have hsc : shCell k (ptRows L) = .l 2 (ptRows L) := if_neg hk0
            have hsb : shBlk k = [] := if_neg hk0
            rw [hL, hsc, hsb]
            simp (maxSteps := 3000000) only [Try.f9, lsh, hlt, h0, hrow, hrowi, hi0, hi1, hE, a, b, c, hW, hne, w2, wl, nRow, D.toI, dB, D.toB, D.toL, pRow, List.cons_append, List.nil_append, List.append_nil, decide_false, ocOf, g_alive, g_sameBytes, g_samePackets, g_sPacketCut, g_hearPD, g_drawSh, bytesOf_rows, rowsOf_len, pRows_len, nRows_len, ptRows_len, ptsOf_rows, tY2, tY3, tY4, tY5, tY9, tY12, tY21, tY22, tY23, tY24, tY27, tY35, tY36, tY47, tY55, tY83, tY84, tY97, tY106, Try.underlying2, Try.underlying3, Try.underlying4, Try.underlying5, Try.underlying9, Try.underlying12, Try.underlying21, Try.underlying22, Try.underlying23, Try.underlying24, Try.underlying27, Try.underlying35, Try.underlying36, Try.underlying47, Try.underlying55, Try.underlying83, Try.underlying84, Try.underlying97, Try.underlying106, e_skip, e_label, e_ret, e_exit, e_seq, e_cond, e_block, e_region, seqK_normal, seqK_ret, seqK_exit, blkK_normal, blkK_ret, blkK_exit, condK_some, regK_true, regK_false, e_nil, e_cons, gateK_go, gateK_skip, gateK_ask, pickK_some, exK_some, x_pick, x_move, x_assign, x_alloc, x_box, x_build, x_buildSlice, x_load, x_store, x_binOp, x_unOp, x_convert, x_makeSlice, x_slice, x_fieldAddr, x_field, x_indexAddr, x_extract, x_nilCheck, x_call, x_len, x_append, x_min, oMin, x_copy, oCopy, eqAVs, callK_some, done_ret, done_normal, doneO_ret, doneO_normal, endsO_one, endsO_nil, endsO_more, ownAbs, frzAbs, leafs, leafs.leafsL, uniq, idxOf, bk, zipB, Blk.liveB, gate_none, gate_some, gateS_none, gateS_some, gateV_bool, gateV_undef, boolOf, evA, putT, refn, fpD, oBin, oUn, upsl, upl, up, ups, lk, dstsOf, resL, resA, packA, oLoadQ, oLoadKid, oStoreQ, oStoreTree, oBuildSliceQ, oBuildTree, oAppendQ, oAppendTree, isTr, isTrP, tkd, tkds, tkRows, ownOf, nodupB, deadL, treeOf, kidAbs, kidBlk, kidRows, TK.isCell, D.toL, oLoad, oStore, oAlloc, oBox, oBuild, oBuildSlice, oMake, oAppend, oIndexAddr, oFieldAddr, oField, oExtract, oNil, oSlice, oLen, oConvert, rowLoad, fillA, fillR, slB, dk, dks, dkRows, frz, loOf, hiOf, lenOf, rowsOf, nilV, lenV, putAt, views, viewsOk, CK.av, CK.ok, AV.cells, AV.one, Value.oneCell', Value.cells, pureAbs, nrm, nrm.nrmL, hpAt, sh, AV.ren, AV.ren.renL, Blk.ren, fpOf, footO, foot, blkIds, AV.ids, AV.ids.idsL, Op.operands, Call.operands, List.find?_cons, List.find?_nil, Nat.reduceBEq, beq_self_eq_true, List.map_cons, List.map_nil, List.getD_cons_zero, List.getD_cons_succ, List.getD_nil, List.set_cons_zero, List.set_cons_succ, List.length_cons, List.length_nil, List.replicate, List.cons_append, List.nil_append, List.append_nil, List.getElem?_cons_zero, List.getElem?_cons_succ, List.getElem?_toArray, List.getElem?_nil, List.take_zero, List.take_succ_cons, List.take_nil, List.drop_zero, List.drop_succ_cons, List.drop_nil, List.headD_cons, List.tail_cons, List.flatten_cons, List.flatten_nil, List.flatMap_cons, List.flatMap_nil, List.toList_toArray, Array.toList_append, Option.bind_some, Option.map_some, Option.map_none, Option.isSome_some, List.all_nil, List.all_cons, Bool.and_self, Bool.and_true, Bool.true_and, true_and, and_true, ↓reduceIte, List.size_toArray, Bool.false_eq_true, Bool.true_eq_false, false_implies, true_implies, Bool.not_true, Bool.not_false, and_self, implies_true, decide_true, decide_false, Nat.reduceAdd, Nat.reduceMul, Nat.reduceLT, Nat.reduceSub, Nat.reduceLeDiff, Nat.reduceEqDiff, eq_self, ne_eq, not_false_eq_true, false_and, and_false, reduceCtorEq, List.filter_nil, List.filter_cons, List.isEmpty_nil, List.isEmpty_cons, bne_self_eq_false, Nat.reduceBneDiff, Nat.lt_add_one, Nat.zero_lt_succ, List.append_assoc, Nat.zero_le, and_self_iff, Int.reduceToNat, List.any_nil, List.any_cons, List.filterMap_nil, List.filterMap_cons, List.contains_nil, List.contains_cons, Bool.or_false, Bool.false_or, Bool.or_true, Bool.true_or, Bool.false_and, Bool.and_false, decide_eq_true_eq, decide_eq_false_iff_not, beq_iff_eq, Int.toNat_natCast, loopK_normal, loopK_exit, loopK_ret, ↓reduceIte, Bool.false_eq_true, Bool.not_true, Bool.not_false, bne_self_eq_false, beq_self_eq_true]
            rw [hL] at hkm
            refine ⟨⟨⟨L, rfl, hkm⟩, ⟨_, rfl, by omega⟩⟩, ?_⟩
            exact ⟨k + 1, [(0, some 0)], by omega, by omega, ⟨⟨trivial, trivial, trivial, ⟨rfl, rfl, rfl⟩, trivial, ⟨rfl, rfl, rfl⟩, ⟨rfl, rfl, rfl⟩, trivial, trivial, trivial, ⟨rfl, rfl, rfl⟩, ⟨rfl, rfl, rfl⟩, fitT_rep _ _ rfl⟩, ⟨.inl rfl, rfl, rfl, rfl, trivial⟩, by simp [rn, hpAt, shBlk]⟩, by simp [keepIds, shBlk]⟩
        · have hrowi := pRows_get C i hi
          have hi0 : (0 ≤ (i : Int)) = True := eq_true (by omega)
          have hi1 : ((i : Int) < (C.length : Int)) = True := eq_true (by omega)
          have hE : (⟨C[i].f, C[i].t, C[i].p, C[i].h, C[i].i, C[i].a, C[i].m, C[i].u, C[i].d⟩ : Pk) = C[i] := rfl
          have hid := hcb.2 _ (List.getElem_mem hi)
          have hne : ((k : Int) == ((T.length : Nat) : Int)) = true := by simp; omega
          have hz0 : ((((0 : Nat) : Int)) != 0) = false := rfl
          obtain ⟨W, hW⟩ : ∃ W, phP L C[i] 5 = W := ⟨_, rfl⟩
          rw [hW] at d
          rw [hik] at hrow
          have hend : keptL C (T ++ [z]) (k + 1) = [] := by rw [keptL, if_pos (.inr (by omega))]
          have hr0 : (keptL C (T ++ [z]) (k + 1)).length = 0 := by rw [hend]; rfl
          rw [← hend] at a
          by_cases hk0 : k = 0
          · have hL0 : L = [] := by rw [← hL, hk0, keptL, if_pos (.inl rfl)]
            have hsc : shCell k (ptRows L) = .own 1 := if_pos hk0
            have hsb : shBlk k = [(1, .sl 36 2 [])] := if_pos hk0
            rw [hL, hsc, hsb]
            have hnil : ptsOf [] = L := by rw [hL0]; rfl
            simp (maxSteps := 3000000) only [Try.f9, lsh, hlt, h0, hrow, hrowi, hi0, hi1, hE, hnil, a, b, c, hW, d, hne, hz0, hr0, w2, wl, nRow, D.toI, dB, D.toB, D.toL, pRow, List.cons_append, List.nil_append, decide_true, ocOf, g_alive, g_sameBytes, g_samePackets, g_sPacketCut, g_hearPD, g_drawSh, bytesOf_rows, rowsOf_len, pRows_len, nRows_len, ptRows_len, ptsOf_rows, tY2, tY3, tY4, tY5, tY9, tY12, tY21, tY22, tY23, tY24, tY27, tY35, tY36, tY47, tY55, tY83, tY84, tY97, tY106, Try.underlying2, Try.underlying3, Try.underlying4, Try.underlying5, Try.underlying9, Try.underlying12, Try.underlying21, Try.underlying22, Try.underlying23, Try.underlying24, Try.underlying27, Try.underlying35, Try.underlying36, Try.underlying47, Try.underlying55, Try.underlying83, Try.underlying84, Try.underlying97, Try.underlying106, e_skip, e_label, e_ret, e_exit, e_seq, e_cond, e_block, e_region, seqK_normal, seqK_ret, seqK_exit, blkK_normal, blkK_ret, blkK_exit, condK_some, regK_true, regK_false, e_nil, e_cons, gateK_go, gateK_skip, gateK_ask, pickK_some, exK_some, x_pick, x_move, x_assign, x_alloc, x_box, x_build, x_buildSlice, x_load, x_store, x_binOp, x_unOp, x_convert, x_makeSlice, x_slice, x_fieldAddr, x_field, x_indexAddr, x_extract, x_nilCheck, x_call, x_len, x_append, x_min, oMin, x_copy, oCopy, eqAVs, callK_some, done_ret, done_normal, doneO_ret, doneO_normal, endsO_one, endsO_nil, endsO_more, ownAbs, frzAbs, leafs, leafs.leafsL, uniq, idxOf, bk, zipB, Blk.liveB, gate_none, gate_some, gateS_none, gateS_some, gateV_bool, gateV_undef, boolOf, evA, putT, refn, fpD, oBin, oUn, upsl, upl, up, ups, lk, dstsOf, resL, resA, packA, oLoadQ, oLoadKid, oStoreQ, oStoreTree, oBuildSliceQ, oBuildTree, oAppendQ, oAppendTree, isTr, isTrP, tkd, tkds, tkRows, ownOf, nodupB, deadL, treeOf, kidAbs, kidBlk, kidRows, TK.isCell, D.toL, oLoad, oStore, oAlloc, oBox, oBuild, oBuildSlice, oMake, oAppend, oIndexAddr, oFieldAddr, oField, oExtract, oNil, oSlice, oLen, oConvert, rowLoad, fillA, fillR, slB, dk, dks, dkRows, frz, loOf, hiOf, lenOf, rowsOf, nilV, lenV, putAt, views, viewsOk, CK.av, CK.ok, AV.cells, AV.one, Value.oneCell', Value.cells, pureAbs, nrm, nrm.nrmL, hpAt, sh, AV.ren, AV.ren.renL, Blk.ren, fpOf, footO, foot, blkIds, AV.ids, AV.ids.idsL, Op.operands, Call.operands, List.find?_cons, List.find?_nil, Nat.reduceBEq, beq_self_eq_true, List.map_cons, List.map_nil, List.getD_cons_zero, List.getD_cons_succ, List.getD_nil, List.set_cons_zero, List.set_cons_succ, List.length_cons, List.length_nil, List.replicate, List.cons_append, List.nil_append, List.append_nil, List.getElem?_cons_zero, List.getElem?_cons_succ, List.getElem?_toArray, List.getElem?_nil, List.take_zero, List.take_succ_cons, List.take_nil, List.drop_zero, List.drop_succ_cons, List.drop_nil, List.headD_cons, List.tail_cons, List.flatten_cons, List.flatten_nil, List.flatMap_cons, List.flatMap_nil, List.toList_toArray, Array.toList_append, Option.bind_some, Option.map_some, Option.map_none, Option.isSome_some, List.all_nil, List.all_cons, Bool.and_self, Bool.and_true, Bool.true_and, true_and, and_true, ↓reduceIte, List.size_toArray, Bool.false_eq_true, Bool.true_eq_false, false_implies, true_implies, Bool.not_true, Bool.not_false, and_self, implies_true, decide_true, decide_false, Nat.reduceAdd, Nat.reduceMul, Nat.reduceLT, Nat.reduceSub, Nat.reduceLeDiff, Nat.reduceEqDiff, eq_self, ne_eq, not_false_eq_true, false_and, and_false, reduceCtorEq, List.filter_nil, List.filter_cons, List.isEmpty_nil, List.isEmpty_cons, bne_self_eq_false, Nat.reduceBneDiff, Nat.lt_add_one, Nat.zero_lt_succ, List.append_assoc, Nat.zero_le, and_self_iff, Int.reduceToNat, List.any_nil, List.any_cons, List.filterMap_nil, List.filterMap_cons, List.contains_nil, List.contains_cons, Bool.or_false, Bool.false_or, Bool.or_true, Bool.true_or, Bool.false_and, Bool.and_false, decide_eq_true_eq, decide_eq_false_iff_not, beq_iff_eq, Int.toNat_natCast, loopK_normal, loopK_exit, loopK_ret, ↓reduceIte, Bool.false_eq_true, Bool.not_true, Bool.not_false, bne_self_eq_false, beq_self_eq_true]
            refine ⟨⟨⟨[], rfl, m0⟩, ⟨_, rfl, by omega⟩⟩, ⟨_, rfl⟩, ?_⟩
            exact ⟨k + 1, [(0, some 0)], by omega, by omega, ⟨⟨trivial, trivial, trivial, ⟨rfl, rfl, rfl⟩, trivial, ⟨rfl, rfl, rfl⟩, ⟨rfl, rfl, rfl⟩, trivial, trivial, trivial, ⟨rfl, rfl, rfl⟩, ⟨rfl, rfl, rfl⟩, fitT_rep _ _ rfl⟩, ⟨.inl rfl, rfl, rfl, rfl, trivial⟩, by simp [rn, hpAt, shBlk]⟩, by simp [keepIds, shBlk]⟩
          · have hsc : shCell k (ptRows L) = .l 2 (ptRows L) := if_neg hk0
            have hsb : shBlk k = [] := if_neg hk0
            rw [hL, hsc, hsb]
            simp (maxSteps := 3000000) only [Try.f9, lsh, hlt, h0, hrow, hrowi, hi0, hi1, hE, a, b, c, hW, d, hne, hz0, hr0, w2, wl, nRow, D.toI, dB, D.toB, D.toL, pRow, List.cons_append, List.nil_append, List.append_nil, decide_true, ocOf, g_alive, g_sameBytes, g_samePackets, g_sPacketCut, g_hearPD, g_drawSh, bytesOf_rows, rowsOf_len, pRows_len, nRows_len, ptRows_len, ptsOf_rows, tY2, tY3, tY4, tY5, tY9, tY12, tY21, tY22, tY23, tY24, tY27, tY35, tY36, tY47, tY55, tY83, tY84, tY97, tY106, Try.underlying2, Try.underlying3, Try.underlying4, Try.underlying5, Try.underlying9, Try.underlying12, Try.underlying21, Try.underlying22, Try.underlying23, Try.underlying24, Try.underlying27, Try.underlying35, Try.underlying36, Try.underlying47, Try.underlying55, Try.underlying83, Try.underlying84, Try.underlying97, Try.underlying106, e_skip, e_label, e_ret, e_exit, e_seq, e_cond, e_block, e_region, seqK_normal, seqK_ret, seqK_exit, blkK_normal, blkK_ret, blkK_exit, condK_some, regK_true, regK_false, e_nil, e_cons, gateK_go, gateK_skip, gateK_ask, pickK_some, exK_some, x_pick, x_move, x_assign, x_alloc, x_box, x_build, x_buildSlice, x_load, x_store, x_binOp, x_unOp, x_convert, x_makeSlice, x_slice, x_fieldAddr, x_field, x_indexAddr, x_extract, x_nilCheck, x_call, x_len, x_append, x_min, oMin, x_copy, oCopy, eqAVs, callK_some, done_ret, done_normal, doneO_ret, doneO_normal, endsO_one, endsO_nil, endsO_more, ownAbs, frzAbs, leafs, leafs.leafsL, uniq, idxOf, bk, zipB, Blk.liveB, gate_none, gate_some, gateS_none, gateS_some, gateV_bool, gateV_undef, boolOf, evA, putT, refn, fpD, oBin, oUn, upsl, upl, up, ups, lk, dstsOf, resL, resA, packA, oLoadQ, oLoadKid, oStoreQ, oStoreTree, oBuildSliceQ, oBuildTree, oAppendQ, oAppendTree, isTr, isTrP, tkd, tkds, tkRows, ownOf, nodupB, deadL, treeOf, kidAbs, kidBlk, kidRows, TK.isCell, D.toL, oLoad, oStore, oAlloc, oBox, oBuild, oBuildSlice, oMake, oAppend, oIndexAddr, oFieldAddr, oField, oExtract, oNil, oSlice, oLen, oConvert, rowLoad, fillA, fillR, slB, dk, dks, dkRows, frz, loOf, hiOf, lenOf, rowsOf, nilV, lenV, putAt, views, viewsOk, CK.av, CK.ok, AV.cells, AV.one, Value.oneCell', Value.cells, pureAbs, nrm, nrm.nrmL, hpAt, sh, AV.ren, AV.ren.renL, Blk.ren, fpOf, footO, foot, blkIds, AV.ids, AV.ids.idsL, Op.operands, Call.operands, List.find?_cons, List.find?_nil, Nat.reduceBEq, beq_self_eq_true, List.map_cons, List.map_nil, List.getD_cons_zero, List.getD_cons_succ, List.getD_nil, List.set_cons_zero, List.set_cons_succ, List.length_cons, List.length_nil, List.replicate, List.cons_append, List.nil_append, List.append_nil, List.getElem?_cons_zero, List.getElem?_cons_succ, List.getElem?_toArray, List.getElem?_nil, List.take_zero, List.take_succ_cons, List.take_nil, List.drop_zero, List.drop_succ_cons, List.drop_nil, List.headD_cons, List.tail_cons, List.flatten_cons, List.flatten_nil, List.flatMap_cons, List.flatMap_nil, List.toList_toArray, Array.toList_append, Option.bind_some, Option.map_some, Option.map_none, Option.isSome_some, List.all_nil, List.all_cons, Bool.and_self, Bool.and_true, Bool.true_and, true_and, and_true, ↓reduceIte, List.size_toArray, Bool.false_eq_true, Bool.true_eq_false, false_implies, true_implies, Bool.not_true, Bool.not_false, and_self, implies_true, decide_true, decide_false, Nat.reduceAdd, Nat.reduceMul, Nat.reduceLT, Nat.reduceSub, Nat.reduceLeDiff, Nat.reduceEqDiff, eq_self, ne_eq, not_false_eq_true, false_and, and_false, reduceCtorEq, List.filter_nil, List.filter_cons, List.isEmpty_nil, List.isEmpty_cons, bne_self_eq_false, Nat.reduceBneDiff, Nat.lt_add_one, Nat.zero_lt_succ, List.append_assoc, Nat.zero_le, and_self_iff, Int.reduceToNat, List.any_nil, List.any_cons, List.filterMap_nil, List.filterMap_cons, List.contains_nil, List.contains_cons, Bool.or_false, Bool.false_or, Bool.or_true, Bool.true_or, Bool.false_and, Bool.and_false, decide_eq_true_eq, decide_eq_false_iff_not, beq_iff_eq, Int.toNat_natCast, loopK_normal, loopK_exit, loopK_ret, ↓reduceIte, Bool.false_eq_true, Bool.not_true, Bool.not_false, bne_self_eq_false, beq_self_eq_true]
            rw [hL] at hkm
            refine ⟨⟨⟨L, rfl, hkm⟩, ⟨_, rfl, by omega⟩⟩, ⟨_, rfl⟩, ?_⟩
            exact ⟨k + 1, [(0, some 0)], by omega, by omega, ⟨⟨trivial, trivial, trivial, ⟨rfl, rfl, rfl⟩, trivial, ⟨rfl, rfl, rfl⟩, ⟨rfl, rfl, rfl⟩, trivial, trivial, trivial, ⟨rfl, rfl, rfl⟩, ⟨rfl, rfl, rfl⟩, fitT_rep _ _ rfl⟩, ⟨.inl rfl, rfl, rfl, rfl, trivial⟩, by simp [rn, hpAt, shBlk]⟩, by simp [keepIds, shBlk]⟩
      · have hlt : ((k : Int) < ((T ++ [z]).length : Int)) = False := eq_false (by omega)
        have hk0 : ¬ k = 0 := by omega
        have hsc : shCell k (ptRows (keptL C (T ++ [z]) k)) = .l 2 (ptRows (keptL C (T ++ [z]) k)) := if_neg hk0
        have hsb : shBlk k = [] := if_neg hk0
        rw [hsc, hsb]
        simp (maxSteps := 3000000) only [Try.f9, lsh, hlt, w2, List.append_nil, ocOf, g_alive, g_sameBytes, g_samePackets, g_sPacketCut, g_hearPD, g_drawSh, bytesOf_rows, rowsOf_len, pRows_len, nRows_len, ptRows_len, ptsOf_rows, tY2, tY3, tY4, tY5, tY9, tY12, tY21, tY22, tY23, tY24, tY27, tY35, tY36, tY47, tY55, tY83, tY84, tY97, tY106, Try.underlying2, Try.underlying3, Try.underlying4, Try.underlying5, Try.underlying9, Try.underlying12, Try.underlying21, Try.underlying22, Try.underlying23, Try.underlying24, Try.underlying27, Try.underlying35, Try.underlying36, Try.underlying47, Try.underlying55, Try.underlying83, Try.underlying84, Try.underlying97, Try.underlying106, e_skip, e_label, e_ret, e_exit, e_seq, e_cond, e_block, e_region, seqK_normal, seqK_ret, seqK_exit, blkK_normal, blkK_ret, blkK_exit, condK_some, regK_true, regK_false, e_nil, e_cons, gateK_go, gateK_skip, gateK_ask, pickK_some, exK_some, x_pick, x_move, x_assign, x_alloc, x_box, x_build, x_buildSlice, x_load, x_store, x_binOp, x_unOp, x_convert, x_makeSlice, x_slice, x_fieldAddr, x_field, x_indexAddr, x_extract, x_nilCheck, x_call, x_len, x_append, x_min, oMin, x_copy, oCopy, eqAVs, callK_some, done_ret, done_normal, doneO_ret, doneO_normal, endsO_one, endsO_nil, endsO_more, ownAbs, frzAbs, leafs, leafs.leafsL, uniq, idxOf, bk, zipB, Blk.liveB, gate_none, gate_some, gateS_none, gateS_some, gateV_bool, gateV_undef, boolOf, evA, putT, refn, fpD, oBin, oUn, upsl, upl, up, ups, lk, dstsOf, resL, resA, packA, oLoadQ, oLoadKid, oStoreQ, oStoreTree, oBuildSliceQ, oBuildTree, oAppendQ, oAppendTree, isTr, isTrP, tkd, tkds, tkRows, ownOf, nodupB, deadL, treeOf, kidAbs, kidBlk, kidRows, TK.isCell, D.toL, oLoad, oStore, oAlloc, oBox, oBuild, oBuildSlice, oMake, oAppend, oIndexAddr, oFieldAddr, oField, oExtract, oNil, oSlice, oLen, oConvert, rowLoad, fillA, fillR, slB, dk, dks, dkRows, frz, loOf, hiOf, lenOf, rowsOf, nilV, lenV, putAt, views, viewsOk, CK.av, CK.ok, AV.cells, AV.one, Value.oneCell', Value.cells, pureAbs, nrm, nrm.nrmL, hpAt, sh, AV.ren, AV.ren.renL, Blk.ren, fpOf, footO, foot, blkIds, AV.ids, AV.ids.idsL, Op.operands, Call.operands, List.find?_cons, List.find?_nil, Nat.reduceBEq, beq_self_eq_true, List.map_cons, List.map_nil, List.getD_cons_zero, List.getD_cons_succ, List.getD_nil, List.set_cons_zero, List.set_cons_succ, List.length_cons, List.length_nil, List.replicate, List.cons_append, List.nil_append, List.append_nil, List.getElem?_cons_zero, List.getElem?_cons_succ, List.getElem?_toArray, List.getElem?_nil, List.take_zero, List.take_succ_cons, List.take_nil, List.drop_zero, List.drop_succ_cons, List.drop_nil, List.headD_cons, List.tail_cons, List.flatten_cons, List.flatten_nil, List.flatMap_cons, List.flatMap_nil, List.toList_toArray, Array.toList_append, Option.bind_some, Option.map_some, Option.map_none, Option.isSome_some, List.all_nil, List.all_cons, Bool.and_self, Bool.and_true, Bool.true_and, true_and, and_true, ↓reduceIte, List.size_toArray, Bool.false_eq_true, Bool.true_eq_false, false_implies, true_implies, Bool.not_true, Bool.not_false, and_self, implies_true, decide_true, decide_false, Nat.reduceAdd, Nat.reduceMul, Nat.reduceLT, Nat.reduceSub, Nat.reduceLeDiff, Nat.reduceEqDiff, eq_self, ne_eq, not_false_eq_true, false_and, and_false, reduceCtorEq, List.filter_nil, List.filter_cons, List.isEmpty_nil, List.isEmpty_cons, bne_self_eq_false, Nat.reduceBneDiff, Nat.lt_add_one, Nat.zero_lt_succ, List.append_assoc, Nat.zero_le, and_self_iff, Int.reduceToNat, List.any_nil, List.any_cons, List.filterMap_nil, List.filterMap_cons, List.contains_nil, List.contains_cons, Bool.or_false, Bool.false_or, Bool.or_true, Bool.true_or, Bool.false_and, Bool.and_false, decide_eq_true_eq, decide_eq_false_iff_not, beq_iff_eq, Int.toNat_natCast, loopK_normal, loopK_exit, loopK_ret, ↓reduceIte, Bool.false_eq_true, Bool.not_true, Bool.not_false, bne_self_eq_false, beq_self_eq_true]
        exact ⟨_, [], rfl, ⟨⟨⟨rfl, rfl, rfl⟩, trivial⟩, trivial, by simp [rn, hpAt]⟩⟩
  · cases hg
theorem walk_PartsShuffled (A : Option Addr) (n c : Nat) (xs : List UInt8) (w : World) (h : Rd w w.heap.size A n (bv xs)) (hc : n ≤ c) :
    Calls Try.prog 9 #[.slice A n c] w fun e w' => e = .returned (.bool true) ∧ Below w.heap.size w w' :=
  lawPartsShuffled_ok.walk (vs := [_]) (arel_cons (.l _ _ _ (rep_of_rd h hc)) arel_nil) rfl ⟨xs, rfl⟩
end Go.Proofs.Ytdeldmagmljacaa
