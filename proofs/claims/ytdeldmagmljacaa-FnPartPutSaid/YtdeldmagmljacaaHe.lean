import Derived.Test.YtdeldmagmljacaaHd
import Derived.Test.YtdeldmagmljacaaXh
namespace Go.Proofs.Ytdeldmagmljacaa
open Go.RowKit
set_option linter.unusedSimpArgs false
set_option linter.unusedVariables false

/-! PartPut: what is drawn, the law -/
def g_putD : PC := fun args => match args with
  | [.agg [.l _ rows', .v (.int .i64 un)], .agg [.v (.int .i64 f), .v (.int .i64 t), .v (.int .i64 p), .v (.int .i64 h), .v (.int .i64 i), .v (.int .i64 a), .v (.bool m), .v (.bool u), .l _ rows]] => some ((∃ ps, rows' = pRows ps ∧ pMid ps) ∧ ∃ xs, rows = rowsOfBytes xs ∧ xs.length ≤ 1048576,
      .tup [.agg [.l 9 (pRows (putL (psOf rows') un ⟨f, t, p, h, i, a, m, u, bytesOfRows rows⟩)), .v (.int .i64 (putU (psOf rows') un ⟨f, t, p, h, i, a, m, u, bytesOfRows rows⟩))], .v (.bool (putO (psOf rows') un ⟨f, t, p, h, i, a, m, u, bytesOfRows rows⟩).isSome)], [])
  | _ => none
theorem putD_of {f : FuncId} (C : PureOk Try.prog f g_partPut) : OwnOk Try.prog f (ocOf g_putD) := by
  refine C.toOwn.toData.narrow fun args B0 c r B1 bs hg hc => ?_
  unfold ocOf g_putD at hg
  split at hg
  · split at hg
    · rename_i c' r' bs' hg'
      cases hg
      split at hg'
      · cases hg'
        exact ⟨_, rfl, hc⟩
      · cases hg'
    · cases hg
  · cases hg
theorem implPartPutD_ok : OwnOk Try.prog 26 (ocOf g_putD) := putD_of implPartPut_ok
theorem specPartPutD_ok : OwnOk Try.prog 27 (ocOf g_putD) := putD_of specPartPut_ok
/-- one of the pieces -/
def puI (xs : List UInt8) (C : List Pk) (q : Int) (k : Nat) : Pk := C.getD (pickV xs (q + (k : Int)) C.length).toNat pk0
/-- the part after so many pieces -/
def puL (xs : List UInt8) (C : List Pk) (q : Int) : Nat → List Pk
  | 0 => [puI xs C q 0]
  | k + 1 => (putO (puL xs C q k) 5 (puI xs C q (k + 1))).getD (puL xs C q k)
theorem puI_at (xs : List UInt8) (C : List Pk) (q : Int) (k : Nat) (hC : 0 < C.length) (hq : q + (k : Int) < 100000000000) : (0 ≤ pickV xs (q + (k : Int)) C.length ∧ pickV xs (q + (k : Int)) C.length < (C.length : Int)) ∧ ∃ h : (pickV xs (q + (k : Int)) C.length).toNat < C.length, puI xs C q k = C[(pickV xs (q + (k : Int)) C.length).toNat] := by
  have a0 := pickV_nonneg xs (q + (k : Int)) C.length (by omega)
  have a1 := pickV_lt xs (q + (k : Int)) C.length (by omega)
  refine ⟨⟨a0, a1⟩, by omega, ?_⟩
  rw [puI, List.getD_eq_getElem?_getD, List.getElem?_eq_getElem (by omega)]; rfl
theorem putO_part {ps r : List Pk} {u : Int} {q : Pk} (h : putO ps u q = some r) : partB r u = true := by
  unfold putO at h
  split at h
  · rename_i h1
    rw [Bool.and_eq_true, Bool.and_eq_true] at h1
    split at h
    · cases h; exact h1.1.1
    · split at h
      · cases h; assumption
      · cases h
  · cases h
theorem part_bd {r : List Pk} {u : Int} (h : partB r u = true) : r.length ≤ 49 ∧ ∀ y ∈ r, y.d.length ≤ 48 :=
  ⟨partB_len h, fun y hy => (pk_okR ((partB_all h).1 y hy)).2.2.2.2.2⟩
theorem puL_bd (xs : List UInt8) (C : List Pk) (q : Int) (hC : 0 < C.length) (hd : ∀ y ∈ C, y.d.length ≤ 48) (hq : q < 10000000000) : ∀ k : Nat, k ≤ 4 → (puL xs C q k).length ≤ 49 ∧ ∀ y ∈ puL xs C q k, y.d.length ≤ 48
  | 0, _ => by
    obtain ⟨h1, h2, h3⟩ := puI_at xs C q 0 hC (by omega)
    refine ⟨by simp [puL], fun y hy => ?_⟩
    rw [List.mem_singleton.1 hy, h3]
    exact hd _ (List.getElem_mem _)
  | k + 1, hk => by
    rw [puL]
    cases h : putO (puL xs C q k) 5 (puI xs C q (k + 1)) with
    | none => exact puL_bd xs C q hC hd hq k (by omega)
    | some r => exact part_bd (putO_part h)
def puCell (fl : Option Bool) (rows : List (List D)) : AV := match fl with
  | none => .l 9 rows
  | some _ => .own 4
def puBlk (fl : Option Bool) (rows : List (List D)) : HP := match fl with
  | none => []
  | some true => [(4, .sl 24 9 rows)]
  | some false => [(4, .still 9 rows)]
def puS (xs : List UInt8) : Int := (lnV xs 0).q + 1
def puV (xs : List UInt8) : List Pk := puL xs (dcC xs 0) (puS xs) 4
def puX (xs : List UInt8) : Pk := puI xs (dcC xs 0) (puS xs) 5
def puQ (xs : List UInt8) : Pk :=
  if pickV xs (puS xs + 6) 6 = 0 then { puX xs with a := (puX xs).a + 1 }
  else if pickV xs (puS xs + 6) 6 = 1 then { puX xs with d := bytesV xs (puS xs + 7 + 1) (1 + pickV xs (puS xs + 7) 4).toNat }
  else if pickV xs (puS xs + 6) 6 = 2 then { puX xs with h := (puX xs).h + 1 }
  else if pickV xs (puS xs + 6) 6 = 3 then pvK (pktV xs (puS xs + 7) 3)
  else puX xs
def g_drawPp : PC := fun args => match args with
  | [.l _ rows] => some (∃ xs, rows = rowsOfBytes xs, .tup [.agg [.l 9 (pRows (puV ((bytesOfRows rows).take 2000))), .v (.int .i64 5)], .agg [.v (.int .i64 (puQ ((bytesOfRows rows).take 2000)).f), .v (.int .i64 (puQ ((bytesOfRows rows).take 2000)).t), .v (.int .i64 (puQ ((bytesOfRows rows).take 2000)).p), .v (.int .i64 (puQ ((bytesOfRows rows).take 2000)).h), .v (.int .i64 (puQ ((bytesOfRows rows).take 2000)).i), .v (.int .i64 (puQ ((bytesOfRows rows).take 2000)).a), .v (.bool (puQ ((bytesOfRows rows).take 2000)).m), .v (.bool (puQ ((bytesOfRows rows).take 2000)).u), .l 1 (rowsOfBytes (puQ ((bytesOfRows rows).take 2000)).d)]], [])
  | _ => none
def dpp : List (FuncId × Abs) := [(38, ownAbs g_open), (41, ownAbs g_long), (39, ownAbs g_packet), (40, ownAbs g_pick), (56, ownAbs g_bytes), (13, ownAbs (ocOf g_sPacketCut)), (27, frzAbs g_putD)]
theorem dpp_ok : ∀ p ∈ dpp, CallOk Try.prog p.1 p.2 := by
  intro p hp
  simp only [dpp, List.mem_cons, List.not_mem_nil, or_false] at hp
  rcases hp with rfl | rfl | rfl | rfl | rfl | rfl | rfl
  · exact open_ok.call
  · exact long_ok.call
  · exact packet_ok.call
  · exact pick_ok.call
  · exact bytes_ok.call
  · exact specPacketCut_ok.call
  · exact specPartPutD_ok.callF
set_option maxHeartbeats 4000000 in
set_option maxRecDepth 100000 in
theorem drawPartPut_ok : OwnOk Try.prog 25 (ocOf g_drawPp) := by
  refine OwnOk.of_vcD (G := dpp) dpp_ok mixed Try.func25 (by kernel_rfl) rfl ?_
  intro args cnd r bs hg hc
  unfold g_drawPp at hg
  split at hg
  · rename_i sz rows
    cases hg
    obtain ⟨xs, rfl⟩ := hc
    rw [bytesOf_rows]
    have hx : (∃ ys, rowsOfBytes (List.take 2000 xs) = rowsOfBytes ys ∧ ys.length ≤ 2000) = True := eq_true ⟨_, rfl, by rw [List.length_take]; omega⟩
    obtain ⟨ys, hys⟩ : ∃ ys, ys = List.take 2000 xs := ⟨_, rfl⟩
    rw [← hys] at hx ⊢
    have hb := lnV_q ys 0 (by omega)
    have hok := dcB ys 0 (by omega)
    have hcb := dcC_bd ys 0 (by omega)
    have hC0 : dcC ys 0 = cutL (pvK (lnV ys 0)) (1 + pickV ys (lnV ys 0).q 6) := rfl
    have hV1 : puV ys = puL ys (dcC ys 0) (puS ys) 4 := rfl
    have hQ1 : puQ ys = if pickV ys (puS ys + 6) 6 = 0 then { puX ys with a := (puX ys).a + 1 } else if pickV ys (puS ys + 6) 6 = 1 then { puX ys with d := bytesV ys (puS ys + 7 + 1) (1 + pickV ys (puS ys + 7) 4).toNat } else if pickV ys (puS ys + 6) 6 = 2 then { puX ys with h := (puX ys).h + 1 } else if pickV ys (puS ys + 6) 6 = 3 then pvK (pktV ys (puS ys + 7) 3) else puX ys := rfl
    have hX1 : puX ys = puI ys (dcC ys 0) (puS ys) 5 := rfl
    have hS1 : puS ys = (lnV ys 0).q + 1 := rfl
    have hfa := fun k => cut_facts hok k
    rw [← hC0] at hfa
    obtain ⟨V, hV⟩ : ∃ V, lnV ys 0 = V := ⟨_, rfl⟩
    obtain ⟨C, hC⟩ : ∃ C, dcC ys 0 = C := ⟨_, rfl⟩
    rw [hV] at hb hC0 hS1
    simp only [hC] at hfa
    rw [hC] at hC0 hcb hV1 hX1
    have hC' := hC0.symm
    obtain ⟨q, hq⟩ : ∃ q, V.q + 1 = q := ⟨_, rfl⟩
    rw [hS1, hq] at hV1 hX1 hQ1
    obtain ⟨R, hR⟩ : ∃ R, puQ ys = R := ⟨_, rfl⟩
    obtain ⟨Y, hY⟩ : ∃ Y, puX ys = Y := ⟨_, rfl⟩
    rw [hR, hY] at hQ1
    rw [hY] at hX1
    rw [hV1, hR]
    have a0 := pickV_nonneg ys V.q 6 (by omega)
    have a1 := pickV_lt ys V.q 6 (by omega)
    have hX : (⟨V.f, V.t, V.pr, V.h, V.i, V.a, V.m, V.u, V.d⟩ : Pk) = pvK V := rfl
    have w1 : IntKind.i64.wrap (1 + pickV ys V.q 6) = 1 + pickV ys V.q 6 := wrap_id (by omega) (by omega)
    have hC1 := hcb.1.1
    have hC2 := hcb.1.2
    have hq0 : 0 ≤ q ∧ q < 1000 := by omega
    obtain ⟨⟨i1, i2⟩, i3, i4⟩ := puI_at ys C q 0 hC1 (by omega)
    have z0 : q + ((0 : Nat) : Int) = q := by omega
    rw [z0] at i1 i2
    simp only [z0] at i3 i4
    have hrow := pRows_get C _ i3
    have g0 : (0 ≤ pickV ys q C.length) = True := eq_true i1
    have g1 : (pickV ys q C.length < (C.length : Int)) = True := eq_true i2
    have g2 : ((pickV ys q C.length).toNat < C.length) = True := eq_true i3
    have hbl := puL_bd ys C q hC1 hcb.2 (by omega)
    refine ⟨⟨rfl, by simp [AV.ids, AV.ids.idsL]⟩, [.l 1 (rowsOfBytes xs)], rfl, fun w Z s vs h => CvL.ok (.cons (.l _ _ _ (rowsOf_w xs)) .nil) h, ?_⟩
    simp (maxSteps := 3000000) only [Try.f25, dpp, g_open, g_long, g_packet, g_pick, g_bytes, ocOf, g_sPacketCut, g_putD, ← hys, hV, hX, hC', w1, hq, hrow, g0, g1, g2, D.toI, dB, D.toB, D.toL, pRow, bytesOf_rows, rowsOf_len, pRows_len, psOf_rows, hx, tY2, tY3, tY4, tY5, tY9, tY12, tY21, tY22, tY23, tY24, tY27, tY35, tY36, tY47, tY55, tY83, tY84, tY97, tY106, Try.underlying2, Try.underlying3, Try.underlying4, Try.underlying5, Try.underlying9, Try.underlying12, Try.underlying21, Try.underlying22, Try.underlying23, Try.underlying24, Try.underlying27, Try.underlying35, Try.underlying36, Try.underlying47, Try.underlying55, Try.underlying83, Try.underlying84, Try.underlying97, Try.underlying106, e_skip, e_label, e_ret, e_exit, e_seq, e_cond, e_block, e_region, seqK_normal, seqK_ret, seqK_exit, blkK_normal, blkK_ret, blkK_exit, condK_some, regK_true, regK_false, e_nil, e_cons, gateK_go, gateK_skip, gateK_ask, pickK_some, exK_some, x_pick, x_move, x_assign, x_alloc, x_box, x_build, x_buildSlice, x_load, x_store, x_binOp, x_unOp, x_convert, x_makeSlice, x_slice, x_fieldAddr, x_field, x_indexAddr, x_extract, x_nilCheck, x_call, x_len, x_append, x_min, oMin, x_copy, oCopy, eqAVs, callK_some, done_ret, done_normal, doneO_ret, doneO_normal, endsO_one, endsO_nil, endsO_more, ownAbs, frzAbs, leafs, leafs.leafsL, uniq, idxOf, bk, zipB, Blk.liveB, gate_none, gate_some, gateS_none, gateS_some, gateV_bool, gateV_undef, boolOf, evA, putT, refn, fpD, oBin, oUn, upsl, upl, up, ups, lk, dstsOf, resL, resA, packA, oLoadQ, oLoadKid, oStoreQ, oStoreTree, oBuildSliceQ, oBuildTree, oAppendQ, oAppendTree, isTr, isTrP, tkd, tkds, tkRows, ownOf, nodupB, deadL, treeOf, kidAbs, kidBlk, kidRows, TK.isCell, D.toL, oLoad, oStore, oAlloc, oBox, oBuild, oBuildSlice, oMake, oAppend, oIndexAddr, oFieldAddr, oField, oExtract, oNil, oSlice, oLen, oConvert, rowLoad, fillA, fillR, slB, dk, dks, dkRows, frz, loOf, hiOf, lenOf, rowsOf, nilV, lenV, putAt, views, viewsOk, CK.av, CK.ok, AV.cells, AV.one, Value.oneCell', Value.cells, pureAbs, nrm, nrm.nrmL, hpAt, sh, AV.ren, AV.ren.renL, Blk.ren, fpOf, footO, foot, blkIds, AV.ids, AV.ids.idsL, Op.operands, Call.operands, List.find?_cons, List.find?_nil, Nat.reduceBEq, beq_self_eq_true, List.map_cons, List.map_nil, List.getD_cons_zero, List.getD_cons_succ, List.getD_nil, List.set_cons_zero, List.set_cons_succ, List.length_cons, List.length_nil, List.replicate, List.cons_append, List.nil_append, List.append_nil, List.getElem?_cons_zero, List.getElem?_cons_succ, List.getElem?_toArray, List.getElem?_nil, List.take_zero, List.take_succ_cons, List.take_nil, List.drop_zero, List.drop_succ_cons, List.drop_nil, List.headD_cons, List.tail_cons, List.flatten_cons, List.flatten_nil, List.flatMap_cons, List.flatMap_nil, List.toList_toArray, Array.toList_append, Option.bind_some, Option.map_some, Option.map_none, Option.isSome_some, List.all_nil, List.all_cons, Bool.and_self, Bool.and_true, Bool.true_and, true_and, and_true, ↓reduceIte, List.size_toArray, Bool.false_eq_true, Bool.true_eq_false, false_implies, true_implies, Bool.not_true, Bool.not_false, and_self, implies_true, decide_true, decide_false, Nat.reduceAdd, Nat.reduceMul, Nat.reduceLT, Nat.reduceSub, Nat.reduceLeDiff, Nat.reduceEqDiff, eq_self, ne_eq, not_false_eq_true, false_and, and_false, reduceCtorEq, List.filter_nil, List.filter_cons, List.isEmpty_nil, List.isEmpty_cons, bne_self_eq_false, Nat.reduceBneDiff, Nat.lt_add_one, Nat.zero_lt_succ, List.append_assoc, Nat.zero_le, and_self_iff, Int.reduceToNat, List.any_nil, List.any_cons, List.filterMap_nil, List.filterMap_cons, List.contains_nil, List.contains_cons, Bool.or_false, Bool.false_or, Bool.or_true, Bool.true_or, Bool.false_and, Bool.and_false, decide_eq_true_eq, decide_eq_false_iff_not, beq_iff_eq, Int.toNat_natCast, loopK_normal, loopK_exit, loopK_ret, doneD_ret, doneD_normal]
    refine ⟨⟨_, rfl⟩, by omega, by omega, ⟨_, rfl, by omega⟩, by omega, ?_⟩
    refine e_loop _ _ _ _ _ _ _ _ (fun x : Nat × Option Bool => [.any, .any, .ptr 0 0, .ptr 1 0, .ptr 2 0, .l 9 (pRows C), .any, .ptr 3 0, .v (.int .i64 (x.1 : Int))] ++ List.replicate (Try.f25.ntmps - 9) .any) (fun x => ([(0, .var 36 [.v (.slice none 0 0), .v (.int .i64 0)]), (1, .var 24 [.v (.int .i64 0), .v (.int .i64 0), .v (.int .i64 0), .v (.int .i64 0), .v (.int .i64 0), .v (.int .i64 0), .v (.bool false), .v (.bool false), .v (.slice none 0 0)]), (2, .var 84 [.l 1 (rowsOfBytes ys), .v (.int .i64 (q + 1 + (x.1 : Int)))]), (3, .var 36 [puCell x.2 (pRows (puL ys C q x.1)), .v (.int .i64 5)])] ++ puBlk x.2 (pRows (puL ys C q x.1)))) (fun x => x.1 ≤ 4) (fun x => 4 - x.1) 5 (fun x => by obtain ⟨k, f⟩ := x; rcases f with _ | _ | _ <;> simp [puBlk]) ?_ fun x hk' => ?_
    · exact ⟨(0, some true), [(0, some _), (1, some _), (2, some _), (3, some _), (4, some _)], Nat.zero_le _, ⟨⟨trivial, trivial, ⟨rfl, rfl, rfl⟩, ⟨rfl, rfl, rfl⟩, ⟨rfl, rfl, rfl⟩, ⟨rfl, rfl, rfl⟩, trivial, ⟨rfl, rfl, rfl⟩, ⟨rfl, rfl, rfl⟩, fitT_rep _ _ rfl⟩, ⟨.inl rfl, rfl, rfl, rfl, .inl rfl, rfl, rfl, rfl, .inl (by rw [show q + 1 + ((0 : Nat) : Int) = q + 1 from by omega]; rfl), rfl, rfl, rfl, .inl rfl, rfl, rfl, rfl, .inl (by rw [puL, i4]; rfl), rfl, rfl, rfl, trivial⟩, by simp [rn, hpAt, puBlk]⟩, by simp [keepIds, puBlk]⟩
    obtain ⟨k, fl⟩ := x
    dsimp only at hk'
    have w2 : IntKind.i64.wrap ((k : Int) + 1) = ((k + 1 : Nat) : Int) := by rw [wrap_id] <;> omega
    have hbk := hbl k hk'
    have hmk := mid_of hbk
    obtain ⟨⟨j1, j2⟩, j3, j4⟩ := puI_at ys C q (k + 1) hC1 (by omega)
    have zk : q + ((k + 1 : Nat) : Int) = q + 1 + (k : Int) := by omega
    rw [zk] at j1 j2
    simp only [zk] at j3 j4
    have hrow2 := pRows_get C _ j3
    have hyd := hcb.2 _ (List.getElem_mem j3)
    have hyo := (hfa _ j3).2.1
    obtain ⟨y, hy⟩ : ∃ y, C[(pickV ys (q + 1 + (k : Int)) C.length).toNat] = y := ⟨_, rfl⟩
    rw [hy] at hrow2 j4 hyd hyo
    have hE : (⟨y.f, y.t, y.p, y.h, y.i, y.a, y.m, y.u, y.d⟩ : Pk) = y := rfl
    have s0 : (0 ≤ pickV ys (q + 1 + (k : Int)) C.length) = True := eq_true j1
    have s1 : (pickV ys (q + 1 + (k : Int)) C.length < (C.length : Int)) = True := eq_true j2
    have s2 : ((pickV ys (q + 1 + (k : Int)) C.length).toNat < C.length) = True := eq_true j3
    have zn : q + 1 + (k : Int) + 1 = q + 1 + ((k + 1 : Nat) : Int) := by omega
    by_cases hk : k < 4
    · have hlt : ((k : Int) < 4) = True := eq_true (by omega)
      have hst : puL ys C q (k + 1) = (putO (puL ys C q k) 5 y).getD (puL ys C q k) := by rw [puL, j4]
      rcases hput : putO (puL ys C q k) 5 y with _ | r
      · have hn : puL ys C q (k + 1) = puL ys C q k := by rw [hst, hput]; rfl
        have hpL : putL (puL ys C q k) 5 y = [] := by rw [putL, hput]; rfl
        have hpU : putU (puL ys C q k) 5 y = 0 := by rw [putU, hput]; rfl
        rcases fl with _ | _ | _
        · simp (maxSteps := 3000000) only [Try.f25, dpp, g_open, g_long, g_packet, g_pick, g_bytes, ocOf, g_sPacketCut, g_putD, ← hys, hrow2, s0, s1, s2, hE, hput, hpL, hpU, hlt, w2, zn, puCell, puBlk, List.append_nil, List.cons_append, List.nil_append, Option.isSome, Bool.false_eq_true, ↓reduceIte, D.toI, dB, D.toB, D.toL, pRow, bytesOf_rows, rowsOf_len, pRows_len, psOf_rows, hx, tY2, tY3, tY4, tY5, tY9, tY12, tY21, tY22, tY23, tY24, tY27, tY35, tY36, tY47, tY55, tY83, tY84, tY97, tY106, Try.underlying2, Try.underlying3, Try.underlying4, Try.underlying5, Try.underlying9, Try.underlying12, Try.underlying21, Try.underlying22, Try.underlying23, Try.underlying24, Try.underlying27, Try.underlying35, Try.underlying36, Try.underlying47, Try.underlying55, Try.underlying83, Try.underlying84, Try.underlying97, Try.underlying106, e_skip, e_label, e_ret, e_exit, e_seq, e_cond, e_block, e_region, seqK_normal, seqK_ret, seqK_exit, blkK_normal, blkK_ret, blkK_exit, condK_some, regK_true, regK_false, e_nil, e_cons, gateK_go, gateK_skip, gateK_ask, pickK_some, exK_some, x_pick, x_move, x_assign, x_alloc, x_box, x_build, x_buildSlice, x_load, x_store, x_binOp, x_unOp, x_convert, x_makeSlice, x_slice, x_fieldAddr, x_field, x_indexAddr, x_extract, x_nilCheck, x_call, x_len, x_append, x_min, oMin, x_copy, oCopy, eqAVs, callK_some, done_ret, done_normal, doneO_ret, doneO_normal, endsO_one, endsO_nil, endsO_more, ownAbs, frzAbs, leafs, leafs.leafsL, uniq, idxOf, bk, zipB, Blk.liveB, gate_none, gate_some, gateS_none, gateS_some, gateV_bool, gateV_undef, boolOf, evA, putT, refn, fpD, oBin, oUn, upsl, upl, up, ups, lk, dstsOf, resL, resA, packA, oLoadQ, oLoadKid, oStoreQ, oStoreTree, oBuildSliceQ, oBuildTree, oAppendQ, oAppendTree, isTr, isTrP, tkd, tkds, tkRows, ownOf, nodupB, deadL, treeOf, kidAbs, kidBlk, kidRows, TK.isCell, D.toL, oLoad, oStore, oAlloc, oBox, oBuild, oBuildSlice, oMake, oAppend, oIndexAddr, oFieldAddr, oField, oExtract, oNil, oSlice, oLen, oConvert, rowLoad, fillA, fillR, slB, dk, dks, dkRows, frz, loOf, hiOf, lenOf, rowsOf, nilV, lenV, putAt, views, viewsOk, CK.av, CK.ok, AV.cells, AV.one, Value.oneCell', Value.cells, pureAbs, nrm, nrm.nrmL, hpAt, sh, AV.ren, AV.ren.renL, Blk.ren, fpOf, footO, foot, blkIds, AV.ids, AV.ids.idsL, Op.operands, Call.operands, List.find?_cons, List.find?_nil, Nat.reduceBEq, beq_self_eq_true, List.map_cons, List.map_nil, List.getD_cons_zero, List.getD_cons_succ, List.getD_nil, List.set_cons_zero, List.set_cons_succ, List.length_cons, List.length_nil, List.replicate, List.cons_append, List.nil_append, List.append_nil, List.getElem?_cons_zero, List.getElem?_cons_succ, List.getElem?_toArray, List.getElem?_nil, List.take_zero, List.take_succ_cons, List.take_nil, List.drop_zero, List.drop_succ_cons, List.drop_nil, List.headD_cons, List.tail_cons, List.flatten_cons, List.flatten_nil, List.flatMap_cons, List.flatMap_nil, List.toList_toArray, Array.toList_append, Option.bind_some, Option.map_some, Option.map_none, Option.isSome_some, List.all_nil, List.all_cons, Bool.and_self, Bool.and_true, Bool.true_and, true_and, and_true, ↓reduceIte, List.size_toArray, Bool.false_eq_true, Bool.true_eq_false, false_implies, true_implies, Bool.not_true, Bool.not_false, and_self, implies_true, decide_true, decide_false, Nat.reduceAdd, Nat.reduceMul, Nat.reduceLT, Nat.reduceSub, Nat.reduceLeDiff, Nat.reduceEqDiff, eq_self, ne_eq, not_false_eq_true, false_and, and_false, reduceCtorEq, List.filter_nil, List.filter_cons, List.isEmpty_nil, List.isEmpty_cons, bne_self_eq_false, Nat.reduceBneDiff, Nat.lt_add_one, Nat.zero_lt_succ, List.append_assoc, Nat.zero_le, and_self_iff, Int.reduceToNat, List.any_nil, List.any_cons, List.filterMap_nil, List.filterMap_cons, List.contains_nil, List.contains_cons, Bool.or_false, Bool.false_or, Bool.or_true, Bool.true_or, Bool.false_and, Bool.and_false, decide_eq_true_eq, decide_eq_false_iff_not, beq_iff_eq, Int.toNat_natCast, loopK_normal, loopK_exit, loopK_ret, doneD_ret, doneD_normal]
          refine ⟨by omega, ⟨⟨_, rfl, hmk⟩, _, rfl, by omega⟩, by kernel_rfl, ?_⟩
          rw [← hn]
          exact ⟨(k + 1, none), [(0, some 0), (1, some 1), (2, some 2), (3, some 3)], by dsimp only; omega, by dsimp only; omega, ⟨⟨trivial, trivial, ⟨rfl, rfl, rfl⟩, ⟨rfl, rfl, rfl⟩, ⟨rfl, rfl, rfl⟩, ⟨rfl, rfl, rfl⟩, trivial, ⟨rfl, rfl, rfl⟩, ⟨rfl, rfl, rfl⟩, fitT_rep _ _ rfl⟩, ⟨.inl rfl, rfl, rfl, rfl, .inl rfl, rfl, rfl, rfl, .inl rfl, rfl, rfl, rfl, .inl rfl, rfl, rfl, rfl, trivial⟩, by simp [rn, hpAt]⟩, by simp [keepIds]⟩
        · simp (maxSteps := 3000000) only [Try.f25, dpp, g_open, g_long, g_packet, g_pick, g_bytes, ocOf, g_sPacketCut, g_putD, ← hys, hrow2, s0, s1, s2, hE, hput, hpL, hpU, hlt, w2, zn, puCell, puBlk, List.append_nil, List.cons_append, List.nil_append, Option.isSome, Bool.false_eq_true, ↓reduceIte, D.toI, dB, D.toB, D.toL, pRow, bytesOf_rows, rowsOf_len, pRows_len, psOf_rows, hx, tY2, tY3, tY4, tY5, tY9, tY12, tY21, tY22, tY23, tY24, tY27, tY35, tY36, tY47, tY55, tY83, tY84, tY97, tY106, Try.underlying2, Try.underlying3, Try.underlying4, Try.underlying5, Try.underlying9, Try.underlying12, Try.underlying21, Try.underlying22, Try.underlying23, Try.underlying24, Try.underlying27, Try.underlying35, Try.underlying36, Try.underlying47, Try.underlying55, Try.underlying83, Try.underlying84, Try.underlying97, Try.underlying106, e_skip, e_label, e_ret, e_exit, e_seq, e_cond, e_block, e_region, seqK_normal, seqK_ret, seqK_exit, blkK_normal, blkK_ret, blkK_exit, condK_some, regK_true, regK_false, e_nil, e_cons, gateK_go, gateK_skip, gateK_ask, pickK_some, exK_some, x_pick, x_move, x_assign, x_alloc, x_box, x_build, x_buildSlice, x_load, x_store, x_binOp, x_unOp, x_convert, x_makeSlice, x_slice, x_fieldAddr, x_field, x_indexAddr, x_extract, x_nilCheck, x_call, x_len, x_append, x_min, oMin, x_copy, oCopy, eqAVs, callK_some, done_ret, done_normal, doneO_ret, doneO_normal, endsO_one, endsO_nil, endsO_more, ownAbs, frzAbs, leafs, leafs.leafsL, uniq, idxOf, bk, zipB, Blk.liveB, gate_none, gate_some, gateS_none, gateS_some, gateV_bool, gateV_undef, boolOf, evA, putT, refn, fpD, oBin, oUn, upsl, upl, up, ups, lk, dstsOf, resL, resA, packA, oLoadQ, oLoadKid, oStoreQ, oStoreTree, oBuildSliceQ, oBuildTree, oAppendQ, oAppendTree, isTr, isTrP, tkd, tkds, tkRows, ownOf, nodupB, deadL, treeOf, kidAbs, kidBlk, kidRows, TK.isCell, D.toL, oLoad, oStore, oAlloc, oBox, oBuild, oBuildSlice, oMake, oAppend, oIndexAddr, oFieldAddr, oField, oExtract, oNil, oSlice, oLen, oConvert, rowLoad, fillA, fillR, slB, dk, dks, dkRows, frz, loOf, hiOf, lenOf, rowsOf, nilV, lenV, putAt, views, viewsOk, CK.av, CK.ok, AV.cells, AV.one, Value.oneCell', Value.cells, pureAbs, nrm, nrm.nrmL, hpAt, sh, AV.ren, AV.ren.renL, Blk.ren, fpOf, footO, foot, blkIds, AV.ids, AV.ids.idsL, Op.operands, Call.operands, List.find?_cons, List.find?_nil, Nat.reduceBEq, beq_self_eq_true, List.map_cons, List.map_nil, List.getD_cons_zero, List.getD_cons_succ, List.getD_nil, List.set_cons_zero, List.set_cons_succ, List.length_cons, List.length_nil, List.replicate, List.cons_append, List.nil_append, List.append_nil, List.getElem?_cons_zero, List.getElem?_cons_succ, List.getElem?_toArray, List.getElem?_nil, List.take_zero, List.take_succ_cons, List.take_nil, List.drop_zero, List.drop_succ_cons, List.drop_nil, List.headD_cons, List.tail_cons, List.flatten_cons, List.flatten_nil, List.flatMap_cons, List.flatMap_nil, List.toList_toArray, Array.toList_append, Option.bind_some, Option.map_some, Option.map_none, Option.isSome_some, List.all_nil, List.all_cons, Bool.and_self, Bool.and_true, Bool.true_and, true_and, and_true, ↓reduceIte, List.size_toArray, Bool.false_eq_true, Bool.true_eq_false, false_implies, true_implies, Bool.not_true, Bool.not_false, and_self, implies_true, decide_true, decide_false, Nat.reduceAdd, Nat.reduceMul, Nat.reduceLT, Nat.reduceSub, Nat.reduceLeDiff, Nat.reduceEqDiff, eq_self, ne_eq, not_false_eq_true, false_and, and_false, reduceCtorEq, List.filter_nil, List.filter_cons, List.isEmpty_nil, List.isEmpty_cons, bne_self_eq_false, Nat.reduceBneDiff, Nat.lt_add_one, Nat.zero_lt_succ, List.append_assoc, Nat.zero_le, and_self_iff, Int.reduceToNat, List.any_nil, List.any_cons, List.filterMap_nil, List.filterMap_cons, List.contains_nil, List.contains_cons, Bool.or_false, Bool.false_or, Bool.or_true, Bool.true_or, Bool.false_and, Bool.and_false, decide_eq_true_eq, decide_eq_false_iff_not, beq_iff_eq, Int.toNat_natCast, loopK_normal, loopK_exit, loopK_ret, doneD_ret, doneD_normal]
          refine ⟨by omega, ⟨⟨_, rfl, hmk⟩, _, rfl, by omega⟩, by kernel_rfl, ?_⟩
          rw [← hn]
          exact ⟨(k + 1, some false), [(0, some 0), (1, some 1), (2, some 2), (3, some 3), (4, some 4)], by dsimp only; omega, by dsimp only; omega, ⟨⟨trivial, trivial, ⟨rfl, rfl, rfl⟩, ⟨rfl, rfl, rfl⟩, ⟨rfl, rfl, rfl⟩, ⟨rfl, rfl, rfl⟩, trivial, ⟨rfl, rfl, rfl⟩, ⟨rfl, rfl, rfl⟩, fitT_rep _ _ rfl⟩, ⟨.inl rfl, rfl, rfl, rfl, .inl rfl, rfl, rfl, rfl, .inl rfl, rfl, rfl, rfl, .inl rfl, rfl, rfl, rfl, .inl rfl, rfl, rfl, rfl, trivial⟩, by simp [rn, hpAt]⟩, by simp [keepIds]⟩
        · simp (maxSteps := 3000000) only [Try.f25, dpp, g_open, g_long, g_packet, g_pick, g_bytes, ocOf, g_sPacketCut, g_putD, ← hys, hrow2, s0, s1, s2, hE, hput, hpL, hpU, hlt, w2, zn, puCell, puBlk, List.append_nil, List.cons_append, List.nil_append, Option.isSome, Bool.false_eq_true, ↓reduceIte, D.toI, dB, D.toB, D.toL, pRow, bytesOf_rows, rowsOf_len, pRows_len, psOf_rows, hx, tY2, tY3, tY4, tY5, tY9, tY12, tY21, tY22, tY23, tY24, tY27, tY35, tY36, tY47, tY55, tY83, tY84, tY97, tY106, Try.underlying2, Try.underlying3, Try.underlying4, Try.underlying5, Try.underlying9, Try.underlying12, Try.underlying21, Try.underlying22, Try.underlying23, Try.underlying24, Try.underlying27, Try.underlying35, Try.underlying36, Try.underlying47, Try.underlying55, Try.underlying83, Try.underlying84, Try.underlying97, Try.underlying106, e_skip, e_label, e_ret, e_exit, e_seq, e_cond, e_block, e_region, seqK_normal, seqK_ret, seqK_exit, blkK_normal, blkK_ret, blkK_exit, condK_some, regK_true, regK_false, e_nil, e_cons, gateK_go, gateK_skip, gateK_ask, pickK_some, exK_some, x_pick, x_move, x_assign, x_alloc, x_box, x_build, x_buildSlice, x_load, x_store, x_binOp, x_unOp, x_convert, x_makeSlice, x_slice, x_fieldAddr, x_field, x_indexAddr, x_extract, x_nilCheck, x_call, x_len, x_append, x_min, oMin, x_copy, oCopy, eqAVs, callK_some, done_ret, done_normal, doneO_ret, doneO_normal, endsO_one, endsO_nil, endsO_more, ownAbs, frzAbs, leafs, leafs.leafsL, uniq, idxOf, bk, zipB, Blk.liveB, gate_none, gate_some, gateS_none, gateS_some, gateV_bool, gateV_undef, boolOf, evA, putT, refn, fpD, oBin, oUn, upsl, upl, up, ups, lk, dstsOf, resL, resA, packA, oLoadQ, oLoadKid, oStoreQ, oStoreTree, oBuildSliceQ, oBuildTree, oAppendQ, oAppendTree, isTr, isTrP, tkd, tkds, tkRows, ownOf, nodupB, deadL, treeOf, kidAbs, kidBlk, kidRows, TK.isCell, D.toL, oLoad, oStore, oAlloc, oBox, oBuild, oBuildSlice, oMake, oAppend, oIndexAddr, oFieldAddr, oField, oExtract, oNil, oSlice, oLen, oConvert, rowLoad, fillA, fillR, slB, dk, dks, dkRows, frz, loOf, hiOf, lenOf, rowsOf, nilV, lenV, putAt, views, viewsOk, CK.av, CK.ok, AV.cells, AV.one, Value.oneCell', Value.cells, pureAbs, nrm, nrm.nrmL, hpAt, sh, AV.ren, AV.ren.renL, Blk.ren, fpOf, footO, foot, blkIds, AV.ids, AV.ids.idsL, Op.operands, Call.operands, List.find?_cons, List.find?_nil, Nat.reduceBEq, beq_self_eq_true, List.map_cons, List.map_nil, List.getD_cons_zero, List.getD_cons_succ, List.getD_nil, List.set_cons_zero, List.set_cons_succ, List.length_cons, List.length_nil, List.replicate, List.cons_append, List.nil_append, List.append_nil, List.getElem?_cons_zero, List.getElem?_cons_succ, List.getElem?_toArray, List.getElem?_nil, List.take_zero, List.take_succ_cons, List.take_nil, List.drop_zero, List.drop_succ_cons, List.drop_nil, List.headD_cons, List.tail_cons, List.flatten_cons, List.flatten_nil, List.flatMap_cons, List.flatMap_nil, List.toList_toArray, Array.toList_append, Option.bind_some, Option.map_some, Option.map_none, Option.isSome_some, List.all_nil, List.all_cons, Bool.and_self, Bool.and_true, Bool.true_and, true_and, and_true, ↓reduceIte, List.size_toArray, Bool.false_eq_true, Bool.true_eq_false, false_implies, true_implies, Bool.not_true, Bool.not_false, and_self, implies_true, decide_true, decide_false, Nat.reduceAdd, Nat.reduceMul, Nat.reduceLT, Nat.reduceSub, Nat.reduceLeDiff, Nat.reduceEqDiff, eq_self, ne_eq, not_false_eq_true, false_and, and_false, reduceCtorEq, List.filter_nil, List.filter_cons, List.isEmpty_nil, List.isEmpty_cons, bne_self_eq_false, Nat.reduceBneDiff, Nat.lt_add_one, Nat.zero_lt_succ, List.append_assoc, Nat.zero_le, and_self_iff, Int.reduceToNat, List.any_nil, List.any_cons, List.filterMap_nil, List.filterMap_cons, List.contains_nil, List.contains_cons, Bool.or_false, Bool.false_or, Bool.or_true, Bool.true_or, Bool.false_and, Bool.and_false, decide_eq_true_eq, decide_eq_false_iff_not, beq_iff_eq, Int.toNat_natCast, loopK_normal, loopK_exit, loopK_ret, doneD_ret, doneD_normal]
          refine ⟨by omega, ⟨⟨_, rfl, hmk⟩, _, rfl, by omega⟩, by kernel_rfl, ?_⟩
          rw [← hn]
          exact ⟨(k + 1, some false), [(0, some 0), (1, some 1), (2, some 2), (3, some 3), (4, some 4)], by dsimp only; omega, by dsimp only; omega, ⟨⟨trivial, trivial, ⟨rfl, rfl, rfl⟩, ⟨rfl, rfl, rfl⟩, ⟨rfl, rfl, rfl⟩, ⟨rfl, rfl, rfl⟩, trivial, ⟨rfl, rfl, rfl⟩, ⟨rfl, rfl, rfl⟩, fitT_rep _ _ rfl⟩, ⟨.inl rfl, rfl, rfl, rfl, .inl rfl, rfl, rfl, rfl, .inl rfl, rfl, rfl, rfl, .inl rfl, rfl, rfl, rfl, .inl rfl, rfl, rfl, rfl, trivial⟩, by simp [rn, hpAt]⟩, by simp [keepIds]⟩
      · have hn : puL ys C q (k + 1) = r := by rw [hst, hput]; rfl
        have hpL : putL (puL ys C q k) 5 y = r := by rw [putL, hput]; rfl
        have hpU : putU (puL ys C q k) 5 y = 5 := by rw [putU, hput]; rfl
        rcases fl with _ | _ | _
        all_goals
          simp (maxSteps := 3000000) only [Try.f25, dpp, g_open, g_long, g_packet, g_pick, g_bytes, ocOf, g_sPacketCut, g_putD, ← hys, hrow2, s0, s1, s2, hE, hput, hpL, hpU, hlt, w2, zn, puCell, puBlk, List.append_nil, List.cons_append, List.nil_append, Option.isSome, Bool.false_eq_true, ↓reduceIte, D.toI, dB, D.toB, D.toL, pRow, bytesOf_rows, rowsOf_len, pRows_len, psOf_rows, hx, tY2, tY3, tY4, tY5, tY9, tY12, tY21, tY22, tY23, tY24, tY27, tY35, tY36, tY47, tY55, tY83, tY84, tY97, tY106, Try.underlying2, Try.underlying3, Try.underlying4, Try.underlying5, Try.underlying9, Try.underlying12, Try.underlying21, Try.underlying22, Try.underlying23, Try.underlying24, Try.underlying27, Try.underlying35, Try.underlying36, Try.underlying47, Try.underlying55, Try.underlying83, Try.underlying84, Try.underlying97, Try.underlying106, e_skip, e_label, e_ret, e_exit, e_seq, e_cond, e_block, e_region, seqK_normal, seqK_ret, seqK_exit, blkK_normal, blkK_ret, blkK_exit, condK_some, regK_true, regK_false, e_nil, e_cons, gateK_go, gateK_skip, gateK_ask, pickK_some, exK_some, x_pick, x_move, x_assign, x_alloc, x_box, x_build, x_buildSlice, x_load, x_store, x_binOp, x_unOp, x_convert, x_makeSlice, x_slice, x_fieldAddr, x_field, x_indexAddr, x_extract, x_nilCheck, x_call, x_len, x_append, x_min, oMin, x_copy, oCopy, eqAVs, callK_some, done_ret, done_normal, doneO_ret, doneO_normal, endsO_one, endsO_nil, endsO_more, ownAbs, frzAbs, leafs, leafs.leafsL, uniq, idxOf, bk, zipB, Blk.liveB, gate_none, gate_some, gateS_none, gateS_some, gateV_bool, gateV_undef, boolOf, evA, putT, refn, fpD, oBin, oUn, upsl, upl, up, ups, lk, dstsOf, resL, resA, packA, oLoadQ, oLoadKid, oStoreQ, oStoreTree, oBuildSliceQ, oBuildTree, oAppendQ, oAppendTree, isTr, isTrP, tkd, tkds, tkRows, ownOf, nodupB, deadL, treeOf, kidAbs, kidBlk, kidRows, TK.isCell, D.toL, oLoad, oStore, oAlloc, oBox, oBuild, oBuildSlice, oMake, oAppend, oIndexAddr, oFieldAddr, oField, oExtract, oNil, oSlice, oLen, oConvert, rowLoad, fillA, fillR, slB, dk, dks, dkRows, frz, loOf, hiOf, lenOf, rowsOf, nilV, lenV, putAt, views, viewsOk, CK.av, CK.ok, AV.cells, AV.one, Value.oneCell', Value.cells, pureAbs, nrm, nrm.nrmL, hpAt, sh, AV.ren, AV.ren.renL, Blk.ren, fpOf, footO, foot, blkIds, AV.ids, AV.ids.idsL, Op.operands, Call.operands, List.find?_cons, List.find?_nil, Nat.reduceBEq, beq_self_eq_true, List.map_cons, List.map_nil, List.getD_cons_zero, List.getD_cons_succ, List.getD_nil, List.set_cons_zero, List.set_cons_succ, List.length_cons, List.length_nil, List.replicate, List.cons_append, List.nil_append, List.append_nil, List.getElem?_cons_zero, List.getElem?_cons_succ, List.getElem?_toArray, List.getElem?_nil, List.take_zero, List.take_succ_cons, List.take_nil, List.drop_zero, List.drop_succ_cons, List.drop_nil, List.headD_cons, List.tail_cons, List.flatten_cons, List.flatten_nil, List.flatMap_cons, List.flatMap_nil, List.toList_toArray, Array.toList_append, Option.bind_some, Option.map_some, Option.map_none, Option.isSome_some, List.all_nil, List.all_cons, Bool.and_self, Bool.and_true, Bool.true_and, true_and, and_true, ↓reduceIte, List.size_toArray, Bool.false_eq_true, Bool.true_eq_false, false_implies, true_implies, Bool.not_true, Bool.not_false, and_self, implies_true, decide_true, decide_false, Nat.reduceAdd, Nat.reduceMul, Nat.reduceLT, Nat.reduceSub, Nat.reduceLeDiff, Nat.reduceEqDiff, eq_self, ne_eq, not_false_eq_true, false_and, and_false, reduceCtorEq, List.filter_nil, List.filter_cons, List.isEmpty_nil, List.isEmpty_cons, bne_self_eq_false, Nat.reduceBneDiff, Nat.lt_add_one, Nat.zero_lt_succ, List.append_assoc, Nat.zero_le, and_self_iff, Int.reduceToNat, List.any_nil, List.any_cons, List.filterMap_nil, List.filterMap_cons, List.contains_nil, List.contains_cons, Bool.or_false, Bool.false_or, Bool.or_true, Bool.true_or, Bool.false_and, Bool.and_false, decide_eq_true_eq, decide_eq_false_iff_not, beq_iff_eq, Int.toNat_natCast, loopK_normal, loopK_exit, loopK_ret, doneD_ret, doneD_normal]
          refine ⟨by omega, ⟨⟨_, rfl, hmk⟩, _, rfl, by omega⟩, by kernel_rfl, ?_⟩
          rw [← hn]
          exact ⟨(k + 1, none), [(0, some 0), (1, some 1), (2, some 2), (3, some 3)], by dsimp only; omega, by dsimp only; omega, ⟨⟨trivial, trivial, ⟨rfl, rfl, rfl⟩, ⟨rfl, rfl, rfl⟩, ⟨rfl, rfl, rfl⟩, ⟨rfl, rfl, rfl⟩, trivial, ⟨rfl, rfl, rfl⟩, ⟨rfl, rfl, rfl⟩, fitT_rep _ _ rfl⟩, ⟨.inl rfl, rfl, rfl, rfl, .inl rfl, rfl, rfl, rfl, .inl rfl, rfl, rfl, rfl, .inl rfl, rfl, rfl, rfl, trivial⟩, by simp [rn, hpAt]⟩, by simp [keepIds]⟩
    · have hlt : ((k : Int) < 4) = False := eq_false (by omega)
      obtain rfl : k = 4 := by omega
      have y4 : puI ys C q (4 + 1) = y := j4
      rw [y4] at hX1
      subst hX1
      have z5 : q + 1 + ((4 : Nat) : Int) = q + 5 := by omega
      have z6 : q + 5 + 1 = q + 6 := by omega
      have z7 : q + 6 + 1 = q + 7 := by omega
      have hya := (pk_okR hyo).2.2.2.2.1
      have hyh := (pk_okR hyo).2.1
      have hyh := (pk_okR hyo).2.2.1
      rw [z5] at s0 s1 s2 hrow2
      have v1 : IntKind.i64.wrap (Y.a + 1) = Y.a + 1 := wrap_id (by omega) (by omega)
      have v2 : IntKind.i64.wrap (Y.h + 1) = Y.h + 1 := wrap_id (by omega) (by omega)
      have b0 := pickV_nonneg ys (q + 7) 4 (by omega)
      have b1 := pickV_lt ys (q + 7) 4 (by omega)
      have v3 : IntKind.i64.wrap (1 + pickV ys (q + 7) 4) = 1 + pickV ys (q + 7) 4 := wrap_id (by omega) (by omega)
      rcases fl with _ | _ | _
      all_goals
        simp (maxSteps := 3000000) only [Try.f25, dpp, g_open, g_long, g_packet, g_pick, g_bytes, ocOf, g_sPacketCut, g_putD, ← hys, hrow2, s0, s1, s2, z5, z6, z7, v1, v2, v3, hlt, puCell, puBlk, List.append_nil, List.cons_append, List.nil_append, Bool.false_eq_true, ↓reduceIte, D.toI, dB, D.toB, D.toL, pRow, bytesOf_rows, rowsOf_len, pRows_len, psOf_rows, hx, tY2, tY3, tY4, tY5, tY9, tY12, tY21, tY22, tY23, tY24, tY27, tY35, tY36, tY47, tY55, tY83, tY84, tY97, tY106, Try.underlying2, Try.underlying3, Try.underlying4, Try.underlying5, Try.underlying9, Try.underlying12, Try.underlying21, Try.underlying22, Try.underlying23, Try.underlying24, Try.underlying27, Try.underlying35, Try.underlying36, Try.underlying47, Try.underlying55, Try.underlying83, Try.underlying84, Try.underlying97, Try.underlying106, e_skip, e_label, e_ret, e_exit, e_seq, e_cond, e_block, e_region, seqK_normal, seqK_ret, seqK_exit, blkK_normal, blkK_ret, blkK_exit, condK_some, regK_true, regK_false, e_nil, e_cons, gateK_go, gateK_skip, gateK_ask, pickK_some, exK_some, x_pick, x_move, x_assign, x_alloc, x_box, x_build, x_buildSlice, x_load, x_store, x_binOp, x_unOp, x_convert, x_makeSlice, x_slice, x_fieldAddr, x_field, x_indexAddr, x_extract, x_nilCheck, x_call, x_len, x_append, x_min, oMin, x_copy, oCopy, eqAVs, callK_some, done_ret, done_normal, doneO_ret, doneO_normal, endsO_one, endsO_nil, endsO_more, ownAbs, frzAbs, leafs, leafs.leafsL, uniq, idxOf, bk, zipB, Blk.liveB, gate_none, gate_some, gateS_none, gateS_some, gateV_bool, gateV_undef, boolOf, evA, putT, refn, fpD, oBin, oUn, upsl, upl, up, ups, lk, dstsOf, resL, resA, packA, oLoadQ, oLoadKid, oStoreQ, oStoreTree, oBuildSliceQ, oBuildTree, oAppendQ, oAppendTree, isTr, isTrP, tkd, tkds, tkRows, ownOf, nodupB, deadL, treeOf, kidAbs, kidBlk, kidRows, TK.isCell, D.toL, oLoad, oStore, oAlloc, oBox, oBuild, oBuildSlice, oMake, oAppend, oIndexAddr, oFieldAddr, oField, oExtract, oNil, oSlice, oLen, oConvert, rowLoad, fillA, fillR, slB, dk, dks, dkRows, frz, loOf, hiOf, lenOf, rowsOf, nilV, lenV, putAt, views, viewsOk, CK.av, CK.ok, AV.cells, AV.one, Value.oneCell', Value.cells, pureAbs, nrm, nrm.nrmL, hpAt, sh, AV.ren, AV.ren.renL, Blk.ren, fpOf, footO, foot, blkIds, AV.ids, AV.ids.idsL, Op.operands, Call.operands, List.find?_cons, List.find?_nil, Nat.reduceBEq, beq_self_eq_true, List.map_cons, List.map_nil, List.getD_cons_zero, List.getD_cons_succ, List.getD_nil, List.set_cons_zero, List.set_cons_succ, List.length_cons, List.length_nil, List.replicate, List.cons_append, List.nil_append, List.append_nil, List.getElem?_cons_zero, List.getElem?_cons_succ, List.getElem?_toArray, List.getElem?_nil, List.take_zero, List.take_succ_cons, List.take_nil, List.drop_zero, List.drop_succ_cons, List.drop_nil, List.headD_cons, List.tail_cons, List.flatten_cons, List.flatten_nil, List.flatMap_cons, List.flatMap_nil, List.toList_toArray, Array.toList_append, Option.bind_some, Option.map_some, Option.map_none, Option.isSome_some, List.all_nil, List.all_cons, Bool.and_self, Bool.and_true, Bool.true_and, true_and, and_true, ↓reduceIte, List.size_toArray, Bool.false_eq_true, Bool.true_eq_false, false_implies, true_implies, Bool.not_true, Bool.not_false, and_self, implies_true, decide_true, decide_false, Nat.reduceAdd, Nat.reduceMul, Nat.reduceLT, Nat.reduceSub, Nat.reduceLeDiff, Nat.reduceEqDiff, eq_self, ne_eq, not_false_eq_true, false_and, and_false, reduceCtorEq, List.filter_nil, List.filter_cons, List.isEmpty_nil, List.isEmpty_cons, bne_self_eq_false, Nat.reduceBneDiff, Nat.lt_add_one, Nat.zero_lt_succ, List.append_assoc, Nat.zero_le, and_self_iff, Int.reduceToNat, List.any_nil, List.any_cons, List.filterMap_nil, List.filterMap_cons, List.contains_nil, List.contains_cons, Bool.or_false, Bool.false_or, Bool.or_true, Bool.true_or, Bool.false_and, Bool.and_false, decide_eq_true_eq, decide_eq_false_iff_not, beq_iff_eq, Int.toNat_natCast, loopK_normal, loopK_exit, loopK_ret, doneD_ret, doneD_normal]
        refine ⟨by omega, by omega, ?_⟩
        by_cases g0 : pickV ys (q + 6) 6 = 0
        · rw [if_pos g0]
          rw [if_pos g0] at hQ1
          subst hQ1
          repeat' first
            | refine And.intro (by omega) ?_
            | refine And.intro ⟨_, rfl, by omega⟩ ?_
            | refine And.intro ⟨⟨_, rfl, by omega⟩, by omega, by omega⟩ ?_
            | refine And.intro ⟨⟨_, rfl, by rw [← hys, List.length_take]; omega⟩, by omega, by omega⟩ ?_
            | refine And.intro (by kernel_rfl) ?_
          exact ⟨_, rfl, rfl⟩
        · rw [if_neg g0]
          rw [if_neg g0] at hQ1
          by_cases g1 : pickV ys (q + 6) 6 = 1
          · rw [if_pos g1]
            rw [if_pos g1] at hQ1
            subst hQ1
            repeat' first
              | refine And.intro (by omega) ?_
              | refine And.intro ⟨_, rfl, by omega⟩ ?_
              | refine And.intro ⟨⟨_, rfl, by omega⟩, by omega, by omega⟩ ?_
              | refine And.intro ⟨⟨_, rfl, by rw [← hys, List.length_take]; omega⟩, by omega, by omega⟩ ?_
              | refine And.intro (by kernel_rfl) ?_
            exact ⟨_, rfl, rfl⟩
          · rw [if_neg g1]
            rw [if_neg g1] at hQ1
            by_cases g2 : pickV ys (q + 6) 6 = 2
            · rw [if_pos g2]
              rw [if_pos g2] at hQ1
              subst hQ1
              repeat' first
                | refine And.intro (by omega) ?_
                | refine And.intro ⟨_, rfl, by omega⟩ ?_
                | refine And.intro ⟨⟨_, rfl, by omega⟩, by omega, by omega⟩ ?_
                | refine And.intro ⟨⟨_, rfl, by rw [← hys, List.length_take]; omega⟩, by omega, by omega⟩ ?_
                | refine And.intro (by kernel_rfl) ?_
              exact ⟨_, rfl, rfl⟩
            · rw [if_neg g2]
              rw [if_neg g2] at hQ1
              by_cases g3 : pickV ys (q + 6) 6 = 3
              · rw [if_pos g3]
                rw [if_pos g3] at hQ1
                subst hQ1
                repeat' first
                  | refine And.intro (by omega) ?_
                  | refine And.intro ⟨_, rfl, by omega⟩ ?_
                  | refine And.intro ⟨⟨_, rfl, by omega⟩, by omega, by omega⟩ ?_
                  | refine And.intro ⟨⟨_, rfl, by rw [← hys, List.length_take]; omega⟩, by omega, by omega⟩ ?_
                  | refine And.intro (by kernel_rfl) ?_
                exact ⟨_, rfl, rfl⟩
              · rw [if_neg g3]
                rw [if_neg g3] at hQ1
                subst hQ1
                repeat' first
                  | refine And.intro (by omega) ?_
                  | refine And.intro ⟨_, rfl, by omega⟩ ?_
                  | refine And.intro ⟨⟨_, rfl, by omega⟩, by omega, by omega⟩ ?_
                  | refine And.intro ⟨⟨_, rfl, by rw [← hys, List.length_take]; omega⟩, by omega, by omega⟩ ?_
                  | refine And.intro (by kernel_rfl) ?_
                exact ⟨_, rfl, rfl⟩
  · cases hg
theorem puV_bd (xs : List UInt8) : ((puV xs).length ≤ 49 ∧ ∀ y ∈ puV xs, y.d.length ≤ 48) ∧ (puQ xs).d.length ≤ 49 := by
  have hb := lnV_q xs 0 (by omega)
  have hcb := dcC_bd xs 0 (by omega)
  have hS : puS xs = (lnV xs 0).q + 1 := rfl
  refine ⟨puL_bd xs _ _ hcb.1.1 hcb.2 (by omega) 4 (Nat.le_refl _), ?_⟩
  obtain ⟨_, h2, h3⟩ := puI_at xs (dcC xs 0) (puS xs) 5 hcb.1.1 (by omega)
  have hX : (puX xs).d.length ≤ 48 := by
    rw [puX, h3]
    exact hcb.2 _ (List.getElem_mem _)
  have b0 := pickV_nonneg xs (puS xs + 7) 4 (by omega)
  have b1 := pickV_lt xs (puS xs + 7) 4 (by omega)
  have hp := (pktV_q xs (puS xs + 7) 3).2.2
  unfold puQ
  repeat' split
  · exact Nat.le_succ_of_le hX
  · show (bytesV xs _ _).length ≤ 49
    rw [bytesV_len]; omega
  · exact Nat.le_succ_of_le hX
  · exact hp
  · exact Nat.le_succ_of_le hX
end Go.Proofs.Ytdeldmagmljacaa
