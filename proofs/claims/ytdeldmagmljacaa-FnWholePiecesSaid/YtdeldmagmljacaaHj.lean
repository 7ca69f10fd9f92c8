import Derived.Test.YtdeldmagmljacaaHg
import Derived.Test.YtdeldmagmljacaaHq
import Derived.Test.YtdeldmagmljacaaHh
namespace Go.Proofs.Ytdeldmagmljacaa
open Go.RowKit
set_option linter.unusedSimpArgs false
set_option linter.unusedVariables false

/-! two packets are drawn -/
def mxA (xs : List UInt8) : PkV := lnV xs 0
def mxB (xs : List UInt8) : PkV := { lnV xs (lnV xs 0).q with f := (lnV xs 0).f, t := (lnV xs 0).t, pr := (lnV xs 0).pr, i := ((lnV xs 0).i + 1) % 256 }
def mxQ (xs : List UInt8) : Int := (lnV xs (lnV xs 0).q).q
def mxO (xs : List UInt8) (k : Nat) : List Nat := (List.range k).map fun j : Nat => (pickV xs (mxQ xs + (j : Int)) 2).toNat
def mxL (xs : List UInt8) : Int := 1 + pickV xs (mxQ xs + 60) 6
theorem mxO_len (xs : List UInt8) (k : Nat) : (mxO xs k).length = k := by simp [mxO]
theorem mxO_succ (xs : List UInt8) (k : Nat) : mxO xs (k + 1) = mxO xs k ++ [(pickV xs (mxQ xs + (k : Int)) 2).toNat] := by
  rw [mxO, mxO, List.range_succ, List.map_append]; rfl
theorem cutB_long {x : Pk} (l : Int) (h : x.ok = true) (ha : x.a = 0) (hu : x.u = false) (hl : 1 ≤ l ∧ l ≤ 48) : cutB x l = true := by
  obtain ⟨n, rfl⟩ : ∃ n : Nat, l = (n : Int) := ⟨l.toNat, by omega⟩
  rw [cutB, h, Int.toNat_natCast, decide_eq_true hl]
  have hd : (x.d.length - 1) / n * n ≤ x.d.length - 1 := Nat.div_mul_le_self _ _
  have hr := (pk_okR h).2.2.2.2.2
  rw [hu, ha, decide_eq_true (p := (0 : Int) + (((x.d.length - 1) / n * n : Nat) : Int) ≤ 255) (by omega)]
  simp
theorem mx_ok {A B : PkV} (o1 : (pvK A).ok = true) (o2 : (pvK B).ok = true) : (pvK { B with f := A.f, t := A.t, pr := A.pr, i := (A.i + 1) % 256 }).ok = true ∧ A.i ≠ (A.i + 1) % 256 := by
  obtain ⟨af, at', ap, ah, ai, aa, am, au, ad, aq⟩ := A
  obtain ⟨bf, bt, bp, bh, bi, ba, bm, bu, bd, bq⟩ := B
  have r1 := pk_okR o1
  have r2 := pk_okR o2
  simp only [pvK] at r1 r2 o2 ⊢
  rw [Pk.ok, pkB, Bool.and_eq_true] at o2 ⊢
  refine ⟨⟨?_, o2.2⟩, by omega⟩
  rw [pkR, decide_eq_true_eq]
  dsimp only
  exact ⟨⟨by omega, by omega⟩, by omega, by omega, by omega, by omega, by omega⟩
/-- two packets of different numbers -/
theorem mx_facts (xs : List UInt8) : (0 ≤ mxQ xs ∧ mxQ xs < 1000) ∧ (pvK (mxA xs)).ok = true ∧ (pvK (mxB xs)).ok = true ∧ (mxA xs).d.length ≤ 48 ∧ (mxB xs).d.length ≤ 48 ∧ (mxA xs).i ≠ (mxB xs).i := by
  have h1 := lnV_q xs 0 (by omega)
  have h2 := lnV_q xs (lnV xs 0).q (by omega)
  have o1 := lnV_ok xs 0 (by omega)
  have o2 := lnV_ok xs (lnV xs 0).q (by omega)
  have ho := mx_ok o1 o2
  have hq : mxQ xs = (lnV xs (lnV xs 0).q).q := rfl
  unfold mxA mxB
  rw [hq]
  generalize lnV xs (lnV xs 0).q = B at h2 o2 ho ⊢
  generalize lnV xs 0 = A at h1 h2 o1 ho ⊢
  exact ⟨by omega, o1, ho.1, by omega, by show B.d.length ≤ 48; omega, ho.2⟩
def g_drawMx : PC := fun args => match args with
  | [.l _ rows] => some (∃ xs, rows = rowsOfBytes xs, .tup [.agg [.v (.int .i64 (mxA ((bytesOfRows rows).take 2000)).f), .v (.int .i64 (mxA ((bytesOfRows rows).take 2000)).t), .v (.int .i64 (mxA ((bytesOfRows rows).take 2000)).pr), .v (.int .i64 (mxA ((bytesOfRows rows).take 2000)).h), .v (.int .i64 (mxA ((bytesOfRows rows).take 2000)).i), .v (.int .i64 (mxA ((bytesOfRows rows).take 2000)).a), .v (.bool (mxA ((bytesOfRows rows).take 2000)).m), .v (.bool (mxA ((bytesOfRows rows).take 2000)).u), .l 1 (rowsOfBytes (mxA ((bytesOfRows rows).take 2000)).d)], .agg [.v (.int .i64 (mxB ((bytesOfRows rows).take 2000)).f), .v (.int .i64 (mxB ((bytesOfRows rows).take 2000)).t), .v (.int .i64 (mxB ((bytesOfRows rows).take 2000)).pr), .v (.int .i64 (mxB ((bytesOfRows rows).take 2000)).h), .v (.int .i64 (mxB ((bytesOfRows rows).take 2000)).i), .v (.int .i64 (mxB ((bytesOfRows rows).take 2000)).a), .v (.bool (mxB ((bytesOfRows rows).take 2000)).m), .v (.bool (mxB ((bytesOfRows rows).take 2000)).u), .l 1 (rowsOfBytes (mxB ((bytesOfRows rows).take 2000)).d)], .v (.int .i64 (mxL ((bytesOfRows rows).take 2000))), .l 1 (nRows (mxO ((bytesOfRows rows).take 2000) 60))], [])
  | _ => none
def dmx : List (FuncId × Abs) := [(38, ownAbs g_open), (41, ownAbs g_long), (40, ownAbs g_pick)]
theorem dmx_ok : ∀ p ∈ dmx, CallOk Try.prog p.1 p.2 := by
  intro p hp
  simp only [dmx, List.mem_cons, List.not_mem_nil, or_false] at hp
  rcases hp with rfl | rfl | rfl
  · exact open_ok.call
  · exact long_ok.call
  · exact pick_ok.call
set_option maxHeartbeats 8000000 in
set_option maxRecDepth 100000 in
theorem drawMixedPieces_ok : OwnOk Try.prog 37 (ocOf g_drawMx) := by
  refine OwnOk.of_vcD (G := dmx) dmx_ok mixed Try.func37 (by kernel_rfl) rfl ?_
  intro args cnd r bs hg hc
  unfold g_drawMx at hg
  split at hg
  · rename_i sz rows
    cases hg
    obtain ⟨xs, rfl⟩ := hc
    rw [bytesOf_rows]
    have hx : (∃ ys, rowsOfBytes (List.take 2000 xs) = rowsOfBytes ys ∧ ys.length ≤ 2000) = True := eq_true ⟨_, rfl, by rw [List.length_take]; omega⟩
    obtain ⟨ys, hys⟩ : ∃ ys, ys = List.take 2000 xs := ⟨_, rfl⟩
    rw [← hys] at hx ⊢
    have h1 := lnV_q ys 0 (by omega)
    have h2 := lnV_q ys (lnV ys 0).q (by omega)
    have r1 := pk_okR (lnV_ok ys 0 (by omega))
    have hQ : mxQ ys = (lnV ys (lnV ys 0).q).q := rfl
    have hA0 : mxA ys = lnV ys 0 := rfl
    have hL0 : mxL ys = 1 + pickV ys (mxQ ys + 60) 6 := rfl
    have ai : (pvK (lnV ys 0)).i = (lnV ys 0).i := rfl
    have hBf : (mxB ys).f = (lnV ys 0).f := rfl
    have hBt : (mxB ys).t = (lnV ys 0).t := rfl
    have hBp : (mxB ys).pr = (lnV ys 0).pr := rfl
    have hBi : (mxB ys).i = ((lnV ys 0).i + 1) % 256 := rfl
    have hBh : (mxB ys).h = (lnV ys (lnV ys 0).q).h := rfl
    have hBa : (mxB ys).a = (lnV ys (lnV ys 0).q).a := rfl
    have hBm : (mxB ys).m = (lnV ys (lnV ys 0).q).m := rfl
    have hBu : (mxB ys).u = (lnV ys (lnV ys 0).q).u := rfl
    have hBd : (mxB ys).d = (lnV ys (lnV ys 0).q).d := rfl
    rw [hA0]
    obtain ⟨A, hA⟩ : ∃ A, lnV ys 0 = A := ⟨_, rfl⟩
    rw [hA] at h1 h2 r1 hQ ai hBf hBt hBp hBi hBh hBa hBm hBu hBd ⊢
    obtain ⟨B0, hB0⟩ : ∃ B0, lnV ys A.q = B0 := ⟨_, rfl⟩
    rw [hB0] at h2 hQ hBh hBa hBm hBu hBd
    obtain ⟨B, hB⟩ : ∃ B, mxB ys = B := ⟨_, rfl⟩
    rw [hB] at hBf hBt hBp hBi hBh hBa hBm hBu hBd ⊢
    obtain ⟨q, hq⟩ : ∃ q, mxQ ys = q := ⟨_, rfl⟩
    rw [hq] at hQ hL0
    have hQ' := hQ.symm
    have hq0 : 0 ≤ q ∧ q < 1000 := by omega
    rw [ai] at r1
    have w1 : IntKind.i64.wrap (A.i + 1) = A.i + 1 := wrap_id (by omega) (by omega)
    have t1 : (A.i + 1).tmod 256 = (A.i + 1) % 256 := Int.tmod_eq_emod_of_nonneg (by omega)
    have w3 : IntKind.i64.wrap ((A.i + 1) % 256) = (A.i + 1) % 256 := wrap_id (by omega) (by omega)
    have b0 := pickV_nonneg ys (q + 60) 6 (by omega)
    have b1 := pickV_lt ys (q + 60) 6 (by omega)
    have w4 : IntKind.i64.wrap (1 + pickV ys (q + 60) 6) = mxL ys := by rw [hL0, wrap_id (by omega) (by omega)]
    refine ⟨⟨rfl, by simp [AV.ids, AV.ids.idsL]⟩, [.l 1 (rowsOfBytes xs)], rfl, fun w Z s vs h => CvL.ok (.cons (.l _ _ _ (rowsOf_w xs)) .nil) h, ?_⟩
    simp (maxSteps := 3000000) only [Try.f37, dmx, g_open, g_long, g_pick, bytesOf_rows, rowsOf_len, hx, ← hys, hA, hB0, hQ', w1, t1, w3, List.take_succ_cons, List.take_zero, List.drop_succ_cons, List.drop_zero, List.cons_append, List.nil_append, tY2, tY3, tY4, tY5, tY9, tY12, tY21, tY22, tY23, tY24, tY27, tY35, tY36, tY47, tY55, tY83, tY84, tY97, tY106, Try.underlying2, Try.underlying3, Try.underlying4, Try.underlying5, Try.underlying9, Try.underlying12, Try.underlying21, Try.underlying22, Try.underlying23, Try.underlying24, Try.underlying27, Try.underlying35, Try.underlying36, Try.underlying47, Try.underlying55, Try.underlying83, Try.underlying84, Try.underlying97, Try.underlying106, e_skip, e_label, e_ret, e_exit, e_seq, e_cond, e_block, e_region, seqK_normal, seqK_ret, seqK_exit, blkK_normal, blkK_ret, blkK_exit, condK_some, regK_true, regK_false, e_nil, e_cons, gateK_go, gateK_skip, gateK_ask, pickK_some, exK_some, x_pick, x_move, x_assign, x_alloc, x_box, x_build, x_buildSlice, x_load, x_store, x_binOp, x_unOp, x_convert, x_makeSlice, x_slice, x_fieldAddr, x_field, x_indexAddr, x_extract, x_nilCheck, x_call, x_len, x_append, x_min, oMin, x_copy, oCopy, eqAVs, callK_some, done_ret, done_normal, doneO_ret, doneO_normal, endsO_one, endsO_nil, endsO_more, ownAbs, frzAbs, leafs, leafs.leafsL, uniq, idxOf, bk, zipB, Blk.liveB, gate_none, gate_some, gateS_none, gateS_some, gateV_bool, gateV_undef, boolOf, evA, putT, refn, fpD, oBin, oUn, upsl, upl, up, ups, lk, dstsOf, resL, resA, packA, oLoadQ, oLoadKid, oStoreQ, oStoreTree, oBuildSliceQ, oBuildTree, oAppendQ, oAppendTree, isTr, isTrP, tkd, tkds, tkRows, ownOf, nodupB, deadL, treeOf, kidAbs, kidBlk, kidRows, TK.isCell, D.toL, oLoad, oStore, oAlloc, oBox, oBuild, oBuildSlice, oMake, oAppend, oIndexAddr, oFieldAddr, oField, oExtract, oNil, oSlice, oLen, oConvert, rowLoad, fillA, fillR, slB, dk, dks, dkRows, frz, loOf, hiOf, lenOf, rowsOf, nilV, lenV, putAt, views, viewsOk, CK.av, CK.ok, AV.cells, AV.one, Value.oneCell', Value.cells, pureAbs, nrm, nrm.nrmL, hpAt, sh, AV.ren, AV.ren.renL, Blk.ren, fpOf, footO, foot, blkIds, AV.ids, AV.ids.idsL, Op.operands, Call.operands, List.find?_cons, List.find?_nil, Nat.reduceBEq, beq_self_eq_true, List.map_cons, List.map_nil, List.getD_cons_zero, List.getD_cons_succ, List.getD_nil, List.set_cons_zero, List.set_cons_succ, List.length_cons, List.length_nil, List.replicate, List.cons_append, List.nil_append, List.append_nil, List.getElem?_cons_zero, List.getElem?_cons_succ, List.getElem?_toArray, List.getElem?_nil, List.take_zero, List.take_succ_cons, List.take_nil, List.drop_zero, List.drop_succ_cons, List.drop_nil, List.headD_cons, List.tail_cons, List.flatten_cons, List.flatten_nil, List.flatMap_cons, List.flatMap_nil, List.toList_toArray, Array.toList_append, Option.bind_some, Option.map_some, Option.map_none, Option.isSome_some, List.all_nil, List.all_cons, Bool.and_self, Bool.and_true, Bool.true_and, true_and, and_true, ↓reduceIte, List.size_toArray, Bool.false_eq_true, Bool.true_eq_false, false_implies, true_implies, Bool.not_true, Bool.not_false, and_self, implies_true, decide_true, decide_false, Nat.reduceAdd, Nat.reduceMul, Nat.reduceLT, Nat.reduceSub, Nat.reduceLeDiff, Nat.reduceEqDiff, eq_self, ne_eq, not_false_eq_true, false_and, and_false, reduceCtorEq, List.filter_nil, List.filter_cons, List.isEmpty_nil, List.isEmpty_cons, bne_self_eq_false, Nat.reduceBneDiff, Nat.lt_add_one, Nat.zero_lt_succ, List.append_assoc, Nat.zero_le, and_self_iff, Int.reduceToNat, List.any_nil, List.any_cons, List.filterMap_nil, List.filterMap_cons, List.contains_nil, List.contains_cons, Bool.or_false, Bool.false_or, Bool.or_true, Bool.true_or, Bool.false_and, Bool.and_false, decide_eq_true_eq, decide_eq_false_iff_not, beq_iff_eq, Int.toNat_natCast, doneD_ret, doneD_normal]
    refine ⟨⟨_, rfl⟩, by omega, by omega, by omega, ?_⟩
    refine e_loop _ _ _ _ _ _ _ _ (fun k : Nat => [.any, .any, .ptr 0 0, .ptr 1 0, .any, .any, .ptr 2 0, .ptr 3 0, .ptr 4 0, .own 5, .v (.int .i64 (k : Int))] ++ List.replicate (Try.f37.ntmps - 11) .any) (fun k => [(0, .var 24 [.v (.int .i64 0), .v (.int .i64 0), .v (.int .i64 0), .v (.int .i64 0), .v (.int .i64 0), .v (.int .i64 0), .v (.bool false), .v (.bool false), .v (.slice none 0 0)]), (1, .var 24 [.v (.int .i64 0), .v (.int .i64 0), .v (.int .i64 0), .v (.int .i64 0), .v (.int .i64 0), .v (.int .i64 0), .v (.bool false), .v (.bool false), .v (.slice none 0 0)]), (2, .var 84 [.l 1 (rowsOfBytes ys), .v (.int .i64 (q + (k : Int)))]), (3, .var 24 [.v (.int .i64 A.f), .v (.int .i64 A.t), .v (.int .i64 A.pr), .v (.int .i64 A.h), .v (.int .i64 A.i), .v (.int .i64 A.a), .v (.bool A.m), .v (.bool A.u), .l 1 (rowsOfBytes A.d)]), (4, .var 24 [.v (.int .i64 B.f), .v (.int .i64 B.t), .v (.int .i64 B.pr), .v (.int .i64 B.h), .v (.int .i64 B.i), .v (.int .i64 B.a), .v (.bool B.m), .v (.bool B.u), .l 1 (rowsOfBytes B.d)]), (5, .sl 3 1 (nRows (mxO ys k)))]) (fun k => k ≤ 60) (fun k => 60 - k) 6 (fun k => by simp) ?_ fun k hk' => ?_
    · exact ⟨0, [(0, some _), (1, some _), (2, some _), (3, some _), (4, some _), (5, some _)], Nat.zero_le _, ⟨⟨trivial, trivial, ⟨rfl, rfl, rfl⟩, ⟨rfl, rfl, rfl⟩, trivial, trivial, ⟨rfl, rfl, rfl⟩, ⟨rfl, rfl, rfl⟩, ⟨rfl, rfl, rfl⟩, ⟨rfl, rfl, rfl⟩, ⟨rfl, rfl, rfl⟩, fitT_rep _ _ rfl⟩, ⟨.inl rfl, rfl, rfl, rfl, .inl rfl, rfl, rfl, rfl, .inl (by rw [show q + ((0 : Nat) : Int) = q from by omega]; rfl), rfl, rfl, rfl, .inl rfl, rfl, rfl, rfl, .inl (by rw [hBf, hBt, hBp, hBi, hBh, hBa, hBm, hBu, hBd]; rfl), rfl, rfl, rfl, .inl rfl, rfl, rfl, rfl, trivial⟩, by simp [rn, hpAt]⟩, by simp [keepIds]⟩
    have w2 : IntKind.i64.wrap ((k : Int) + 1) = ((k + 1 : Nat) : Int) := by rw [wrap_id] <;> omega
    have hol := mxO_len ys k
    by_cases hk : k < 60
    · have hlt : ((k : Int) < 60) = True := eq_true (by omega)
      have c0 := pickV_nonneg ys (q + (k : Int)) 2 (by omega)
      have hst := mxO_succ ys k
      rw [hq] at hst
      obtain ⟨i, hi⟩ : ∃ i : Nat, pickV ys (q + (k : Int)) 2 = (i : Int) := ⟨(pickV ys (q + (k : Int)) 2).toNat, by omega⟩
      rw [hi, Int.toNat_natCast] at hst
      have qn : q + (k : Int) + 1 = q + ((k + 1 : Nat) : Int) := by omega
      have e1 : nRows (mxO ys k) ++ [[D.v (.int .i64 (i : Int))]] = nRows (mxO ys (k + 1)) := by rw [hst, ← nRows_app]; rfl
      simp (maxSteps := 3000000) only [Try.f37, dmx, g_open, g_long, g_pick, ← hys, hlt, w2, hi, qn, e1, bytesOf_rows, rowsOf_len, nRows_len, hx, tY2, tY3, tY4, tY5, tY9, tY12, tY21, tY22, tY23, tY24, tY27, tY35, tY36, tY47, tY55, tY83, tY84, tY97, tY106, Try.underlying2, Try.underlying3, Try.underlying4, Try.underlying5, Try.underlying9, Try.underlying12, Try.underlying21, Try.underlying22, Try.underlying23, Try.underlying24, Try.underlying27, Try.underlying35, Try.underlying36, Try.underlying47, Try.underlying55, Try.underlying83, Try.underlying84, Try.underlying97, Try.underlying106, e_skip, e_label, e_ret, e_exit, e_seq, e_cond, e_block, e_region, seqK_normal, seqK_ret, seqK_exit, blkK_normal, blkK_ret, blkK_exit, condK_some, regK_true, regK_false, e_nil, e_cons, gateK_go, gateK_skip, gateK_ask, pickK_some, exK_some, x_pick, x_move, x_assign, x_alloc, x_box, x_build, x_buildSlice, x_load, x_store, x_binOp, x_unOp, x_convert, x_makeSlice, x_slice, x_fieldAddr, x_field, x_indexAddr, x_extract, x_nilCheck, x_call, x_len, x_append, x_min, oMin, x_copy, oCopy, eqAVs, callK_some, done_ret, done_normal, doneO_ret, doneO_normal, endsO_one, endsO_nil, endsO_more, ownAbs, frzAbs, leafs, leafs.leafsL, uniq, idxOf, bk, zipB, Blk.liveB, gate_none, gate_some, gateS_none, gateS_some, gateV_bool, gateV_undef, boolOf, evA, putT, refn, fpD, oBin, oUn, upsl, upl, up, ups, lk, dstsOf, resL, resA, packA, oLoadQ, oLoadKid, oStoreQ, oStoreTree, oBuildSliceQ, oBuildTree, oAppendQ, oAppendTree, isTr, isTrP, tkd, tkds, tkRows, ownOf, nodupB, deadL, treeOf, kidAbs, kidBlk, kidRows, TK.isCell, D.toL, oLoad, oStore, oAlloc, oBox, oBuild, oBuildSlice, oMake, oAppend, oIndexAddr, oFieldAddr, oField, oExtract, oNil, oSlice, oLen, oConvert, rowLoad, fillA, fillR, slB, dk, dks, dkRows, frz, loOf, hiOf, lenOf, rowsOf, nilV, lenV, putAt, views, viewsOk, CK.av, CK.ok, AV.cells, AV.one, Value.oneCell', Value.cells, pureAbs, nrm, nrm.nrmL, hpAt, sh, AV.ren, AV.ren.renL, Blk.ren, fpOf, footO, foot, blkIds, AV.ids, AV.ids.idsL, Op.operands, Call.operands, List.find?_cons, List.find?_nil, Nat.reduceBEq, beq_self_eq_true, List.map_cons, List.map_nil, List.getD_cons_zero, List.getD_cons_succ, List.getD_nil, List.set_cons_zero, List.set_cons_succ, List.length_cons, List.length_nil, List.replicate, List.cons_append, List.nil_append, List.append_nil, List.getElem?_cons_zero, List.getElem?_cons_succ, List.getElem?_toArray, List.getElem?_nil, List.take_zero, List.take_succ_cons, List.take_nil, List.drop_zero, List.drop_succ_cons, List.drop_nil, List.headD_cons, List.tail_cons, List.flatten_cons, List.flatten_nil, List.flatMap_cons, List.flatMap_nil, List.toList_toArray, Array.toList_append, Option.bind_some, Option.map_some, Option.map_none, Option.isSome_some, List.all_nil, List.all_cons, Bool.and_self, Bool.and_true, Bool.true_and, true_and, and_true, ↓reduceIte, List.size_toArray, Bool.false_eq_true, Bool.true_eq_false, false_implies, true_implies, Bool.not_true, Bool.not_false, and_self, implies_true, decide_true, decide_false, Nat.reduceAdd, Nat.reduceMul, Nat.reduceLT, Nat.reduceSub, Nat.reduceLeDiff, Nat.reduceEqDiff, eq_self, ne_eq, not_false_eq_true, false_and, and_false, reduceCtorEq, List.filter_nil, List.filter_cons, List.isEmpty_nil, List.isEmpty_cons, bne_self_eq_false, Nat.reduceBneDiff, Nat.lt_add_one, Nat.zero_lt_succ, List.append_assoc, Nat.zero_le, and_self_iff, Int.reduceToNat, List.any_nil, List.any_cons, List.filterMap_nil, List.filterMap_cons, List.contains_nil, List.contains_cons, Bool.or_false, Bool.false_or, Bool.or_true, Bool.true_or, Bool.false_and, Bool.and_false, decide_eq_true_eq, decide_eq_false_iff_not, beq_iff_eq, Int.toNat_natCast, loopK_normal, loopK_exit, loopK_ret, doneD_ret, doneD_normal]
      exact ⟨by omega, ⟨by omega, by omega, by simp⟩, k + 1, [(0, some 0), (1, some 1), (2, some 2), (3, some 3), (4, some 4), (5, some _)], by omega, by omega, ⟨⟨trivial, trivial, ⟨rfl, rfl, rfl⟩, ⟨rfl, rfl, rfl⟩, trivial, trivial, ⟨rfl, rfl, rfl⟩, ⟨rfl, rfl, rfl⟩, ⟨rfl, rfl, rfl⟩, ⟨rfl, rfl, rfl⟩, ⟨rfl, rfl, rfl⟩, fitT_rep _ _ rfl⟩, ⟨.inl rfl, rfl, rfl, rfl, .inl rfl, rfl, rfl, rfl, .inl rfl, rfl, rfl, rfl, .inl rfl, rfl, rfl, rfl, .inl rfl, rfl, rfl, rfl, .inl rfl, rfl, rfl, rfl, trivial⟩, by simp [rn, hpAt]⟩, by simp [keepIds]⟩
    · have hlt : ((k : Int) < 60) = False := eq_false (by omega)
      obtain rfl : k = 60 := by omega
      have q60 : q + ((60 : Nat) : Int) = q + 60 := by omega
      simp (maxSteps := 3000000) only [Try.f37, dmx, g_open, g_long, g_pick, ← hys, hlt, q60, w4, bytesOf_rows, rowsOf_len, nRows_len, hx, tY2, tY3, tY4, tY5, tY9, tY12, tY21, tY22, tY23, tY24, tY27, tY35, tY36, tY47, tY55, tY83, tY84, tY97, tY106, Try.underlying2, Try.underlying3, Try.underlying4, Try.underlying5, Try.underlying9, Try.underlying12, Try.underlying21, Try.underlying22, Try.underlying23, Try.underlying24, Try.underlying27, Try.underlying35, Try.underlying36, Try.underlying47, Try.underlying55, Try.underlying83, Try.underlying84, Try.underlying97, Try.underlying106, e_skip, e_label, e_ret, e_exit, e_seq, e_cond, e_block, e_region, seqK_normal, seqK_ret, seqK_exit, blkK_normal, blkK_ret, blkK_exit, condK_some, regK_true, regK_false, e_nil, e_cons, gateK_go, gateK_skip, gateK_ask, pickK_some, exK_some, x_pick, x_move, x_assign, x_alloc, x_box, x_build, x_buildSlice, x_load, x_store, x_binOp, x_unOp, x_convert, x_makeSlice, x_slice, x_fieldAddr, x_field, x_indexAddr, x_extract, x_nilCheck, x_call, x_len, x_append, x_min, oMin, x_copy, oCopy, eqAVs, callK_some, done_ret, done_normal, doneO_ret, doneO_normal, endsO_one, endsO_nil, endsO_more, ownAbs, frzAbs, leafs, leafs.leafsL, uniq, idxOf, bk, zipB, Blk.liveB, gate_none, gate_some, gateS_none, gateS_some, gateV_bool, gateV_undef, boolOf, evA, putT, refn, fpD, oBin, oUn, upsl, upl, up, ups, lk, dstsOf, resL, resA, packA, oLoadQ, oLoadKid, oStoreQ, oStoreTree, oBuildSliceQ, oBuildTree, oAppendQ, oAppendTree, isTr, isTrP, tkd, tkds, tkRows, ownOf, nodupB, deadL, treeOf, kidAbs, kidBlk, kidRows, TK.isCell, D.toL, oLoad, oStore, oAlloc, oBox, oBuild, oBuildSlice, oMake, oAppend, oIndexAddr, oFieldAddr, oField, oExtract, oNil, oSlice, oLen, oConvert, rowLoad, fillA, fillR, slB, dk, dks, dkRows, frz, loOf, hiOf, lenOf, rowsOf, nilV, lenV, putAt, views, viewsOk, CK.av, CK.ok, AV.cells, AV.one, Value.oneCell', Value.cells, pureAbs, nrm, nrm.nrmL, hpAt, sh, AV.ren, AV.ren.renL, Blk.ren, fpOf, footO, foot, blkIds, AV.ids, AV.ids.idsL, Op.operands, Call.operands, List.find?_cons, List.find?_nil, Nat.reduceBEq, beq_self_eq_true, List.map_cons, List.map_nil, List.getD_cons_zero, List.getD_cons_succ, List.getD_nil, List.set_cons_zero, List.set_cons_succ, List.length_cons, List.length_nil, List.replicate, List.cons_append, List.nil_append, List.append_nil, List.getElem?_cons_zero, List.getElem?_cons_succ, List.getElem?_toArray, List.getElem?_nil, List.take_zero, List.take_succ_cons, List.take_nil, List.drop_zero, List.drop_succ_cons, List.drop_nil, List.headD_cons, List.tail_cons, List.flatten_cons, List.flatten_nil, List.flatMap_cons, List.flatMap_nil, List.toList_toArray, Array.toList_append, Option.bind_some, Option.map_some, Option.map_none, Option.isSome_some, List.all_nil, List.all_cons, Bool.and_self, Bool.and_true, Bool.true_and, true_and, and_true, ↓reduceIte, List.size_toArray, Bool.false_eq_true, Bool.true_eq_false, false_implies, true_implies, Bool.not_true, Bool.not_false, and_self, implies_true, decide_true, decide_false, Nat.reduceAdd, Nat.reduceMul, Nat.reduceLT, Nat.reduceSub, Nat.reduceLeDiff, Nat.reduceEqDiff, eq_self, ne_eq, not_false_eq_true, false_and, and_false, reduceCtorEq, List.filter_nil, List.filter_cons, List.isEmpty_nil, List.isEmpty_cons, bne_self_eq_false, Nat.reduceBneDiff, Nat.lt_add_one, Nat.zero_lt_succ, List.append_assoc, Nat.zero_le, and_self_iff, Int.reduceToNat, List.any_nil, List.any_cons, List.filterMap_nil, List.filterMap_cons, List.contains_nil, List.contains_cons, Bool.or_false, Bool.false_or, Bool.or_true, Bool.true_or, Bool.false_and, Bool.and_false, decide_eq_true_eq, decide_eq_false_iff_not, beq_iff_eq, Int.toNat_natCast, loopK_normal, loopK_exit, loopK_ret, doneD_ret, doneD_normal]
      exact ⟨by omega, by kernel_rfl, _, rfl, rfl⟩
  · cases hg
end Go.Proofs.Ytdeldmagmljacaa

namespace Go.Proofs.Ytdeldmagmljacaa
open Go.RowKit
set_option linter.unusedSimpArgs false
set_option linter.unusedVariables false

/-! pieces of two packets -/
theorem sel_upto {C : List Pk} {i : Nat} (h : i ≤ C.length) : (sel C fun j => decide (j < i)) = C.take i := by
  by_cases hi : i < C.length
  · have e1 : selA C (fun j => decide (j < i)) i = C.take i := by
      rw [selA, List.filter_eq_self.2 fun j hj => by have := List.mem_range.1 hj; simpa using this]
      apply List.ext_getElem
      · rw [List.length_map, List.length_range, List.length_take]; omega
      · intro k g1 g2
        rw [List.length_map, List.length_range] at g1
        rw [List.getElem_map, List.getElem_range, List.getElem_take, pk_get (by omega)]
    have e2 : selZ C (fun j => decide (j < i)) i = [] := by
      rw [selZ, List.filter_eq_nil_iff.2 fun j hj => ?_, List.map_nil]
      obtain ⟨k, hk, rfl⟩ := List.mem_map.1 hj
      simp; omega
    rw [sel_cut hi, e1, e2, if_neg (by simp)]; simp
  · have : i = C.length := by omega
    subst this
    rw [List.take_length]
    exact sel_all fun j hj => by simpa using hj
theorem take_put {C : List Pk} {u : Int} (h : wholeB C u = true) {i : Nat} (hi : i < C.length) (h0 : 0 < i) : putO (C.take i) u C[i] = some (C.take (i + 1)) := by
  have e := sel_put h (f := fun j => decide (j < i)) hi (by rw [sel_upto (by omega), List.length_take]; omega)
  rw [sel_upto (by omega)] at e
  rw [e, ← sel_upto (C := C) (i := i + 1) (by omega)]
  congr 1
  refine sel_congr fun j _ => ?_
  rw [Bool.eq_iff_iff, Bool.or_eq_true, decide_eq_true_eq, decide_eq_true_eq, beq_iff_eq]
  omega
theorem take_whole {C : List Pk} {u : Int} (h : wholeB C u = true) {i : Nat} (hi : i ≤ C.length) : wholeB (C.take i) u = decide (i = C.length) := by
  by_cases e : i = C.length
  · subst e; rw [List.take_length, h, decide_eq_true rfl]
  · rw [decide_eq_false e, ← sel_upto hi]
    exact sel_not h (i := C.length - 1) (by omega) (by simp; omega)
theorem take_part {C : List Pk} {u : Int} (h : wholeB C u = true) {i : Nat} (h0 : 0 < i) (hi : i ≤ C.length) : partB (C.take i) u = true :=
  partB_sub (whole_parts h).1 (List.take_sublist _ _) (by rw [List.length_take]; omega)
theorem take_head {C : List Pk} {i : Nat} (h0 : 0 < i) (hC : 0 < C.length) : (C.take i).getD 0 pk0 = C[0] := by
  rw [pk_get (by rw [List.length_take]; omega), List.getElem_take]
theorem hear_hit {L : List Pt} {q : Pk} {k : Nat} {S R : List Pk} (hp : ptsB L = true) (hl : liveP L 3 = L) (hq : q.ok = true) (ha : alone q = false) (hf : findP L q = k) (hk : k < L.length) (hL : L.getD k pt0 = ⟨S, 18⟩) (hput : putO S 18 q = some R) :
    phF L q 3 = (if wholeB R 18 = true then outP L k else L.set k ⟨R, 18⟩) ∧ phB L q 3 = wholeB R 18 ∧ phS L q 3 = false ∧ phP L q 3 = wholeV R 18 := by
  have ho : phOk L q 3 = true := by rw [phOk, hp, hq]; rfl
  have hne : ¬ k = L.length := by omega
  have h1 : hitL L k q = (if wholeB R 18 = true then outP L k else L.set k ⟨R, 18⟩) := by rw [hitL, hL]; dsimp only; rw [hput]
  have h2 : hitB L k q = wholeB R 18 := by rw [hitB, hL]; dsimp only; rw [hput]
  have h3 : hitP L k q = wholeV R 18 := by rw [hitP, hL]; dsimp only; rw [hput]
  refine ⟨?_, ?_, ?_, ?_⟩
  · simp only [phF, ho, ha, hl, hf, h1, hne, ↓reduceIte, Bool.false_eq_true]
  · simp only [phB, ho, ha, hl, hf, h2, hne, decide_false, Bool.not_false, Bool.true_and, Bool.false_or]
  · simp only [phS, ho, ha, hl, hf, hne, decide_false, Bool.and_false, Bool.false_and]
  · simp only [phP, ho, ha, hl, hf, h3, hne, ↓reduceIte, Bool.false_eq_true]
theorem hear_new {L : List Pt} {q : Pk} (hp : ptsB L = true) (hl : liveP L 3 = L) (hq : q.ok = true) (ha : alone q = false) (hf : findP L q = L.length) (h2 : L.length ≤ 2) :
    phF L q 3 = L ++ [⟨[q], 18⟩] ∧ phB L q 3 = false ∧ phS L q 3 = false := by
  have ho : phOk L q 3 = true := by rw [phOk, hp, hq]; rfl
  refine ⟨?_, ?_, ?_⟩
  · simp only [phF, ho, ha, hl, hf, ↓reduceIte, Bool.false_eq_true]; rfl
  · simp only [phB, ho, ha, hl, hf, decide_true, Bool.not_true, Bool.false_and, Bool.or_false, Bool.and_false]
  · simp only [phS, ho, ha, hl, hf, h2, decide_true, Bool.not_true, Bool.and_false]
theorem hear_al {L : List Pt} {q : Pk} (hp : ptsB L = true) (hl : liveP L 3 = L) (hq : q.ok = true) (ha : alone q = true) :
    phF L q 3 = L ∧ phB L q 3 = true ∧ phS L q 3 = false ∧ phP L q 3 = q := by
  have ho : phOk L q 3 = true := by rw [phOk, hp, hq]; rfl
  rw [phF, phB, phS, phP, ho, ha, hl]
  exact ⟨rfl, rfl, rfl, rfl⟩
theorem ptsB_one {a : Pt} (h : partB a.ps a.u = true) : ptsB [a] = true := by
  rw [ptsB, ptsK]
  show (decide (1 ≤ 3) && ((partB a.ps a.u && decide (findP [] _ = 0)) && true)) = true
  rw [h]; rfl
theorem ptsB_two {a b : Pt} (ha : partB a.ps a.u = true) (hb : partB b.ps b.u = true) (hn : of1 a (b.ps.getD 0 pk0) = false) : ptsB [a, b] = true := by
  have e1 : ptStep [a, b] 0 = true := by
    show (partB a.ps a.u && decide (findP [] _ = 0)) = true
    rw [ha]; rfl
  have e2 : ptStep [a, b] 1 = true := by
    show (partB b.ps b.u && decide (findP [a] (b.ps.getD 0 pk0) = 1)) = true
    have : findP [a] (b.ps.getD 0 pk0) = 1 := by rw [findP, if_neg (by rw [hn]; decide)]; rfl
    rw [hb, this]; rfl
  rw [ptsB, ptsK]
  show (decide (2 ≤ 3) && (ptStep [a, b] 0 && (ptStep [a, b] 1 && true))) = true
  rw [e1, e2]; rfl
/-- the part of a packet of which i pieces came -/
def half (X : List Pk) (i : Nat) : List Pt := if 0 < i ∧ i < X.length then [⟨X.take i, 18⟩] else []
def Mixed (X Y : List Pk) (i j : Nat) (L : List Pt) : Prop := L = half X i ++ half Y j ∨ L = half Y j ++ half X i
theorem Mixed.swap {X Y : List Pk} {i j : Nat} {L : List Pt} (h : Mixed X Y i j L) : Mixed Y X j i L := h.symm
theorem half_le (X : List Pk) (i : Nat) : (half X i).length ≤ 1 := by
  rw [half]; split <;> simp
theorem half_live (X : List Pk) (i : Nat) : liveP (half X i) 3 = half X i := by
  rw [half]; split <;> rfl
theorem live_app (a b : List Pt) : liveP (a ++ b) 3 = liveP a 3 ++ liveP b 3 := by simp [liveP]
/-- the next piece of one of two packets -/
theorem mixed_step {X Y : List Pk} (hX : wholeB X 18 = true) (hY : wholeB Y 18 = true) (hd : ∀ x ∈ X, ∀ y ∈ Y, same4 x y = false ∧ same4 y x = false) {i j : Nat} {L : List Pt} (hL : Mixed X Y i j L) (hi : i < X.length) (hj : j ≤ Y.length) :
    Mixed X Y (i + 1) j (phF L X[i] 3) ∧ phB L X[i] 3 = decide (i + 1 = X.length) ∧ phS L X[i] 3 = false ∧ (i + 1 = X.length → (phP L X[i] 3).d = joinD X ∧ (phP L X[i] 3).i = X[0].i) := by
  have pX := partC hX
  have pY := partC hY
  have hok := pX.1 _ (List.getElem_mem hi)
  -- the other part
  have hO : half Y j = [] ∨ ∃ o : Pt, half Y j = [o] ∧ partB o.ps o.u = true ∧ o.u = 18 ∧ ∀ x ∈ X, of1 o x = false ∧ same4 x (o.ps.getD 0 pk0) = false := by
    rw [half]
    split
    · rename_i hc
      refine .inr ⟨_, rfl, take_part hY hc.1 hj, rfl, fun x hx => ?_⟩
      have := hd x hx Y[0] (List.getElem_mem pY.2.2.2.1)
      show same4 ((Y.take j).getD 0 pk0) x = false ∧ same4 x ((Y.take j).getD 0 pk0) = false
      rw [take_head hc.1 pY.2.2.2.1]
      exact ⟨this.2, this.1⟩
    · exact .inl rfl
  have hlive : liveP L 3 = L := by
    rcases hL with rfl | rfl
    · rw [live_app, half_live, half_live]
    · rw [live_app, half_live, half_live]
  by_cases h0 : i = 0
  · subst h0
    have hA : half X 0 = [] := by rw [half, if_neg (by omega)]
    have hLO : L = half Y j := by rcases hL with rfl | rfl <;> rw [hA] <;> simp
    have hpt : ptsB L = true := by
      rw [hLO]
      rcases hO with e | ⟨o, e, ho, _, _⟩
      · rw [e]; rfl
      · rw [e]; exact ptsB_one ho
    by_cases h1 : X.length = 1
    · have hm : X[0].m = false := by
        have := (whole_parts hX).2.2
        rw [more_last hi] at this
        simp only [h1] at this
        exact this
      have hal : alone X[0] = true := by rw [alone, zero_at hi (whole_parts hX).2.1, hm]; rfl
      obtain ⟨a, b, c, d⟩ := hear_al hpt hlive hok hal
      have hA1 : half X (0 + 1) = [] := by rw [half, if_neg (by omega)]
      rw [a, b, c, d]
      refine ⟨.inl (by rw [hA1, hLO]; rfl), (decide_eq_true (by omega)).symm, rfl, fun _ => ⟨?_, rfl⟩⟩
      match X, h1 with
      | [y], _ => simp [joinD]
    · have hal := C_alone hX (by omega) hi
      have hf : findP L X[0] = L.length := by
        rw [hLO]
        rcases hO with e | ⟨o, e, _, _, hn⟩
        · rw [e]; rfl
        · rw [e, findP, if_neg (by rw [(hn _ (List.getElem_mem hi)).1]; decide)]; rfl
      obtain ⟨a, b, c⟩ := hear_new hpt hlive hok hal hf (by rw [hLO]; have := half_le Y j; omega)
      have hA1 : half X (0 + 1) = [⟨[X[0]], 18⟩] := by
        rw [half, if_pos (by omega)]
        congr 2
        rw [List.take_add_one, List.getElem?_eq_getElem hi]; rfl
      rw [a, b, c]
      exact ⟨.inr (by rw [hA1, hLO]), (decide_eq_false (by omega)).symm, rfl, fun h => by omega⟩
  · have hA : half X i = [⟨X.take i, 18⟩] := by rw [half, if_pos (by omega)]
    have hal := C_alone hX (by omega) hi
    have hput := take_put hX hi (by omega)
    have hpA := take_part hX (i := i) (by omega) (by omega)
    have hw := take_whole hX (i := i + 1) (by omega)
    have hof : of1 ⟨X.take i, 18⟩ X[i] = true := by
      show same4 ((X.take i).getD 0 pk0) X[i] = true
      rw [take_head (by omega) (by omega)]
      exact C_same hX (by omega) hi
    have hhead : ((⟨X.take i, 18⟩ : Pt).ps.getD 0 pk0) = X[0]'(by omega) := take_head (by omega) (by omega)
    have hA1 : half X (i + 1) = if wholeB (X.take (i + 1)) 18 = true then [] else [⟨X.take (i + 1), 18⟩] := by
      rw [hw, half]
      by_cases e : i + 1 = X.length
      · rw [if_neg (by omega), decide_eq_true e, if_pos rfl]
      · rw [if_pos (by omega), decide_eq_false e, if_neg (by decide)]
    have hP : i + 1 = X.length → (wholeV (X.take (i + 1)) 18).d = joinD X ∧ (wholeV (X.take (i + 1)) 18).i = X[0].i := fun e => by
      have e2 : X.take (i + 1) = X := by rw [e, List.take_length]
      rw [e2, wholeV, if_pos hX, pk_get (by omega)]
      exact ⟨rfl, rfl⟩
    rcases hO with e | ⟨o, e, ho, hou, hn⟩
    · have hL1 : L = [⟨X.take i, 18⟩] := by rcases hL with rfl | rfl <;> rw [hA, e] <;> rfl
      obtain ⟨a, b, c, d⟩ := hear_hit (k := 0) (by rw [hL1]; exact ptsB_one hpA) hlive hok hal (by rw [hL1, findP, if_pos hof]) (by rw [hL1]; simp) (by rw [hL1]; rfl) hput
      rw [a, b, c, d, hw]
      refine ⟨.inl ?_, rfl, rfl, hP⟩
      rw [hA1, hw, e, hL1]
      split <;> rfl
    · have hX0 := hn _ (List.getElem_mem (show 0 < X.length by omega))
      rcases hL with hL | hL
      · have hL1 : L = [⟨X.take i, 18⟩, o] := by rw [hL, hA, e]; rfl
        have hpt : ptsB L = true := by
          rw [hL1]
          refine ptsB_two hpA ho ?_
          show same4 ((X.take i).getD 0 pk0) (o.ps.getD 0 pk0) = false
          rw [take_head (by omega) (by omega)]
          exact hX0.2
        obtain ⟨a, b, c, d⟩ := hear_hit (k := 0) hpt hlive hok hal (by rw [hL1, findP, if_pos hof]) (by rw [hL1]; simp) (by rw [hL1]; rfl) hput
        rw [a, b, c, d, hw]
        refine ⟨.inl ?_, rfl, rfl, hP⟩
        rw [hA1, hw, e, hL1]
        split <;> rfl
      · have hL1 : L = [o, ⟨X.take i, 18⟩] := by rw [hL, hA, e]; rfl
        have hpt : ptsB L = true := by
          rw [hL1]
          refine ptsB_two ho hpA ?_
          rw [hhead]
          exact hX0.1
        have hno := (hn _ (List.getElem_mem hi)).1
        obtain ⟨a, b, c, d⟩ := hear_hit (k := 1) hpt hlive hok hal (by rw [hL1, findP, if_neg (by rw [hno]; decide), findP, if_pos hof]) (by rw [hL1]; simp) (by rw [hL1]; rfl) hput
        rw [a, b, c, d, hw]
        refine ⟨.inr ?_, rfl, rfl, hP⟩
        rw [hA1, hw, e, hL1]
        split <;> rfl
theorem mixed_end {X Y : List Pk} {L : List Pt} (h : Mixed X Y X.length Y.length L) : L = [] := by
  have e1 : half X X.length = [] := by rw [half, if_neg (by omega)]
  have e2 : half Y Y.length = [] := by rw [half, if_neg (by omega)]
  rcases h with rfl | rfl <;> rw [e1, e2] <;> rfl
theorem mixed_zero (X Y : List Pk) : Mixed X Y 0 0 [] := by
  have e1 : half X 0 = [] := by rw [half, if_neg (by omega)]
  have e2 : half Y 0 = [] := by rw [half, if_neg (by omega)]
  left; rw [e1, e2]; rfl
end Go.Proofs.Ytdeldmagmljacaa

namespace Go.Proofs.Ytdeldmagmljacaa
open Go.RowKit
set_option linter.unusedSimpArgs false
set_option linter.unusedVariables false

/-! the law of two packets in pieces -/
def mxCell (b : Bool) (rows : List (List D)) : AV := match b with
  | true => .own 2
  | false => .l 2 rows
def mxBlk (b : Bool) : HP := match b with
  | true => [(2, .sl 36 2 [])]
  | false => []
theorem mxBlk_or (k : Bool) : mxBlk k = [] ∨ mxBlk k = [(2, .sl 36 2 [])] := by cases k <;> simp [mxBlk]
/-- how many are whole -/
def cnt (i n : Nat) : Int := if i = n then 1 else 0
theorem cnt_yes {i n : Nat} (h : i = n) : cnt i n = 1 := if_pos h
theorem cnt_no {i n : Nat} (h : ¬ i = n) : cnt i n = 0 := if_neg h
theorem mixed_mid {X Y : List Pk} (hX : X.length ≤ 48 ∧ ∀ y ∈ X, y.d.length ≤ 48) (hY : Y.length ≤ 48 ∧ ∀ y ∈ Y, y.d.length ≤ 48) {i j : Nat} {L : List Pt} (h : Mixed X Y i j L) : ptMid L := by
  have hh : ∀ (Z : List Pk) (k : Nat), (Z.length ≤ 48 ∧ ∀ y ∈ Z, y.d.length ≤ 48) → ∀ x ∈ half Z k, pMid x.ps := fun Z k hZ x hx => by
    rw [half] at hx
    split at hx
    · rw [List.mem_singleton.1 hx]
      exact ⟨by dsimp only; rw [List.length_take]; omega, fun y hy => by have := hZ.2 y (List.mem_of_mem_take hy); omega⟩
    · cases hx
  have l1 := half_le X i
  have l2 := half_le Y j
  rcases h with rfl | rfl
  · exact ⟨by rw [List.length_append]; omega, fun x hx => by
      rcases List.mem_append.1 hx with h | h
      · exact hh X i hX x h
      · exact hh Y j hY x h⟩
  · exact ⟨by rw [List.length_append]; omega, fun x hx => by
      rcases List.mem_append.1 hx with h | h
      · exact hh Y j hY x h
      · exact hh X i hX x h⟩
theorem whole_u {C : List Pk} {u v : Int} (h : wholeB C u = true) (hv : 0 ≤ v ∧ v ≤ 1000000) : wholeB C v = true := by
  rw [wholeB, Bool.and_eq_true] at h ⊢
  refine ⟨?_, h.2⟩
  have := (partB_iff _ _).1 h.1
  exact (partB_iff _ _).2 ⟨this.1, this.2.1, this.2.2.1, this.2.2.2.1, hv⟩
theorem cut_whole18 {x : Pk} {l : Int} (h : cutB x l = true) (ha : x.a = 0) (hm : x.m = false) (hn : 0 < (cutL x l).length) (hd : x.d.length ≤ 48) (hs : ∀ y ∈ cutL x l, same4 y x = true) : wholeB (cutL x l) 18 = true :=
  whole_u (cut_whole h ha hm hn hd hs) (by omega)
theorem cut_first (x : Pk) (l : Int) (h : 0 < (cutL x l).length) : (cutL x l)[0].i = x.i := (same4_iff.1 (cut_same x l _ (List.getElem_mem h))).2.2.2
def lmx : List (FuncId × Abs) := [(15, pureAbs g_alive), (17, pureAbs g_sameBytes), (14, pureAbs g_samePackets), (12, ownAbs (ocOf g_sPacketCut)), (13, ownAbs (ocOf g_sPacketCut)), (33, frzAbs g_hearPD), (37, ownAbs (ocOf g_drawMx))]
theorem lmx_ok : ∀ p ∈ lmx, CallOk Try.prog p.1 p.2 := by
  intro p hp
  simp only [lmx, List.mem_cons, List.not_mem_nil, or_false] at hp
  rcases hp with rfl | rfl | rfl | rfl | rfl | rfl | rfl
  · exact alive_ok.call
  · exact sameBytes_ok.call
  · exact samePackets_ok.call
  · exact implPacketCutD_ok.call
  · exact specPacketCut_ok.call
  · exact implPartsHearD_ok.callF
  · exact drawMixedPieces_ok.call
set_option maxHeartbeats 4000000 in
set_option maxRecDepth 100000 in
theorem lawWholePieces_ok : PureOk Try.prog 10 g_true := by
  refine PureOk.of_vc (G := lmx) lmx_ok mixed Try.func10 (by kernel_rfl) rfl ?_
  intro args cnd r bs hg hc
  unfold g_true at hg
  split at hg
  · rename_i sz rows
    cases hg
    obtain ⟨xs, rfl⟩ := hc
    refine ⟨⟨rfl, by simp, by simp [AV.ids, AV.ids.idsL]⟩, [.l 1 (rowsOfBytes xs)], rfl, fun w vs h => CvL.ok (.cons (.l _ _ _ (rowsOf_w xs)) .nil) h, ?_⟩
    obtain ⟨ys, hys⟩ : ∃ ys, ys = List.take 2000 xs := ⟨_, rfl⟩
    obtain ⟨hq, oA, oB, dA, dB', hne⟩ := mx_facts ys
    have b0 := pickV_nonneg ys (mxQ ys + 60) 6 (by omega)
    have b1 := pickV_lt ys (mxQ ys + 60) 6 (by omega)
    have hL0 : mxL ys = 1 + pickV ys (mxQ ys + 60) 6 := rfl
    have hAa : (pvK (mxA ys)).a = 0 := rfl
    have hAm : (pvK (mxA ys)).m = false := rfl
    have hAu : (pvK (mxA ys)).u = false := rfl
    have hBa : (pvK (mxB ys)).a = 0 := rfl
    have hBm : (pvK (mxB ys)).m = false := rfl
    have hBu : (pvK (mxB ys)).u = false := rfl
    obtain ⟨A, hA⟩ : ∃ A, mxA ys = A := ⟨_, rfl⟩
    obtain ⟨B, hB⟩ : ∃ B, mxB ys = B := ⟨_, rfl⟩
    obtain ⟨l, hl⟩ : ∃ l, mxL ys = l := ⟨_, rfl⟩
    obtain ⟨w, hw⟩ : ∃ w, mxO ys 60 = w := ⟨_, rfl⟩
    rw [hl] at hL0
    rw [hA] at oA dA hne hAa hAm hAu
    rw [hB] at oB dB' hne hBa hBm hBu
    have kA := cutB_long l oA hAa hAu (by omega)
    have kB := cutB_long l oB hBa hBu (by omega)
    have hwX := cut_whole18 kA hAa hAm (cut_pos kA) dA (cut_same _ _)
    have hwY := cut_whole18 kB hBa hBm (cut_pos kB) dB' (cut_same _ _)
    have hjX := cut_join kA
    have hjY := cut_join kB
    have hiX := cut_first (pvK A) l (cut_pos kA)
    have hiY := cut_first (pvK B) l (cut_pos kB)
    have pX0 := cut_pos kA
    have pY0 := cut_pos kB
    have hXm := cut_len (pvK A) l
    have hYm := cut_len (pvK B) l
    have hdf : ∀ x ∈ cutL (pvK A) l, ∀ y ∈ cutL (pvK B) l, same4 x y = false ∧ same4 y x = false := fun x hx y hy => by
      have e1 := (same4_iff.1 (cut_same _ _ x hx)).2.2.2
      have e2 := (same4_iff.1 (cut_same _ _ y hy)).2.2.2
      have e3 : (pvK A).i = A.i := rfl
      have e4 : (pvK B).i = B.i := rfl
      constructor
      · rw [Bool.eq_false_iff]; intro h; have := (same4_iff.1 h).2.2.2; omega
      · rw [Bool.eq_false_iff]; intro h; have := (same4_iff.1 h).2.2.2; omega
    have hXA : (⟨A.f, A.t, A.pr, A.h, A.i, A.a, A.m, A.u, A.d⟩ : Pk) = pvK A := rfl
    have hXB : (⟨B.f, B.t, B.pr, B.h, B.i, B.a, B.m, B.u, B.d⟩ : Pk) = pvK B := rfl
    obtain ⟨X, hcX⟩ : ∃ X, cutL (pvK A) l = X := ⟨_, rfl⟩
    obtain ⟨Y, hcY⟩ : ∃ Y, cutL (pvK B) l = Y := ⟨_, rfl⟩
    simp only [hcX] at hwX hjX hiX pX0 hXm hdf
    simp only [hcY] at hwY hjY hiY pY0 hYm hdf
    have hXl := hXm.1
    have hYl := hYm.1
    have dAd : (pvK A).d = A.d := rfl
    have dBd : (pvK B).d = B.d := rfl
    have dAi : (pvK A).i = A.i := rfl
    have dBi : (pvK B).i = B.i := rfl
    rw [dAd] at hjX
    rw [dBd] at hjY
    rw [dAi] at hiX
    rw [dBi] at hiY
    have m0 : ptMid [] := ⟨by simp, fun x hx => by cases hx⟩
    have hab : (A.i = B.i) = False := eq_false hne
    have hba : (B.i = A.i) = False := eq_false fun h => hne h.symm
    simp (maxSteps := 3000000) only [Try.f10, lmx, ← hys, hA, hB, hl, hXA, hXB, hcX, hcY, hw, ocOf, g_alive, g_sameBytes, g_samePackets, g_sPacketCut, g_hearPD, g_drawMx, bytesOf_rows, rowsOf_len, pRows_len, nRows_len, ptRows_len, ptsOf_rows, tY2, tY3, tY4, tY5, tY9, tY12, tY21, tY22, tY23, tY24, tY27, tY35, tY36, tY47, tY55, tY83, tY84, tY97, tY106, Try.underlying2, Try.underlying3, Try.underlying4, Try.underlying5, Try.underlying9, Try.underlying12, Try.underlying21, Try.underlying22, Try.underlying23, Try.underlying24, Try.underlying27, Try.underlying35, Try.underlying36, Try.underlying47, Try.underlying55, Try.underlying83, Try.underlying84, Try.underlying97, Try.underlying106, e_skip, e_label, e_ret, e_exit, e_seq, e_cond, e_block, e_region, seqK_normal, seqK_ret, seqK_exit, blkK_normal, blkK_ret, blkK_exit, condK_some, regK_true, regK_false, e_nil, e_cons, gateK_go, gateK_skip, gateK_ask, pickK_some, exK_some, x_pick, x_move, x_assign, x_alloc, x_box, x_build, x_buildSlice, x_load, x_store, x_binOp, x_unOp, x_convert, x_makeSlice, x_slice, x_fieldAddr, x_field, x_indexAddr, x_extract, x_nilCheck, x_call, x_len, x_append, x_min, oMin, x_copy, oCopy, eqAVs, callK_some, done_ret, done_normal, doneO_ret, doneO_normal, endsO_one, endsO_nil, endsO_more, ownAbs, frzAbs, leafs, leafs.leafsL, uniq, idxOf, bk, zipB, Blk.liveB, gate_none, gate_some, gateS_none, gateS_some, gateV_bool, gateV_undef, boolOf, evA, putT, refn, fpD, oBin, oUn, upsl, upl, up, ups, lk, dstsOf, resL, resA, packA, oLoadQ, oLoadKid, oStoreQ, oStoreTree, oBuildSliceQ, oBuildTree, oAppendQ, oAppendTree, isTr, isTrP, tkd, tkds, tkRows, ownOf, nodupB, deadL, treeOf, kidAbs, kidBlk, kidRows, TK.isCell, D.toL, oLoad, oStore, oAlloc, oBox, oBuild, oBuildSlice, oMake, oAppend, oIndexAddr, oFieldAddr, oField, oExtract, oNil, oSlice, oLen, oConvert, rowLoad, fillA, fillR, slB, dk, dks, dkRows, frz, loOf, hiOf, lenOf, rowsOf, nilV, lenV, putAt, views, viewsOk, CK.av, CK.ok, AV.cells, AV.one, Value.oneCell', Value.cells, pureAbs, nrm, nrm.nrmL, hpAt, sh, AV.ren, AV.ren.renL, Blk.ren, fpOf, footO, foot, blkIds, AV.ids, AV.ids.idsL, Op.operands, Call.operands, List.find?_cons, List.find?_nil, Nat.reduceBEq, beq_self_eq_true, List.map_cons, List.map_nil, List.getD_cons_zero, List.getD_cons_succ, List.getD_nil, List.set_cons_zero, List.set_cons_succ, List.length_cons, List.length_nil, List.replicate, List.cons_append, List.nil_append, List.append_nil, List.getElem?_cons_zero, List.getElem?_cons_succ, List.getElem?_toArray, List.getElem?_nil, List.take_zero, List.take_succ_cons, List.take_nil, List.drop_zero, List.drop_succ_cons, List.drop_nil, List.headD_cons, List.tail_cons, List.flatten_cons, List.flatten_nil, List.flatMap_cons, List.flatMap_nil, List.toList_toArray, Array.toList_append, Option.bind_some, Option.map_some, Option.map_none, Option.isSome_some, List.all_nil, List.all_cons, Bool.and_self, Bool.and_true, Bool.true_and, true_and, and_true, ↓reduceIte, List.size_toArray, Bool.false_eq_true, Bool.true_eq_false, false_implies, true_implies, Bool.not_true, Bool.not_false, and_self, implies_true, decide_true, decide_false, Nat.reduceAdd, Nat.reduceMul, Nat.reduceLT, Nat.reduceSub, Nat.reduceLeDiff, Nat.reduceEqDiff, eq_self, ne_eq, not_false_eq_true, false_and, and_false, reduceCtorEq, List.filter_nil, List.filter_cons, List.isEmpty_nil, List.isEmpty_cons, bne_self_eq_false, Nat.reduceBneDiff, Nat.lt_add_one, Nat.zero_lt_succ, List.append_assoc, Nat.zero_le, and_self_iff, Int.reduceToNat, List.any_nil, List.any_cons, List.filterMap_nil, List.filterMap_cons, List.contains_nil, List.contains_cons, Bool.or_false, Bool.false_or, Bool.or_true, Bool.true_or, Bool.false_and, Bool.and_false, decide_eq_true_eq, decide_eq_false_iff_not, beq_iff_eq, Int.toNat_natCast, loopK_normal, loopK_exit, loopK_ret, ↓reduceIte, Bool.false_eq_true, Bool.not_true, Bool.not_false, bne_self_eq_false, beq_self_eq_true]
    split
    · exact ⟨_, [], rfl, ⟨⟨⟨rfl, rfl, rfl⟩, trivial⟩, trivial, by simp [rn, hpAt]⟩⟩
    · refine ⟨⟨_, rfl⟩, ⟨_, rfl, by omega⟩, ⟨_, rfl, by omega⟩, ⟨_, rfl, by omega⟩, ⟨X, rfl, rfl, by omega⟩, ?_⟩
      refine e_loop _ _ _ _ _ _ _ _ (fun x : Bool × Nat × Nat × List Pt => [.any, .any, .any, .ptr 0 0, .ptr 1 0, .any, .l 1 (nRows w), .l 9 (pRows X), .any, .l 9 (pRows Y), .any, .any, .any, mxCell x.1 (ptRows x.2.2.2), .v (.int .i64 (x.2.1 : Int)), .v (.int .i64 (x.2.2.1 : Int)), .v (.int .i64 (cnt x.2.1 X.length + cnt x.2.2.1 Y.length)), .v (.int .i64 ((x.2.1 + x.2.2.1 : Nat) : Int))] ++ List.replicate (Try.f10.ntmps - 18) .any) (fun x => ([(0, .var 24 [.v (.int .i64 A.f), .v (.int .i64 A.t), .v (.int .i64 A.pr), .v (.int .i64 A.h), .v (.int .i64 A.i), .v (.int .i64 A.a), .v (.bool A.m), .v (.bool A.u), .l 1 (rowsOfBytes A.d)]), (1, .var 24 [.v (.int .i64 B.f), .v (.int .i64 B.t), .v (.int .i64 B.pr), .v (.int .i64 B.h), .v (.int .i64 B.i), .v (.int .i64 B.a), .v (.bool B.m), .v (.bool B.u), .l 1 (rowsOfBytes B.d)])] ++ mxBlk x.1)) (fun x => (x.1 = true → x.2.1 = 0 ∧ x.2.2.1 = 0 ∧ x.2.2.2 = []) ∧ x.2.1 ≤ X.length ∧ x.2.2.1 ≤ Y.length ∧ Mixed X Y x.2.1 x.2.2.1 x.2.2.2) (fun x => X.length + Y.length - x.2.1 - x.2.2.1) 3 (fun x => by rcases mxBlk_or x.1 with h | h <;> simp [h]) ?_ fun x hk' => ?_
      · exact ⟨(true, 0, 0, []), [(0, some _), (1, some _), (2, some _)], ⟨fun _ => ⟨rfl, rfl, rfl⟩, Nat.zero_le _, Nat.zero_le _, mixed_zero X Y⟩, ⟨⟨trivial, trivial, trivial, ⟨rfl, rfl, rfl⟩, ⟨rfl, rfl, rfl⟩, trivial, ⟨rfl, rfl, rfl⟩, ⟨rfl, rfl, rfl⟩, trivial, ⟨rfl, rfl, rfl⟩, trivial, trivial, trivial, ⟨rfl, rfl, rfl⟩, ⟨rfl, rfl, rfl⟩, ⟨rfl, rfl, rfl⟩, ⟨congrArg (fun z : Int => AV.v (Value.int .i64 z)) (by dsimp only; rw [cnt_no (by omega), cnt_no (by omega)]; rfl), rfl, rfl⟩, ⟨rfl, rfl, rfl⟩, fitT_rep _ _ rfl⟩, ⟨.inl rfl, rfl, rfl, rfl, .inl rfl, rfl, rfl, rfl, .inl rfl, rfl, rfl, rfl, trivial⟩, by simp [rn, hpAt, mxBlk]⟩, by simp [keepIds, mxBlk]⟩
      obtain ⟨fl, i, j, L⟩ := x
      obtain ⟨hfl, hi, hj, hM⟩ := hk'
      dsimp only at hfl hi hj hM ⊢
      have hLm := mixed_mid hXm hYm hM
      cases fl with
      | false =>
        by_cases hjn : j = Y.length
        · have g1 : ((j : Int) == (Y.length : Int)) = true := by simp [hjn]
          have g1' : ((j : Int) = (Y.length : Int)) = True := eq_true (by omega)
          have g1l : ((j : Int) < (Y.length : Int)) = False := eq_false (by omega)
          by_cases hv : i < X.length
          · have g2 : ((i : Int) < (X.length : Int)) = True := eq_true (by omega)
            have hrow := pRows_get X i hv
            have hv0 : (0 ≤ (i : Int)) = True := eq_true (by omega)
            have hv1 : ((i : Int) < (X.length : Int)) = True := eq_true (by omega)
            obtain ⟨a, b, c, d⟩ := mixed_step hwX hwY hdf hM hv hj
            have hid := hXm.2 _ (List.getElem_mem hv)
            obtain ⟨e, he⟩ : ∃ e, X[i] = e := ⟨_, rfl⟩
            rw [he] at hrow a b c d hid
            have hE : (⟨e.f, e.t, e.p, e.h, e.i, e.a, e.m, e.u, e.d⟩ : Pk) = e := rfl
            have w2 : IntKind.i64.wrap ((i : Int) + 1) = ((i + 1 : Nat) : Int) := by rw [wrap_id] <;> omega
            have w3 : IntKind.i64.wrap (((i + j : Nat) : Int) + 1) = ((i + j + 1 : Nat) : Int) := by rw [wrap_id] <;> omega
            obtain ⟨F, hF⟩ : ∃ F, phF L e 3 = F := ⟨_, rfl⟩
            obtain ⟨W, hW⟩ : ∃ W, phP L e 3 = W := ⟨_, rfl⟩
            rw [hF] at a
            rw [hW] at d
            have hm2 : Mixed X Y (i + 1) j F := a
            by_cases hdn : i + 1 = X.length
            · have hdn' : decide (i + 1 = X.length) = true := decide_eq_true hdn
              obtain ⟨d1, d2⟩ := d hdn
              rw [hjX] at d1
              rw [hiX] at d2
              rw [hdn'] at b
              have w4 : IntKind.i64.wrap (cnt i X.length + cnt j Y.length + 1) = cnt (i + 1) X.length + cnt j Y.length := by
                have := cnt_yes hdn
                have := cnt_no (i := i) (n := X.length) (by omega)
                have c1 : 0 ≤ cnt i X.length ∧ cnt i X.length ≤ 1 := by unfold cnt; split <;> omega
                have c2 : 0 ≤ cnt j Y.length ∧ cnt j Y.length ≤ 1 := by unfold cnt; split <;> omega
                rw [wrap_id (by omega) (by omega)]; omega
              simp (maxSteps := 3000000) only [Try.f10, lmx, g1, g1', g1l, g2, hrow, hv0, hv1, hE, hF, hW, b, c, w2, w3, nRow, D.toI, dB, D.toB, D.toL, pRow, List.cons_append, List.nil_append, List.append_nil, mxCell, mxBlk, d1, d2, w4, hab, hba, ocOf, g_alive, g_sameBytes, g_samePackets, g_sPacketCut, g_hearPD, g_drawMx, bytesOf_rows, rowsOf_len, pRows_len, nRows_len, ptRows_len, ptsOf_rows, tY2, tY3, tY4, tY5, tY9, tY12, tY21, tY22, tY23, tY24, tY27, tY35, tY36, tY47, tY55, tY83, tY84, tY97, tY106, Try.underlying2, Try.underlying3, Try.underlying4, Try.underlying5, Try.underlying9, Try.underlying12, Try.underlying21, Try.underlying22, Try.underlying23, Try.underlying24, Try.underlying27, Try.underlying35, Try.underlying36, Try.underlying47, Try.underlying55, Try.underlying83, Try.underlying84, Try.underlying97, Try.underlying106, e_skip, e_label, e_ret, e_exit, e_seq, e_cond, e_block, e_region, seqK_normal, seqK_ret, seqK_exit, blkK_normal, blkK_ret, blkK_exit, condK_some, regK_true, regK_false, e_nil, e_cons, gateK_go, gateK_skip, gateK_ask, pickK_some, exK_some, x_pick, x_move, x_assign, x_alloc, x_box, x_build, x_buildSlice, x_load, x_store, x_binOp, x_unOp, x_convert, x_makeSlice, x_slice, x_fieldAddr, x_field, x_indexAddr, x_extract, x_nilCheck, x_call, x_len, x_append, x_min, oMin, x_copy, oCopy, eqAVs, callK_some, done_ret, done_normal, doneO_ret, doneO_normal, endsO_one, endsO_nil, endsO_more, ownAbs, frzAbs, leafs, leafs.leafsL, uniq, idxOf, bk, zipB, Blk.liveB, gate_none, gate_some, gateS_none, gateS_some, gateV_bool, gateV_undef, boolOf, evA, putT, refn, fpD, oBin, oUn, upsl, upl, up, ups, lk, dstsOf, resL, resA, packA, oLoadQ, oLoadKid, oStoreQ, oStoreTree, oBuildSliceQ, oBuildTree, oAppendQ, oAppendTree, isTr, isTrP, tkd, tkds, tkRows, ownOf, nodupB, deadL, treeOf, kidAbs, kidBlk, kidRows, TK.isCell, D.toL, oLoad, oStore, oAlloc, oBox, oBuild, oBuildSlice, oMake, oAppend, oIndexAddr, oFieldAddr, oField, oExtract, oNil, oSlice, oLen, oConvert, rowLoad, fillA, fillR, slB, dk, dks, dkRows, frz, loOf, hiOf, lenOf, rowsOf, nilV, lenV, putAt, views, viewsOk, CK.av, CK.ok, AV.cells, AV.one, Value.oneCell', Value.cells, pureAbs, nrm, nrm.nrmL, hpAt, sh, AV.ren, AV.ren.renL, Blk.ren, fpOf, footO, foot, blkIds, AV.ids, AV.ids.idsL, Op.operands, Call.operands, List.find?_cons, List.find?_nil, Nat.reduceBEq, beq_self_eq_true, List.map_cons, List.map_nil, List.getD_cons_zero, List.getD_cons_succ, List.getD_nil, List.set_cons_zero, List.set_cons_succ, List.length_cons, List.length_nil, List.replicate, List.cons_append, List.nil_append, List.append_nil, List.getElem?_cons_zero, List.getElem?_cons_succ, List.getElem?_toArray, List.getElem?_nil, List.take_zero, List.take_succ_cons, List.take_nil, List.drop_zero, List.drop_succ_cons, List.drop_nil, List.headD_cons, List.tail_cons, List.flatten_cons, List.flatten_nil, List.flatMap_cons, List.flatMap_nil, List.toList_toArray, Array.toList_append, Option.bind_some, Option.map_some, Option.map_none, Option.isSome_some, List.all_nil, List.all_cons, Bool.and_self, Bool.and_true, Bool.true_and, true_and, and_true, ↓reduceIte, List.size_toArray, Bool.false_eq_true, Bool.true_eq_false, false_implies, true_implies, Bool.not_true, Bool.not_false, and_self, implies_true, decide_true, decide_false, Nat.reduceAdd, Nat.reduceMul, Nat.reduceLT, Nat.reduceSub, Nat.reduceLeDiff, Nat.reduceEqDiff, eq_self, ne_eq, not_false_eq_true, false_and, and_false, reduceCtorEq, List.filter_nil, List.filter_cons, List.isEmpty_nil, List.isEmpty_cons, bne_self_eq_false, Nat.reduceBneDiff, Nat.lt_add_one, Nat.zero_lt_succ, List.append_assoc, Nat.zero_le, and_self_iff, Int.reduceToNat, List.any_nil, List.any_cons, List.filterMap_nil, List.filterMap_cons, List.contains_nil, List.contains_cons, Bool.or_false, Bool.false_or, Bool.or_true, Bool.true_or, Bool.false_and, Bool.and_false, decide_eq_true_eq, decide_eq_false_iff_not, beq_iff_eq, Int.toNat_natCast, loopK_normal, loopK_exit, loopK_ret, ↓reduceIte, Bool.false_eq_true, Bool.not_true, Bool.not_false, bne_self_eq_false, beq_self_eq_true]
              refine ⟨⟨⟨L, rfl, hLm⟩, ⟨_, rfl, by omega⟩⟩, ?_⟩
              repeat' first
                | refine And.intro ⟨⟨_, rfl⟩, _, rfl⟩ ?_
                | refine And.intro ⟨_, rfl⟩ ?_
              exact ⟨(false, i + 1, j, F), [(0, some 0), (1, some 1)], ⟨fun h => (Bool.false_ne_true h).elim, by dsimp only; omega, by dsimp only; omega, hm2⟩, by dsimp only; omega, ⟨⟨trivial, trivial, trivial, ⟨rfl, rfl, rfl⟩, ⟨rfl, rfl, rfl⟩, trivial, ⟨rfl, rfl, rfl⟩, ⟨rfl, rfl, rfl⟩, trivial, ⟨rfl, rfl, rfl⟩, trivial, trivial, trivial, ⟨rfl, rfl, rfl⟩, ⟨rfl, rfl, rfl⟩, ⟨rfl, rfl, rfl⟩, ⟨rfl, rfl, rfl⟩, ⟨congrArg (fun z : Int => AV.v (Value.int .i64 z)) (by dsimp only; omega), rfl, rfl⟩, fitT_rep _ _ rfl⟩, ⟨.inl rfl, rfl, rfl, rfl, .inl rfl, rfl, rfl, rfl, trivial⟩, by simp [rn, hpAt, mxBlk]⟩, by simp [keepIds, mxBlk]⟩

            · have hdn' : decide (i + 1 = X.length) = false := decide_eq_false hdn
              rw [hdn'] at b
              have w4 : cnt i X.length + cnt j Y.length = cnt (i + 1) X.length + cnt j Y.length := by
                rw [cnt_no hdn, cnt_no (i := i) (n := X.length) (by omega)]
              simp (maxSteps := 3000000) only [Try.f10, lmx, g1, g1', g1l, g2, hrow, hv0, hv1, hE, hF, hW, b, c, w2, w3, nRow, D.toI, dB, D.toB, D.toL, pRow, List.cons_append, List.nil_append, List.append_nil, mxCell, mxBlk, ocOf, g_alive, g_sameBytes, g_samePackets, g_sPacketCut, g_hearPD, g_drawMx, bytesOf_rows, rowsOf_len, pRows_len, nRows_len, ptRows_len, ptsOf_rows, tY2, tY3, tY4, tY5, tY9, tY12, tY21, tY22, tY23, tY24, tY27, tY35, tY36, tY47, tY55, tY83, tY84, tY97, tY106, Try.underlying2, Try.underlying3, Try.underlying4, Try.underlying5, Try.underlying9, Try.underlying12, Try.underlying21, Try.underlying22, Try.underlying23, Try.underlying24, Try.underlying27, Try.underlying35, Try.underlying36, Try.underlying47, Try.underlying55, Try.underlying83, Try.underlying84, Try.underlying97, Try.underlying106, e_skip, e_label, e_ret, e_exit, e_seq, e_cond, e_block, e_region, seqK_normal, seqK_ret, seqK_exit, blkK_normal, blkK_ret, blkK_exit, condK_some, regK_true, regK_false, e_nil, e_cons, gateK_go, gateK_skip, gateK_ask, pickK_some, exK_some, x_pick, x_move, x_assign, x_alloc, x_box, x_build, x_buildSlice, x_load, x_store, x_binOp, x_unOp, x_convert, x_makeSlice, x_slice, x_fieldAddr, x_field, x_indexAddr, x_extract, x_nilCheck, x_call, x_len, x_append, x_min, oMin, x_copy, oCopy, eqAVs, callK_some, done_ret, done_normal, doneO_ret, doneO_normal, endsO_one, endsO_nil, endsO_more, ownAbs, frzAbs, leafs, leafs.leafsL, uniq, idxOf, bk, zipB, Blk.liveB, gate_none, gate_some, gateS_none, gateS_some, gateV_bool, gateV_undef, boolOf, evA, putT, refn, fpD, oBin, oUn, upsl, upl, up, ups, lk, dstsOf, resL, resA, packA, oLoadQ, oLoadKid, oStoreQ, oStoreTree, oBuildSliceQ, oBuildTree, oAppendQ, oAppendTree, isTr, isTrP, tkd, tkds, tkRows, ownOf, nodupB, deadL, treeOf, kidAbs, kidBlk, kidRows, TK.isCell, D.toL, oLoad, oStore, oAlloc, oBox, oBuild, oBuildSlice, oMake, oAppend, oIndexAddr, oFieldAddr, oField, oExtract, oNil, oSlice, oLen, oConvert, rowLoad, fillA, fillR, slB, dk, dks, dkRows, frz, loOf, hiOf, lenOf, rowsOf, nilV, lenV, putAt, views, viewsOk, CK.av, CK.ok, AV.cells, AV.one, Value.oneCell', Value.cells, pureAbs, nrm, nrm.nrmL, hpAt, sh, AV.ren, AV.ren.renL, Blk.ren, fpOf, footO, foot, blkIds, AV.ids, AV.ids.idsL, Op.operands, Call.operands, List.find?_cons, List.find?_nil, Nat.reduceBEq, beq_self_eq_true, List.map_cons, List.map_nil, List.getD_cons_zero, List.getD_cons_succ, List.getD_nil, List.set_cons_zero, List.set_cons_succ, List.length_cons, List.length_nil, List.replicate, List.cons_append, List.nil_append, List.append_nil, List.getElem?_cons_zero, List.getElem?_cons_succ, List.getElem?_toArray, List.getElem?_nil, List.take_zero, List.take_succ_cons, List.take_nil, List.drop_zero, List.drop_succ_cons, List.drop_nil, List.headD_cons, List.tail_cons, List.flatten_cons, List.flatten_nil, List.flatMap_cons, List.flatMap_nil, List.toList_toArray, Array.toList_append, Option.bind_some, Option.map_some, Option.map_none, Option.isSome_some, List.all_nil, List.all_cons, Bool.and_self, Bool.and_true, Bool.true_and, true_and, and_true, ↓reduceIte, List.size_toArray, Bool.false_eq_true, Bool.true_eq_false, false_implies, true_implies, Bool.not_true, Bool.not_false, and_self, implies_true, decide_true, decide_false, Nat.reduceAdd, Nat.reduceMul, Nat.reduceLT, Nat.reduceSub, Nat.reduceLeDiff, Nat.reduceEqDiff, eq_self, ne_eq, not_false_eq_true, false_and, and_false, reduceCtorEq, List.filter_nil, List.filter_cons, List.isEmpty_nil, List.isEmpty_cons, bne_self_eq_false, Nat.reduceBneDiff, Nat.lt_add_one, Nat.zero_lt_succ, List.append_assoc, Nat.zero_le, and_self_iff, Int.reduceToNat, List.any_nil, List.any_cons, List.filterMap_nil, List.filterMap_cons, List.contains_nil, List.contains_cons, Bool.or_false, Bool.false_or, Bool.or_true, Bool.true_or, Bool.false_and, Bool.and_false, decide_eq_true_eq, decide_eq_false_iff_not, beq_iff_eq, Int.toNat_natCast, loopK_normal, loopK_exit, loopK_ret, ↓reduceIte, Bool.false_eq_true, Bool.not_true, Bool.not_false, bne_self_eq_false, beq_self_eq_true]
              refine ⟨⟨⟨L, rfl, hLm⟩, ⟨_, rfl, by omega⟩⟩, ?_⟩
              repeat' first
                | refine And.intro ⟨⟨_, rfl⟩, _, rfl⟩ ?_
                | refine And.intro ⟨_, rfl⟩ ?_
              exact ⟨(false, i + 1, j, F), [(0, some 0), (1, some 1)], ⟨fun h => (Bool.false_ne_true h).elim, by dsimp only; omega, by dsimp only; omega, hm2⟩, by dsimp only; omega, ⟨⟨trivial, trivial, trivial, ⟨rfl, rfl, rfl⟩, ⟨rfl, rfl, rfl⟩, trivial, ⟨rfl, rfl, rfl⟩, ⟨rfl, rfl, rfl⟩, trivial, ⟨rfl, rfl, rfl⟩, trivial, trivial, trivial, ⟨rfl, rfl, rfl⟩, ⟨rfl, rfl, rfl⟩, ⟨rfl, rfl, rfl⟩, ⟨congrArg (fun z : Int => AV.v (Value.int .i64 z)) w4, rfl, rfl⟩, ⟨congrArg (fun z : Int => AV.v (Value.int .i64 z)) (by dsimp only; omega), rfl, rfl⟩, fitT_rep _ _ rfl⟩, ⟨.inl rfl, rfl, rfl, rfl, .inl rfl, rfl, rfl, rfl, trivial⟩, by simp [rn, hpAt, mxBlk]⟩, by simp [keepIds, mxBlk]⟩

          · have g2 : ((i : Int) < (X.length : Int)) = False := eq_false (by omega)
            obtain rfl : i = X.length := by omega
            subst hjn
            have hE0 := mixed_end hM
            subst hE0
            have hc2 : (cnt X.length X.length + cnt Y.length Y.length == 2) = true := by rw [cnt_yes rfl, cnt_yes rfl]; rfl
            have hc3 : (cnt X.length X.length + cnt Y.length Y.length = 2) = True := eq_true (by rw [cnt_yes rfl, cnt_yes rfl]; rfl)
            have hr0 : (List.length ([] : List Pt)) = 0 := rfl
            have hz0 : ((((0 : Nat) : Int)) = 0) = True := eq_true rfl
            simp (maxSteps := 3000000) only [Try.f10, lmx, g1l, g2, hc3, hr0, hz0, mxCell, mxBlk, List.append_nil, ocOf, g_alive, g_sameBytes, g_samePackets, g_sPacketCut, g_hearPD, g_drawMx, bytesOf_rows, rowsOf_len, pRows_len, nRows_len, ptRows_len, ptsOf_rows, tY2, tY3, tY4, tY5, tY9, tY12, tY21, tY22, tY23, tY24, tY27, tY35, tY36, tY47, tY55, tY83, tY84, tY97, tY106, Try.underlying2, Try.underlying3, Try.underlying4, Try.underlying5, Try.underlying9, Try.underlying12, Try.underlying21, Try.underlying22, Try.underlying23, Try.underlying24, Try.underlying27, Try.underlying35, Try.underlying36, Try.underlying47, Try.underlying55, Try.underlying83, Try.underlying84, Try.underlying97, Try.underlying106, e_skip, e_label, e_ret, e_exit, e_seq, e_cond, e_block, e_region, seqK_normal, seqK_ret, seqK_exit, blkK_normal, blkK_ret, blkK_exit, condK_some, regK_true, regK_false, e_nil, e_cons, gateK_go, gateK_skip, gateK_ask, pickK_some, exK_some, x_pick, x_move, x_assign, x_alloc, x_box, x_build, x_buildSlice, x_load, x_store, x_binOp, x_unOp, x_convert, x_makeSlice, x_slice, x_fieldAddr, x_field, x_indexAddr, x_extract, x_nilCheck, x_call, x_len, x_append, x_min, oMin, x_copy, oCopy, eqAVs, callK_some, done_ret, done_normal, doneO_ret, doneO_normal, endsO_one, endsO_nil, endsO_more, ownAbs, frzAbs, leafs, leafs.leafsL, uniq, idxOf, bk, zipB, Blk.liveB, gate_none, gate_some, gateS_none, gateS_some, gateV_bool, gateV_undef, boolOf, evA, putT, refn, fpD, oBin, oUn, upsl, upl, up, ups, lk, dstsOf, resL, resA, packA, oLoadQ, oLoadKid, oStoreQ, oStoreTree, oBuildSliceQ, oBuildTree, oAppendQ, oAppendTree, isTr, isTrP, tkd, tkds, tkRows, ownOf, nodupB, deadL, treeOf, kidAbs, kidBlk, kidRows, TK.isCell, D.toL, oLoad, oStore, oAlloc, oBox, oBuild, oBuildSlice, oMake, oAppend, oIndexAddr, oFieldAddr, oField, oExtract, oNil, oSlice, oLen, oConvert, rowLoad, fillA, fillR, slB, dk, dks, dkRows, frz, loOf, hiOf, lenOf, rowsOf, nilV, lenV, putAt, views, viewsOk, CK.av, CK.ok, AV.cells, AV.one, Value.oneCell', Value.cells, pureAbs, nrm, nrm.nrmL, hpAt, sh, AV.ren, AV.ren.renL, Blk.ren, fpOf, footO, foot, blkIds, AV.ids, AV.ids.idsL, Op.operands, Call.operands, List.find?_cons, List.find?_nil, Nat.reduceBEq, beq_self_eq_true, List.map_cons, List.map_nil, List.getD_cons_zero, List.getD_cons_succ, List.getD_nil, List.set_cons_zero, List.set_cons_succ, List.length_cons, List.length_nil, List.replicate, List.cons_append, List.nil_append, List.append_nil, List.getElem?_cons_zero, List.getElem?_cons_succ, List.getElem?_toArray, List.getElem?_nil, List.take_zero, List.take_succ_cons, List.take_nil, List.drop_zero, List.drop_succ_cons, List.drop_nil, List.headD_cons, List.tail_cons, List.flatten_cons, List.flatten_nil, List.flatMap_cons, List.flatMap_nil, List.toList_toArray, Array.toList_append, Option.bind_some, Option.map_some, Option.map_none, Option.isSome_some, List.all_nil, List.all_cons, Bool.and_self, Bool.and_true, Bool.true_and, true_and, and_true, ↓reduceIte, List.size_toArray, Bool.false_eq_true, Bool.true_eq_false, false_implies, true_implies, Bool.not_true, Bool.not_false, and_self, implies_true, decide_true, decide_false, Nat.reduceAdd, Nat.reduceMul, Nat.reduceLT, Nat.reduceSub, Nat.reduceLeDiff, Nat.reduceEqDiff, eq_self, ne_eq, not_false_eq_true, false_and, and_false, reduceCtorEq, List.filter_nil, List.filter_cons, List.isEmpty_nil, List.isEmpty_cons, bne_self_eq_false, Nat.reduceBneDiff, Nat.lt_add_one, Nat.zero_lt_succ, List.append_assoc, Nat.zero_le, and_self_iff, Int.reduceToNat, List.any_nil, List.any_cons, List.filterMap_nil, List.filterMap_cons, List.contains_nil, List.contains_cons, Bool.or_false, Bool.false_or, Bool.or_true, Bool.true_or, Bool.false_and, Bool.and_false, decide_eq_true_eq, decide_eq_false_iff_not, beq_iff_eq, Int.toNat_natCast, loopK_normal, loopK_exit, loopK_ret, ↓reduceIte, Bool.false_eq_true, Bool.not_true, Bool.not_false, bne_self_eq_false, beq_self_eq_true]
            exact ⟨_, [], rfl, ⟨⟨⟨rfl, rfl, rfl⟩, trivial⟩, trivial, by simp [rn, hpAt]⟩⟩

        · have g1 : ((j : Int) == (Y.length : Int)) = false := by simp; omega
          have g1' : ((j : Int) = (Y.length : Int)) = False := eq_false (by omega)
          have g1l : ((j : Int) < (Y.length : Int)) = True := eq_true (by omega)
          by_cases hin : i < X.length
          · have g2 : ((i : Int) < (X.length : Int)) = True := eq_true (by omega)
            by_cases hko : w.length ≤ i + j
            · have g3 : (((i + j : Nat) : Int) ≥ (w.length : Int)) = True := eq_true (by omega)
              have hv := hin
              have hrow := pRows_get X i hv
              have hv0 : (0 ≤ (i : Int)) = True := eq_true (by omega)
              have hv1 : ((i : Int) < (X.length : Int)) = True := eq_true (by omega)
              obtain ⟨a, b, c, d⟩ := mixed_step hwX hwY hdf hM hv hj
              have hid := hXm.2 _ (List.getElem_mem hv)
              obtain ⟨e, he⟩ : ∃ e, X[i] = e := ⟨_, rfl⟩
              rw [he] at hrow a b c d hid
              have hE : (⟨e.f, e.t, e.p, e.h, e.i, e.a, e.m, e.u, e.d⟩ : Pk) = e := rfl
              have w2 : IntKind.i64.wrap ((i : Int) + 1) = ((i + 1 : Nat) : Int) := by rw [wrap_id] <;> omega
              have w3 : IntKind.i64.wrap (((i + j : Nat) : Int) + 1) = ((i + j + 1 : Nat) : Int) := by rw [wrap_id] <;> omega
              obtain ⟨F, hF⟩ : ∃ F, phF L e 3 = F := ⟨_, rfl⟩
              obtain ⟨W, hW⟩ : ∃ W, phP L e 3 = W := ⟨_, rfl⟩
              rw [hF] at a
              rw [hW] at d
              have hm2 : Mixed X Y (i + 1) j F := a
              by_cases hdn : i + 1 = X.length
              · have hdn' : decide (i + 1 = X.length) = true := decide_eq_true hdn
                obtain ⟨d1, d2⟩ := d hdn
                rw [hjX] at d1
                rw [hiX] at d2
                rw [hdn'] at b
                have w4 : IntKind.i64.wrap (cnt i X.length + cnt j Y.length + 1) = cnt (i + 1) X.length + cnt j Y.length := by
                  have := cnt_yes hdn
                  have := cnt_no (i := i) (n := X.length) (by omega)
                  have c1 : 0 ≤ cnt i X.length ∧ cnt i X.length ≤ 1 := by unfold cnt; split <;> omega
                  have c2 : 0 ≤ cnt j Y.length ∧ cnt j Y.length ≤ 1 := by unfold cnt; split <;> omega
                  rw [wrap_id (by omega) (by omega)]; omega
                simp (maxSteps := 3000000) only [Try.f10, lmx, g1, g1', g2, g3, hrow, hv0, hv1, hE, hF, hW, b, c, w2, w3, nRow, D.toI, dB, D.toB, D.toL, pRow, List.cons_append, List.nil_append, List.append_nil, mxCell, mxBlk, d1, d2, w4, hab, hba, ocOf, g_alive, g_sameBytes, g_samePackets, g_sPacketCut, g_hearPD, g_drawMx, bytesOf_rows, rowsOf_len, pRows_len, nRows_len, ptRows_len, ptsOf_rows, tY2, tY3, tY4, tY5, tY9, tY12, tY21, tY22, tY23, tY24, tY27, tY35, tY36, tY47, tY55, tY83, tY84, tY97, tY106, Try.underlying2, Try.underlying3, Try.underlying4, Try.underlying5, Try.underlying9, Try.underlying12, Try.underlying21, Try.underlying22, Try.underlying23, Try.underlying24, Try.underlying27, Try.underlying35, Try.underlying36, Try.underlying47, Try.underlying55, Try.underlying83, Try.underlying84, Try.underlying97, Try.underlying106, e_skip, e_label, e_ret, e_exit, e_seq, e_cond, e_block, e_region, seqK_normal, seqK_ret, seqK_exit, blkK_normal, blkK_ret, blkK_exit, condK_some, regK_true, regK_false, e_nil, e_cons, gateK_go, gateK_skip, gateK_ask, pickK_some, exK_some, x_pick, x_move, x_assign, x_alloc, x_box, x_build, x_buildSlice, x_load, x_store, x_binOp, x_unOp, x_convert, x_makeSlice, x_slice, x_fieldAddr, x_field, x_indexAddr, x_extract, x_nilCheck, x_call, x_len, x_append, x_min, oMin, x_copy, oCopy, eqAVs, callK_some, done_ret, done_normal, doneO_ret, doneO_normal, endsO_one, endsO_nil, endsO_more, ownAbs, frzAbs, leafs, leafs.leafsL, uniq, idxOf, bk, zipB, Blk.liveB, gate_none, gate_some, gateS_none, gateS_some, gateV_bool, gateV_undef, boolOf, evA, putT, refn, fpD, oBin, oUn, upsl, upl, up, ups, lk, dstsOf, resL, resA, packA, oLoadQ, oLoadKid, oStoreQ, oStoreTree, oBuildSliceQ, oBuildTree, oAppendQ, oAppendTree, isTr, isTrP, tkd, tkds, tkRows, ownOf, nodupB, deadL, treeOf, kidAbs, kidBlk, kidRows, TK.isCell, D.toL, oLoad, oStore, oAlloc, oBox, oBuild, oBuildSlice, oMake, oAppend, oIndexAddr, oFieldAddr, oField, oExtract, oNil, oSlice, oLen, oConvert, rowLoad, fillA, fillR, slB, dk, dks, dkRows, frz, loOf, hiOf, lenOf, rowsOf, nilV, lenV, putAt, views, viewsOk, CK.av, CK.ok, AV.cells, AV.one, Value.oneCell', Value.cells, pureAbs, nrm, nrm.nrmL, hpAt, sh, AV.ren, AV.ren.renL, Blk.ren, fpOf, footO, foot, blkIds, AV.ids, AV.ids.idsL, Op.operands, Call.operands, List.find?_cons, List.find?_nil, Nat.reduceBEq, beq_self_eq_true, List.map_cons, List.map_nil, List.getD_cons_zero, List.getD_cons_succ, List.getD_nil, List.set_cons_zero, List.set_cons_succ, List.length_cons, List.length_nil, List.replicate, List.cons_append, List.nil_append, List.append_nil, List.getElem?_cons_zero, List.getElem?_cons_succ, List.getElem?_toArray, List.getElem?_nil, List.take_zero, List.take_succ_cons, List.take_nil, List.drop_zero, List.drop_succ_cons, List.drop_nil, List.headD_cons, List.tail_cons, List.flatten_cons, List.flatten_nil, List.flatMap_cons, List.flatMap_nil, List.toList_toArray, Array.toList_append, Option.bind_some, Option.map_some, Option.map_none, Option.isSome_some, List.all_nil, List.all_cons, Bool.and_self, Bool.and_true, Bool.true_and, true_and, and_true, ↓reduceIte, List.size_toArray, Bool.false_eq_true, Bool.true_eq_false, false_implies, true_implies, Bool.not_true, Bool.not_false, and_self, implies_true, decide_true, decide_false, Nat.reduceAdd, Nat.reduceMul, Nat.reduceLT, Nat.reduceSub, Nat.reduceLeDiff, Nat.reduceEqDiff, eq_self, ne_eq, not_false_eq_true, false_and, and_false, reduceCtorEq, List.filter_nil, List.filter_cons, List.isEmpty_nil, List.isEmpty_cons, bne_self_eq_false, Nat.reduceBneDiff, Nat.lt_add_one, Nat.zero_lt_succ, List.append_assoc, Nat.zero_le, and_self_iff, Int.reduceToNat, List.any_nil, List.any_cons, List.filterMap_nil, List.filterMap_cons, List.contains_nil, List.contains_cons, Bool.or_false, Bool.false_or, Bool.or_true, Bool.true_or, Bool.false_and, Bool.and_false, decide_eq_true_eq, decide_eq_false_iff_not, beq_iff_eq, Int.toNat_natCast, loopK_normal, loopK_exit, loopK_ret, ↓reduceIte, Bool.false_eq_true, Bool.not_true, Bool.not_false, bne_self_eq_false, beq_self_eq_true]
                refine ⟨⟨⟨L, rfl, hLm⟩, ⟨_, rfl, by omega⟩⟩, ?_⟩
                repeat' first
                  | refine And.intro ⟨⟨_, rfl⟩, _, rfl⟩ ?_
                  | refine And.intro ⟨_, rfl⟩ ?_
                exact ⟨(false, i + 1, j, F), [(0, some 0), (1, some 1)], ⟨fun h => (Bool.false_ne_true h).elim, by dsimp only; omega, by dsimp only; omega, hm2⟩, by dsimp only; omega, ⟨⟨trivial, trivial, trivial, ⟨rfl, rfl, rfl⟩, ⟨rfl, rfl, rfl⟩, trivial, ⟨rfl, rfl, rfl⟩, ⟨rfl, rfl, rfl⟩, trivial, ⟨rfl, rfl, rfl⟩, trivial, trivial, trivial, ⟨rfl, rfl, rfl⟩, ⟨rfl, rfl, rfl⟩, ⟨rfl, rfl, rfl⟩, ⟨rfl, rfl, rfl⟩, ⟨congrArg (fun z : Int => AV.v (Value.int .i64 z)) (by dsimp only; omega), rfl, rfl⟩, fitT_rep _ _ rfl⟩, ⟨.inl rfl, rfl, rfl, rfl, .inl rfl, rfl, rfl, rfl, trivial⟩, by simp [rn, hpAt, mxBlk]⟩, by simp [keepIds, mxBlk]⟩

              · have hdn' : decide (i + 1 = X.length) = false := decide_eq_false hdn
                rw [hdn'] at b
                have w4 : cnt i X.length + cnt j Y.length = cnt (i + 1) X.length + cnt j Y.length := by
                  rw [cnt_no hdn, cnt_no (i := i) (n := X.length) (by omega)]
                simp (maxSteps := 3000000) only [Try.f10, lmx, g1, g1', g2, g3, hrow, hv0, hv1, hE, hF, hW, b, c, w2, w3, nRow, D.toI, dB, D.toB, D.toL, pRow, List.cons_append, List.nil_append, List.append_nil, mxCell, mxBlk, ocOf, g_alive, g_sameBytes, g_samePackets, g_sPacketCut, g_hearPD, g_drawMx, bytesOf_rows, rowsOf_len, pRows_len, nRows_len, ptRows_len, ptsOf_rows, tY2, tY3, tY4, tY5, tY9, tY12, tY21, tY22, tY23, tY24, tY27, tY35, tY36, tY47, tY55, tY83, tY84, tY97, tY106, Try.underlying2, Try.underlying3, Try.underlying4, Try.underlying5, Try.underlying9, Try.underlying12, Try.underlying21, Try.underlying22, Try.underlying23, Try.underlying24, Try.underlying27, Try.underlying35, Try.underlying36, Try.underlying47, Try.underlying55, Try.underlying83, Try.underlying84, Try.underlying97, Try.underlying106, e_skip, e_label, e_ret, e_exit, e_seq, e_cond, e_block, e_region, seqK_normal, seqK_ret, seqK_exit, blkK_normal, blkK_ret, blkK_exit, condK_some, regK_true, regK_false, e_nil, e_cons, gateK_go, gateK_skip, gateK_ask, pickK_some, exK_some, x_pick, x_move, x_assign, x_alloc, x_box, x_build, x_buildSlice, x_load, x_store, x_binOp, x_unOp, x_convert, x_makeSlice, x_slice, x_fieldAddr, x_field, x_indexAddr, x_extract, x_nilCheck, x_call, x_len, x_append, x_min, oMin, x_copy, oCopy, eqAVs, callK_some, done_ret, done_normal, doneO_ret, doneO_normal, endsO_one, endsO_nil, endsO_more, ownAbs, frzAbs, leafs, leafs.leafsL, uniq, idxOf, bk, zipB, Blk.liveB, gate_none, gate_some, gateS_none, gateS_some, gateV_bool, gateV_undef, boolOf, evA, putT, refn, fpD, oBin, oUn, upsl, upl, up, ups, lk, dstsOf, resL, resA, packA, oLoadQ, oLoadKid, oStoreQ, oStoreTree, oBuildSliceQ, oBuildTree, oAppendQ, oAppendTree, isTr, isTrP, tkd, tkds, tkRows, ownOf, nodupB, deadL, treeOf, kidAbs, kidBlk, kidRows, TK.isCell, D.toL, oLoad, oStore, oAlloc, oBox, oBuild, oBuildSlice, oMake, oAppend, oIndexAddr, oFieldAddr, oField, oExtract, oNil, oSlice, oLen, oConvert, rowLoad, fillA, fillR, slB, dk, dks, dkRows, frz, loOf, hiOf, lenOf, rowsOf, nilV, lenV, putAt, views, viewsOk, CK.av, CK.ok, AV.cells, AV.one, Value.oneCell', Value.cells, pureAbs, nrm, nrm.nrmL, hpAt, sh, AV.ren, AV.ren.renL, Blk.ren, fpOf, footO, foot, blkIds, AV.ids, AV.ids.idsL, Op.operands, Call.operands, List.find?_cons, List.find?_nil, Nat.reduceBEq, beq_self_eq_true, List.map_cons, List.map_nil, List.getD_cons_zero, List.getD_cons_succ, List.getD_nil, List.set_cons_zero, List.set_cons_succ, List.length_cons, List.length_nil, List.replicate, List.cons_append, List.nil_append, List.append_nil, List.getElem?_cons_zero, List.getElem?_cons_succ, List.getElem?_toArray, List.getElem?_nil, List.take_zero, List.take_succ_cons, List.take_nil, List.drop_zero, List.drop_succ_cons, List.drop_nil, List.headD_cons, List.tail_cons, List.flatten_cons, List.flatten_nil, List.flatMap_cons, List.flatMap_nil, List.toList_toArray, Array.toList_append, Option.bind_some, Option.map_some, Option.map_none, Option.isSome_some, List.all_nil, List.all_cons, Bool.and_self, Bool.and_true, Bool.true_and, true_and, and_true, ↓reduceIte, List.size_toArray, Bool.false_eq_true, Bool.true_eq_false, false_implies, true_implies, Bool.not_true, Bool.not_false, and_self, implies_true, decide_true, decide_false, Nat.reduceAdd, Nat.reduceMul, Nat.reduceLT, Nat.reduceSub, Nat.reduceLeDiff, Nat.reduceEqDiff, eq_self, ne_eq, not_false_eq_true, false_and, and_false, reduceCtorEq, List.filter_nil, List.filter_cons, List.isEmpty_nil, List.isEmpty_cons, bne_self_eq_false, Nat.reduceBneDiff, Nat.lt_add_one, Nat.zero_lt_succ, List.append_assoc, Nat.zero_le, and_self_iff, Int.reduceToNat, List.any_nil, List.any_cons, List.filterMap_nil, List.filterMap_cons, List.contains_nil, List.contains_cons, Bool.or_false, Bool.false_or, Bool.or_true, Bool.true_or, Bool.false_and, Bool.and_false, decide_eq_true_eq, decide_eq_false_iff_not, beq_iff_eq, Int.toNat_natCast, loopK_normal, loopK_exit, loopK_ret, ↓reduceIte, Bool.false_eq_true, Bool.not_true, Bool.not_false, bne_self_eq_false, beq_self_eq_true]
                refine ⟨⟨⟨L, rfl, hLm⟩, ⟨_, rfl, by omega⟩⟩, ?_⟩
                repeat' first
                  | refine And.intro ⟨⟨_, rfl⟩, _, rfl⟩ ?_
                  | refine And.intro ⟨_, rfl⟩ ?_
                exact ⟨(false, i + 1, j, F), [(0, some 0), (1, some 1)], ⟨fun h => (Bool.false_ne_true h).elim, by dsimp only; omega, by dsimp only; omega, hm2⟩, by dsimp only; omega, ⟨⟨trivial, trivial, trivial, ⟨rfl, rfl, rfl⟩, ⟨rfl, rfl, rfl⟩, trivial, ⟨rfl, rfl, rfl⟩, ⟨rfl, rfl, rfl⟩, trivial, ⟨rfl, rfl, rfl⟩, trivial, trivial, trivial, ⟨rfl, rfl, rfl⟩, ⟨rfl, rfl, rfl⟩, ⟨rfl, rfl, rfl⟩, ⟨congrArg (fun z : Int => AV.v (Value.int .i64 z)) w4, rfl, rfl⟩, ⟨congrArg (fun z : Int => AV.v (Value.int .i64 z)) (by dsimp only; omega), rfl, rfl⟩, fitT_rep _ _ rfl⟩, ⟨.inl rfl, rfl, rfl, rfl, .inl rfl, rfl, rfl, rfl, trivial⟩, by simp [rn, hpAt, mxBlk]⟩, by simp [keepIds, mxBlk]⟩

            · have g3 : (((i + j : Nat) : Int) ≥ (w.length : Int)) = False := eq_false (by omega)
              have hko' : i + j < w.length := by omega
              have hroww := nRows_get w (i + j) hko'
              have k0 : (0 ≤ ((i + j : Nat) : Int)) = True := eq_true (by omega)
              have k1 : (((i + j : Nat) : Int) < (w.length : Int)) = True := eq_true (by omega)
              by_cases hz : ((w[i + j] : Nat) : Int) = 0
              · have g4 : (((w[i + j] : Nat) : Int) = 0) = True := eq_true hz
                have hv := hin
                have hrow := pRows_get X i hv
                have hv0 : (0 ≤ (i : Int)) = True := eq_true (by omega)
                have hv1 : ((i : Int) < (X.length : Int)) = True := eq_true (by omega)
                obtain ⟨a, b, c, d⟩ := mixed_step hwX hwY hdf hM hv hj
                have hid := hXm.2 _ (List.getElem_mem hv)
                obtain ⟨e, he⟩ : ∃ e, X[i] = e := ⟨_, rfl⟩
                rw [he] at hrow a b c d hid
                have hE : (⟨e.f, e.t, e.p, e.h, e.i, e.a, e.m, e.u, e.d⟩ : Pk) = e := rfl
                have w2 : IntKind.i64.wrap ((i : Int) + 1) = ((i + 1 : Nat) : Int) := by rw [wrap_id] <;> omega
                have w3 : IntKind.i64.wrap (((i + j : Nat) : Int) + 1) = ((i + j + 1 : Nat) : Int) := by rw [wrap_id] <;> omega
                obtain ⟨F, hF⟩ : ∃ F, phF L e 3 = F := ⟨_, rfl⟩
                obtain ⟨W, hW⟩ : ∃ W, phP L e 3 = W := ⟨_, rfl⟩
                rw [hF] at a
                rw [hW] at d
                have hm2 : Mixed X Y (i + 1) j F := a
                by_cases hdn : i + 1 = X.length
                · have hdn' : decide (i + 1 = X.length) = true := decide_eq_true hdn
                  obtain ⟨d1, d2⟩ := d hdn
                  rw [hjX] at d1
                  rw [hiX] at d2
                  rw [hdn'] at b
                  have w4 : IntKind.i64.wrap (cnt i X.length + cnt j Y.length + 1) = cnt (i + 1) X.length + cnt j Y.length := by
                    have := cnt_yes hdn
                    have := cnt_no (i := i) (n := X.length) (by omega)
                    have c1 : 0 ≤ cnt i X.length ∧ cnt i X.length ≤ 1 := by unfold cnt; split <;> omega
                    have c2 : 0 ≤ cnt j Y.length ∧ cnt j Y.length ≤ 1 := by unfold cnt; split <;> omega
                    rw [wrap_id (by omega) (by omega)]; omega
                  simp (maxSteps := 3000000) only [Try.f10, lmx, g1, g1', g2, g3, hroww, k0, k1, g4, hrow, hv0, hv1, hE, hF, hW, b, c, w2, w3, nRow, D.toI, dB, D.toB, D.toL, pRow, List.cons_append, List.nil_append, List.append_nil, mxCell, mxBlk, d1, d2, w4, hab, hba, ocOf, g_alive, g_sameBytes, g_samePackets, g_sPacketCut, g_hearPD, g_drawMx, bytesOf_rows, rowsOf_len, pRows_len, nRows_len, ptRows_len, ptsOf_rows, tY2, tY3, tY4, tY5, tY9, tY12, tY21, tY22, tY23, tY24, tY27, tY35, tY36, tY47, tY55, tY83, tY84, tY97, tY106, Try.underlying2, Try.underlying3, Try.underlying4, Try.underlying5, Try.underlying9, Try.underlying12, Try.underlying21, Try.underlying22, Try.underlying23, Try.underlying24, Try.underlying27, Try.underlying35, Try.underlying36, Try.underlying47, Try.underlying55, Try.underlying83, Try.underlying84, Try.underlying97, Try.underlying106, e_skip, e_label, e_ret, e_exit, e_seq, e_cond, e_block, e_region, seqK_normal, seqK_ret, seqK_exit, blkK_normal, blkK_ret, blkK_exit, condK_some, regK_true, regK_false, e_nil, e_cons, gateK_go, gateK_skip, gateK_ask, pickK_some, exK_some, x_pick, x_move, x_assign, x_alloc, x_box, x_build, x_buildSlice, x_load, x_store, x_binOp, x_unOp, x_convert, x_makeSlice, x_slice, x_fieldAddr, x_field, x_indexAddr, x_extract, x_nilCheck, x_call, x_len, x_append, x_min, oMin, x_copy, oCopy, eqAVs, callK_some, done_ret, done_normal, doneO_ret, doneO_normal, endsO_one, endsO_nil, endsO_more, ownAbs, frzAbs, leafs, leafs.leafsL, uniq, idxOf, bk, zipB, Blk.liveB, gate_none, gate_some, gateS_none, gateS_some, gateV_bool, gateV_undef, boolOf, evA, putT, refn, fpD, oBin, oUn, upsl, upl, up, ups, lk, dstsOf, resL, resA, packA, oLoadQ, oLoadKid, oStoreQ, oStoreTree, oBuildSliceQ, oBuildTree, oAppendQ, oAppendTree, isTr, isTrP, tkd, tkds, tkRows, ownOf, nodupB, deadL, treeOf, kidAbs, kidBlk, kidRows, TK.isCell, D.toL, oLoad, oStore, oAlloc, oBox, oBuild, oBuildSlice, oMake, oAppend, oIndexAddr, oFieldAddr, oField, oExtract, oNil, oSlice, oLen, oConvert, rowLoad, fillA, fillR, slB, dk, dks, dkRows, frz, loOf, hiOf, lenOf, rowsOf, nilV, lenV, putAt, views, viewsOk, CK.av, CK.ok, AV.cells, AV.one, Value.oneCell', Value.cells, pureAbs, nrm, nrm.nrmL, hpAt, sh, AV.ren, AV.ren.renL, Blk.ren, fpOf, footO, foot, blkIds, AV.ids, AV.ids.idsL, Op.operands, Call.operands, List.find?_cons, List.find?_nil, Nat.reduceBEq, beq_self_eq_true, List.map_cons, List.map_nil, List.getD_cons_zero, List.getD_cons_succ, List.getD_nil, List.set_cons_zero, List.set_cons_succ, List.length_cons, List.length_nil, List.replicate, List.cons_append, List.nil_append, List.append_nil, List.getElem?_cons_zero, List.getElem?_cons_succ, List.getElem?_toArray, List.getElem?_nil, List.take_zero, List.take_succ_cons, List.take_nil, List.drop_zero, List.drop_succ_cons, List.drop_nil, List.headD_cons, List.tail_cons, List.flatten_cons, List.flatten_nil, List.flatMap_cons, List.flatMap_nil, List.toList_toArray, Array.toList_append, Option.bind_some, Option.map_some, Option.map_none, Option.isSome_some, List.all_nil, List.all_cons, Bool.and_self, Bool.and_true, Bool.true_and, true_and, and_true, ↓reduceIte, List.size_toArray, Bool.false_eq_true, Bool.true_eq_false, false_implies, true_implies, Bool.not_true, Bool.not_false, and_self, implies_true, decide_true, decide_false, Nat.reduceAdd, Nat.reduceMul, Nat.reduceLT, Nat.reduceSub, Nat.reduceLeDiff, Nat.reduceEqDiff, eq_self, ne_eq, not_false_eq_true, false_and, and_false, reduceCtorEq, List.filter_nil, List.filter_cons, List.isEmpty_nil, List.isEmpty_cons, bne_self_eq_false, Nat.reduceBneDiff, Nat.lt_add_one, Nat.zero_lt_succ, List.append_assoc, Nat.zero_le, and_self_iff, Int.reduceToNat, List.any_nil, List.any_cons, List.filterMap_nil, List.filterMap_cons, List.contains_nil, List.contains_cons, Bool.or_false, Bool.false_or, Bool.or_true, Bool.true_or, Bool.false_and, Bool.and_false, decide_eq_true_eq, decide_eq_false_iff_not, beq_iff_eq, Int.toNat_natCast, loopK_normal, loopK_exit, loopK_ret, ↓reduceIte, Bool.false_eq_true, Bool.not_true, Bool.not_false, bne_self_eq_false, beq_self_eq_true]
                  refine ⟨⟨⟨L, rfl, hLm⟩, ⟨_, rfl, by omega⟩⟩, ?_⟩
                  repeat' first
                    | refine And.intro ⟨⟨_, rfl⟩, _, rfl⟩ ?_
                    | refine And.intro ⟨_, rfl⟩ ?_
                  exact ⟨(false, i + 1, j, F), [(0, some 0), (1, some 1)], ⟨fun h => (Bool.false_ne_true h).elim, by dsimp only; omega, by dsimp only; omega, hm2⟩, by dsimp only; omega, ⟨⟨trivial, trivial, trivial, ⟨rfl, rfl, rfl⟩, ⟨rfl, rfl, rfl⟩, trivial, ⟨rfl, rfl, rfl⟩, ⟨rfl, rfl, rfl⟩, trivial, ⟨rfl, rfl, rfl⟩, trivial, trivial, trivial, ⟨rfl, rfl, rfl⟩, ⟨rfl, rfl, rfl⟩, ⟨rfl, rfl, rfl⟩, ⟨rfl, rfl, rfl⟩, ⟨congrArg (fun z : Int => AV.v (Value.int .i64 z)) (by dsimp only; omega), rfl, rfl⟩, fitT_rep _ _ rfl⟩, ⟨.inl rfl, rfl, rfl, rfl, .inl rfl, rfl, rfl, rfl, trivial⟩, by simp [rn, hpAt, mxBlk]⟩, by simp [keepIds, mxBlk]⟩

                · have hdn' : decide (i + 1 = X.length) = false := decide_eq_false hdn
                  rw [hdn'] at b
                  have w4 : cnt i X.length + cnt j Y.length = cnt (i + 1) X.length + cnt j Y.length := by
                    rw [cnt_no hdn, cnt_no (i := i) (n := X.length) (by omega)]
                  simp (maxSteps := 3000000) only [Try.f10, lmx, g1, g1', g2, g3, hroww, k0, k1, g4, hrow, hv0, hv1, hE, hF, hW, b, c, w2, w3, nRow, D.toI, dB, D.toB, D.toL, pRow, List.cons_append, List.nil_append, List.append_nil, mxCell, mxBlk, ocOf, g_alive, g_sameBytes, g_samePackets, g_sPacketCut, g_hearPD, g_drawMx, bytesOf_rows, rowsOf_len, pRows_len, nRows_len, ptRows_len, ptsOf_rows, tY2, tY3, tY4, tY5, tY9, tY12, tY21, tY22, tY23, tY24, tY27, tY35, tY36, tY47, tY55, tY83, tY84, tY97, tY106, Try.underlying2, Try.underlying3, Try.underlying4, Try.underlying5, Try.underlying9, Try.underlying12, Try.underlying21, Try.underlying22, Try.underlying23, Try.underlying24, Try.underlying27, Try.underlying35, Try.underlying36, Try.underlying47, Try.underlying55, Try.underlying83, Try.underlying84, Try.underlying97, Try.underlying106, e_skip, e_label, e_ret, e_exit, e_seq, e_cond, e_block, e_region, seqK_normal, seqK_ret, seqK_exit, blkK_normal, blkK_ret, blkK_exit, condK_some, regK_true, regK_false, e_nil, e_cons, gateK_go, gateK_skip, gateK_ask, pickK_some, exK_some, x_pick, x_move, x_assign, x_alloc, x_box, x_build, x_buildSlice, x_load, x_store, x_binOp, x_unOp, x_convert, x_makeSlice, x_slice, x_fieldAddr, x_field, x_indexAddr, x_extract, x_nilCheck, x_call, x_len, x_append, x_min, oMin, x_copy, oCopy, eqAVs, callK_some, done_ret, done_normal, doneO_ret, doneO_normal, endsO_one, endsO_nil, endsO_more, ownAbs, frzAbs, leafs, leafs.leafsL, uniq, idxOf, bk, zipB, Blk.liveB, gate_none, gate_some, gateS_none, gateS_some, gateV_bool, gateV_undef, boolOf, evA, putT, refn, fpD, oBin, oUn, upsl, upl, up, ups, lk, dstsOf, resL, resA, packA, oLoadQ, oLoadKid, oStoreQ, oStoreTree, oBuildSliceQ, oBuildTree, oAppendQ, oAppendTree, isTr, isTrP, tkd, tkds, tkRows, ownOf, nodupB, deadL, treeOf, kidAbs, kidBlk, kidRows, TK.isCell, D.toL, oLoad, oStore, oAlloc, oBox, oBuild, oBuildSlice, oMake, oAppend, oIndexAddr, oFieldAddr, oField, oExtract, oNil, oSlice, oLen, oConvert, rowLoad, fillA, fillR, slB, dk, dks, dkRows, frz, loOf, hiOf, lenOf, rowsOf, nilV, lenV, putAt, views, viewsOk, CK.av, CK.ok, AV.cells, AV.one, Value.oneCell', Value.cells, pureAbs, nrm, nrm.nrmL, hpAt, sh, AV.ren, AV.ren.renL, Blk.ren, fpOf, footO, foot, blkIds, AV.ids, AV.ids.idsL, Op.operands, Call.operands, List.find?_cons, List.find?_nil, Nat.reduceBEq, beq_self_eq_true, List.map_cons, List.map_nil, List.getD_cons_zero, List.getD_cons_succ, List.getD_nil, List.set_cons_zero, List.set_cons_succ, List.length_cons, List.length_nil, List.replicate, List.cons_append, List.nil_append, List.append_nil, List.getElem?_cons_zero, List.getElem?_cons_succ, List.getElem?_toArray, List.getElem?_nil, List.take_zero, List.take_succ_cons, List.take_nil, List.drop_zero, List.drop_succ_cons, List.drop_nil, List.headD_cons, List.tail_cons, List.flatten_cons, List.flatten_nil, List.flatMap_cons, List.flatMap_nil, List.toList_toArray, Array.toList_append, Option.bind_some, Option.map_some, Option.map_none, Option.isSome_some, List.all_nil, List.all_cons, Bool.and_self, Bool.and_true, Bool.true_and, true_and, and_true, ↓reduceIte, List.size_toArray, Bool.false_eq_true, Bool.true_eq_false, false_implies, true_implies, Bool.not_true, Bool.not_false, and_self, implies_true, decide_true, decide_false, Nat.reduceAdd, Nat.reduceMul, Nat.reduceLT, Nat.reduceSub, Nat.reduceLeDiff, Nat.reduceEqDiff, eq_self, ne_eq, not_false_eq_true, false_and, and_false, reduceCtorEq, List.filter_nil, List.filter_cons, List.isEmpty_nil, List.isEmpty_cons, bne_self_eq_false, Nat.reduceBneDiff, Nat.lt_add_one, Nat.zero_lt_succ, List.append_assoc, Nat.zero_le, and_self_iff, Int.reduceToNat, List.any_nil, List.any_cons, List.filterMap_nil, List.filterMap_cons, List.contains_nil, List.contains_cons, Bool.or_false, Bool.false_or, Bool.or_true, Bool.true_or, Bool.false_and, Bool.and_false, decide_eq_true_eq, decide_eq_false_iff_not, beq_iff_eq, Int.toNat_natCast, loopK_normal, loopK_exit, loopK_ret, ↓reduceIte, Bool.false_eq_true, Bool.not_true, Bool.not_false, bne_self_eq_false, beq_self_eq_true]
                  refine ⟨⟨⟨L, rfl, hLm⟩, ⟨_, rfl, by omega⟩⟩, ?_⟩
                  repeat' first
                    | refine And.intro ⟨⟨_, rfl⟩, _, rfl⟩ ?_
                    | refine And.intro ⟨_, rfl⟩ ?_
                  exact ⟨(false, i + 1, j, F), [(0, some 0), (1, some 1)], ⟨fun h => (Bool.false_ne_true h).elim, by dsimp only; omega, by dsimp only; omega, hm2⟩, by dsimp only; omega, ⟨⟨trivial, trivial, trivial, ⟨rfl, rfl, rfl⟩, ⟨rfl, rfl, rfl⟩, trivial, ⟨rfl, rfl, rfl⟩, ⟨rfl, rfl, rfl⟩, trivial, ⟨rfl, rfl, rfl⟩, trivial, trivial, trivial, ⟨rfl, rfl, rfl⟩, ⟨rfl, rfl, rfl⟩, ⟨rfl, rfl, rfl⟩, ⟨congrArg (fun z : Int => AV.v (Value.int .i64 z)) w4, rfl, rfl⟩, ⟨congrArg (fun z : Int => AV.v (Value.int .i64 z)) (by dsimp only; omega), rfl, rfl⟩, fitT_rep _ _ rfl⟩, ⟨.inl rfl, rfl, rfl, rfl, .inl rfl, rfl, rfl, rfl, trivial⟩, by simp [rn, hpAt, mxBlk]⟩, by simp [keepIds, mxBlk]⟩

              · have g4 : (((w[i + j] : Nat) : Int) = 0) = False := eq_false hz
                have hv : j < Y.length := by omega
                have hrow := pRows_get Y j hv
                have hv0 : (0 ≤ (j : Int)) = True := eq_true (by omega)
                have hv1 : ((j : Int) < (Y.length : Int)) = True := eq_true (by omega)
                obtain ⟨a, b, c, d⟩ := mixed_step hwY hwX (fun y hy x hx => (hdf x hx y hy).symm) hM.swap hv hi
                have hid := hYm.2 _ (List.getElem_mem hv)
                obtain ⟨e, he⟩ : ∃ e, Y[j] = e := ⟨_, rfl⟩
                rw [he] at hrow a b c d hid
                have hE : (⟨e.f, e.t, e.p, e.h, e.i, e.a, e.m, e.u, e.d⟩ : Pk) = e := rfl
                have w2 : IntKind.i64.wrap ((j : Int) + 1) = ((j + 1 : Nat) : Int) := by rw [wrap_id] <;> omega
                have w3 : IntKind.i64.wrap (((i + j : Nat) : Int) + 1) = ((i + j + 1 : Nat) : Int) := by rw [wrap_id] <;> omega
                obtain ⟨F, hF⟩ : ∃ F, phF L e 3 = F := ⟨_, rfl⟩
                obtain ⟨W, hW⟩ : ∃ W, phP L e 3 = W := ⟨_, rfl⟩
                rw [hF] at a
                rw [hW] at d
                have hm2 : Mixed X Y i (j + 1) F := a.swap
                by_cases hdn : j + 1 = Y.length
                · have hdn' : decide (j + 1 = Y.length) = true := decide_eq_true hdn
                  obtain ⟨d1, d2⟩ := d hdn
                  rw [hjY] at d1
                  rw [hiY] at d2
                  rw [hdn'] at b
                  have w4 : IntKind.i64.wrap (cnt i X.length + cnt j Y.length + 1) = cnt i X.length + cnt (j + 1) Y.length := by
                    have := cnt_yes hdn
                    have := cnt_no (i := j) (n := Y.length) (by omega)
                    have c1 : 0 ≤ cnt i X.length ∧ cnt i X.length ≤ 1 := by unfold cnt; split <;> omega
                    have c2 : 0 ≤ cnt j Y.length ∧ cnt j Y.length ≤ 1 := by unfold cnt; split <;> omega
                    rw [wrap_id (by omega) (by omega)]; omega
                  simp (maxSteps := 3000000) only [Try.f10, lmx, g1, g1', g1l, g2, g3, hroww, k0, k1, g4, hrow, hv0, hv1, hE, hF, hW, b, c, w2, w3, nRow, D.toI, dB, D.toB, D.toL, pRow, List.cons_append, List.nil_append, List.append_nil, mxCell, mxBlk, d1, d2, w4, hab, hba, ocOf, g_alive, g_sameBytes, g_samePackets, g_sPacketCut, g_hearPD, g_drawMx, bytesOf_rows, rowsOf_len, pRows_len, nRows_len, ptRows_len, ptsOf_rows, tY2, tY3, tY4, tY5, tY9, tY12, tY21, tY22, tY23, tY24, tY27, tY35, tY36, tY47, tY55, tY83, tY84, tY97, tY106, Try.underlying2, Try.underlying3, Try.underlying4, Try.underlying5, Try.underlying9, Try.underlying12, Try.underlying21, Try.underlying22, Try.underlying23, Try.underlying24, Try.underlying27, Try.underlying35, Try.underlying36, Try.underlying47, Try.underlying55, Try.underlying83, Try.underlying84, Try.underlying97, Try.underlying106, e_skip, e_label, e_ret, e_exit, e_seq, e_cond, e_block, e_region, seqK_normal, seqK_ret, seqK_exit, blkK_normal, blkK_ret, blkK_exit, condK_some, regK_true, regK_false, e_nil, e_cons, gateK_go, gateK_skip, gateK_ask, pickK_some, exK_some, x_pick, x_move, x_assign, x_alloc, x_box, x_build, x_buildSlice, x_load, x_store, x_binOp, x_unOp, x_convert, x_makeSlice, x_slice, x_fieldAddr, x_field, x_indexAddr, x_extract, x_nilCheck, x_call, x_len, x_append, x_min, oMin, x_copy, oCopy, eqAVs, callK_some, done_ret, done_normal, doneO_ret, doneO_normal, endsO_one, endsO_nil, endsO_more, ownAbs, frzAbs, leafs, leafs.leafsL, uniq, idxOf, bk, zipB, Blk.liveB, gate_none, gate_some, gateS_none, gateS_some, gateV_bool, gateV_undef, boolOf, evA, putT, refn, fpD, oBin, oUn, upsl, upl, up, ups, lk, dstsOf, resL, resA, packA, oLoadQ, oLoadKid, oStoreQ, oStoreTree, oBuildSliceQ, oBuildTree, oAppendQ, oAppendTree, isTr, isTrP, tkd, tkds, tkRows, ownOf, nodupB, deadL, treeOf, kidAbs, kidBlk, kidRows, TK.isCell, D.toL, oLoad, oStore, oAlloc, oBox, oBuild, oBuildSlice, oMake, oAppend, oIndexAddr, oFieldAddr, oField, oExtract, oNil, oSlice, oLen, oConvert, rowLoad, fillA, fillR, slB, dk, dks, dkRows, frz, loOf, hiOf, lenOf, rowsOf, nilV, lenV, putAt, views, viewsOk, CK.av, CK.ok, AV.cells, AV.one, Value.oneCell', Value.cells, pureAbs, nrm, nrm.nrmL, hpAt, sh, AV.ren, AV.ren.renL, Blk.ren, fpOf, footO, foot, blkIds, AV.ids, AV.ids.idsL, Op.operands, Call.operands, List.find?_cons, List.find?_nil, Nat.reduceBEq, beq_self_eq_true, List.map_cons, List.map_nil, List.getD_cons_zero, List.getD_cons_succ, List.getD_nil, List.set_cons_zero, List.set_cons_succ, List.length_cons, List.length_nil, List.replicate, List.cons_append, List.nil_append, List.append_nil, List.getElem?_cons_zero, List.getElem?_cons_succ, List.getElem?_toArray, List.getElem?_nil, List.take_zero, List.take_succ_cons, List.take_nil, List.drop_zero, List.drop_succ_cons, List.drop_nil, List.headD_cons, List.tail_cons, List.flatten_cons, List.flatten_nil, List.flatMap_cons, List.flatMap_nil, List.toList_toArray, Array.toList_append, Option.bind_some, Option.map_some, Option.map_none, Option.isSome_some, List.all_nil, List.all_cons, Bool.and_self, Bool.and_true, Bool.true_and, true_and, and_true, ↓reduceIte, List.size_toArray, Bool.false_eq_true, Bool.true_eq_false, false_implies, true_implies, Bool.not_true, Bool.not_false, and_self, implies_true, decide_true, decide_false, Nat.reduceAdd, Nat.reduceMul, Nat.reduceLT, Nat.reduceSub, Nat.reduceLeDiff, Nat.reduceEqDiff, eq_self, ne_eq, not_false_eq_true, false_and, and_false, reduceCtorEq, List.filter_nil, List.filter_cons, List.isEmpty_nil, List.isEmpty_cons, bne_self_eq_false, Nat.reduceBneDiff, Nat.lt_add_one, Nat.zero_lt_succ, List.append_assoc, Nat.zero_le, and_self_iff, Int.reduceToNat, List.any_nil, List.any_cons, List.filterMap_nil, List.filterMap_cons, List.contains_nil, List.contains_cons, Bool.or_false, Bool.false_or, Bool.or_true, Bool.true_or, Bool.false_and, Bool.and_false, decide_eq_true_eq, decide_eq_false_iff_not, beq_iff_eq, Int.toNat_natCast, loopK_normal, loopK_exit, loopK_ret, ↓reduceIte, Bool.false_eq_true, Bool.not_true, Bool.not_false, bne_self_eq_false, beq_self_eq_true]
                  refine ⟨⟨⟨L, rfl, hLm⟩, ⟨_, rfl, by omega⟩⟩, ?_⟩
                  repeat' first
                    | refine And.intro ⟨⟨_, rfl⟩, _, rfl⟩ ?_
                    | refine And.intro ⟨_, rfl⟩ ?_
                  exact ⟨(false, i, j + 1, F), [(0, some 0), (1, some 1)], ⟨fun h => (Bool.false_ne_true h).elim, by dsimp only; omega, by dsimp only; omega, hm2⟩, by dsimp only; omega, ⟨⟨trivial, trivial, trivial, ⟨rfl, rfl, rfl⟩, ⟨rfl, rfl, rfl⟩, trivial, ⟨rfl, rfl, rfl⟩, ⟨rfl, rfl, rfl⟩, trivial, ⟨rfl, rfl, rfl⟩, trivial, trivial, trivial, ⟨rfl, rfl, rfl⟩, ⟨rfl, rfl, rfl⟩, ⟨rfl, rfl, rfl⟩, ⟨rfl, rfl, rfl⟩, ⟨congrArg (fun z : Int => AV.v (Value.int .i64 z)) (by dsimp only; omega), rfl, rfl⟩, fitT_rep _ _ rfl⟩, ⟨.inl rfl, rfl, rfl, rfl, .inl rfl, rfl, rfl, rfl, trivial⟩, by simp [rn, hpAt, mxBlk]⟩, by simp [keepIds, mxBlk]⟩

                · have hdn' : decide (j + 1 = Y.length) = false := decide_eq_false hdn
                  rw [hdn'] at b
                  have w4 : cnt i X.length + cnt j Y.length = cnt i X.length + cnt (j + 1) Y.length := by
                    rw [cnt_no hdn, cnt_no (i := j) (n := Y.length) (by omega)]
                  simp (maxSteps := 3000000) only [Try.f10, lmx, g1, g1', g1l, g2, g3, hroww, k0, k1, g4, hrow, hv0, hv1, hE, hF, hW, b, c, w2, w3, nRow, D.toI, dB, D.toB, D.toL, pRow, List.cons_append, List.nil_append, List.append_nil, mxCell, mxBlk, ocOf, g_alive, g_sameBytes, g_samePackets, g_sPacketCut, g_hearPD, g_drawMx, bytesOf_rows, rowsOf_len, pRows_len, nRows_len, ptRows_len, ptsOf_rows, tY2, tY3, tY4, tY5, tY9, tY12, tY21, tY22, tY23, tY24, tY27, tY35, tY36, tY47, tY55, tY83, tY84, tY97, tY106, Try.underlying2, Try.underlying3, Try.underlying4, Try.underlying5, Try.underlying9, Try.underlying12, Try.underlying21, Try.underlying22, Try.underlying23, Try.underlying24, Try.underlying27, Try.underlying35, Try.underlying36, Try.underlying47, Try.underlying55, Try.underlying83, Try.underlying84, Try.underlying97, Try.underlying106, e_skip, e_label, e_ret, e_exit, e_seq, e_cond, e_block, e_region, seqK_normal, seqK_ret, seqK_exit, blkK_normal, blkK_ret, blkK_exit, condK_some, regK_true, regK_false, e_nil, e_cons, gateK_go, gateK_skip, gateK_ask, pickK_some, exK_some, x_pick, x_move, x_assign, x_alloc, x_box, x_build, x_buildSlice, x_load, x_store, x_binOp, x_unOp, x_convert, x_makeSlice, x_slice, x_fieldAddr, x_field, x_indexAddr, x_extract, x_nilCheck, x_call, x_len, x_append, x_min, oMin, x_copy, oCopy, eqAVs, callK_some, done_ret, done_normal, doneO_ret, doneO_normal, endsO_one, endsO_nil, endsO_more, ownAbs, frzAbs, leafs, leafs.leafsL, uniq, idxOf, bk, zipB, Blk.liveB, gate_none, gate_some, gateS_none, gateS_some, gateV_bool, gateV_undef, boolOf, evA, putT, refn, fpD, oBin, oUn, upsl, upl, up, ups, lk, dstsOf, resL, resA, packA, oLoadQ, oLoadKid, oStoreQ, oStoreTree, oBuildSliceQ, oBuildTree, oAppendQ, oAppendTree, isTr, isTrP, tkd, tkds, tkRows, ownOf, nodupB, deadL, treeOf, kidAbs, kidBlk, kidRows, TK.isCell, D.toL, oLoad, oStore, oAlloc, oBox, oBuild, oBuildSlice, oMake, oAppend, oIndexAddr, oFieldAddr, oField, oExtract, oNil, oSlice, oLen, oConvert, rowLoad, fillA, fillR, slB, dk, dks, dkRows, frz, loOf, hiOf, lenOf, rowsOf, nilV, lenV, putAt, views, viewsOk, CK.av, CK.ok, AV.cells, AV.one, Value.oneCell', Value.cells, pureAbs, nrm, nrm.nrmL, hpAt, sh, AV.ren, AV.ren.renL, Blk.ren, fpOf, footO, foot, blkIds, AV.ids, AV.ids.idsL, Op.operands, Call.operands, List.find?_cons, List.find?_nil, Nat.reduceBEq, beq_self_eq_true, List.map_cons, List.map_nil, List.getD_cons_zero, List.getD_cons_succ, List.getD_nil, List.set_cons_zero, List.set_cons_succ, List.length_cons, List.length_nil, List.replicate, List.cons_append, List.nil_append, List.append_nil, List.getElem?_cons_zero, List.getElem?_cons_succ, List.getElem?_toArray, List.getElem?_nil, List.take_zero, List.take_succ_cons, List.take_nil, List.drop_zero, List.drop_succ_cons, List.drop_nil, List.headD_cons, List.tail_cons, List.flatten_cons, List.flatten_nil, List.flatMap_cons, List.flatMap_nil, List.toList_toArray, Array.toList_append, Option.bind_some, Option.map_some, Option.map_none, Option.isSome_some, List.all_nil, List.all_cons, Bool.and_self, Bool.and_true, Bool.true_and, true_and, and_true, ↓reduceIte, List.size_toArray, Bool.false_eq_true, Bool.true_eq_false, false_implies, true_implies, Bool.not_true, Bool.not_false, and_self, implies_true, decide_true, decide_false, Nat.reduceAdd, Nat.reduceMul, Nat.reduceLT, Nat.reduceSub, Nat.reduceLeDiff, Nat.reduceEqDiff, eq_self, ne_eq, not_false_eq_true, false_and, and_false, reduceCtorEq, List.filter_nil, List.filter_cons, List.isEmpty_nil, List.isEmpty_cons, bne_self_eq_false, Nat.reduceBneDiff, Nat.lt_add_one, Nat.zero_lt_succ, List.append_assoc, Nat.zero_le, and_self_iff, Int.reduceToNat, List.any_nil, List.any_cons, List.filterMap_nil, List.filterMap_cons, List.contains_nil, List.contains_cons, Bool.or_false, Bool.false_or, Bool.or_true, Bool.true_or, Bool.false_and, Bool.and_false, decide_eq_true_eq, decide_eq_false_iff_not, beq_iff_eq, Int.toNat_natCast, loopK_normal, loopK_exit, loopK_ret, ↓reduceIte, Bool.false_eq_true, Bool.not_true, Bool.not_false, bne_self_eq_false, beq_self_eq_true]
                  refine ⟨⟨⟨L, rfl, hLm⟩, ⟨_, rfl, by omega⟩⟩, ?_⟩
                  repeat' first
                    | refine And.intro ⟨⟨_, rfl⟩, _, rfl⟩ ?_
                    | refine And.intro ⟨_, rfl⟩ ?_
                  exact ⟨(false, i, j + 1, F), [(0, some 0), (1, some 1)], ⟨fun h => (Bool.false_ne_true h).elim, by dsimp only; omega, by dsimp only; omega, hm2⟩, by dsimp only; omega, ⟨⟨trivial, trivial, trivial, ⟨rfl, rfl, rfl⟩, ⟨rfl, rfl, rfl⟩, trivial, ⟨rfl, rfl, rfl⟩, ⟨rfl, rfl, rfl⟩, trivial, ⟨rfl, rfl, rfl⟩, trivial, trivial, trivial, ⟨rfl, rfl, rfl⟩, ⟨rfl, rfl, rfl⟩, ⟨rfl, rfl, rfl⟩, ⟨congrArg (fun z : Int => AV.v (Value.int .i64 z)) w4, rfl, rfl⟩, ⟨congrArg (fun z : Int => AV.v (Value.int .i64 z)) (by dsimp only; omega), rfl, rfl⟩, fitT_rep _ _ rfl⟩, ⟨.inl rfl, rfl, rfl, rfl, .inl rfl, rfl, rfl, rfl, trivial⟩, by simp [rn, hpAt, mxBlk]⟩, by simp [keepIds, mxBlk]⟩

          · have g2 : ((i : Int) < (X.length : Int)) = False := eq_false (by omega)
            have hv : j < Y.length := by omega
            have hrow := pRows_get Y j hv
            have hv0 : (0 ≤ (j : Int)) = True := eq_true (by omega)
            have hv1 : ((j : Int) < (Y.length : Int)) = True := eq_true (by omega)
            obtain ⟨a, b, c, d⟩ := mixed_step hwY hwX (fun y hy x hx => (hdf x hx y hy).symm) hM.swap hv hi
            have hid := hYm.2 _ (List.getElem_mem hv)
            obtain ⟨e, he⟩ : ∃ e, Y[j] = e := ⟨_, rfl⟩
            rw [he] at hrow a b c d hid
            have hE : (⟨e.f, e.t, e.p, e.h, e.i, e.a, e.m, e.u, e.d⟩ : Pk) = e := rfl
            have w2 : IntKind.i64.wrap ((j : Int) + 1) = ((j + 1 : Nat) : Int) := by rw [wrap_id] <;> omega
            have w3 : IntKind.i64.wrap (((i + j : Nat) : Int) + 1) = ((i + j + 1 : Nat) : Int) := by rw [wrap_id] <;> omega
            obtain ⟨F, hF⟩ : ∃ F, phF L e 3 = F := ⟨_, rfl⟩
            obtain ⟨W, hW⟩ : ∃ W, phP L e 3 = W := ⟨_, rfl⟩
            rw [hF] at a
            rw [hW] at d
            have hm2 : Mixed X Y i (j + 1) F := a.swap
            by_cases hdn : j + 1 = Y.length
            · have hdn' : decide (j + 1 = Y.length) = true := decide_eq_true hdn
              obtain ⟨d1, d2⟩ := d hdn
              rw [hjY] at d1
              rw [hiY] at d2
              rw [hdn'] at b
              have w4 : IntKind.i64.wrap (cnt i X.length + cnt j Y.length + 1) = cnt i X.length + cnt (j + 1) Y.length := by
                have := cnt_yes hdn
                have := cnt_no (i := j) (n := Y.length) (by omega)
                have c1 : 0 ≤ cnt i X.length ∧ cnt i X.length ≤ 1 := by unfold cnt; split <;> omega
                have c2 : 0 ≤ cnt j Y.length ∧ cnt j Y.length ≤ 1 := by unfold cnt; split <;> omega
                rw [wrap_id (by omega) (by omega)]; omega
              simp (maxSteps := 3000000) only [Try.f10, lmx, g1, g1', g1l, g2, hrow, hv0, hv1, hE, hF, hW, b, c, w2, w3, nRow, D.toI, dB, D.toB, D.toL, pRow, List.cons_append, List.nil_append, List.append_nil, mxCell, mxBlk, d1, d2, w4, hab, hba, ocOf, g_alive, g_sameBytes, g_samePackets, g_sPacketCut, g_hearPD, g_drawMx, bytesOf_rows, rowsOf_len, pRows_len, nRows_len, ptRows_len, ptsOf_rows, tY2, tY3, tY4, tY5, tY9, tY12, tY21, tY22, tY23, tY24, tY27, tY35, tY36, tY47, tY55, tY83, tY84, tY97, tY106, Try.underlying2, Try.underlying3, Try.underlying4, Try.underlying5, Try.underlying9, Try.underlying12, Try.underlying21, Try.underlying22, Try.underlying23, Try.underlying24, Try.underlying27, Try.underlying35, Try.underlying36, Try.underlying47, Try.underlying55, Try.underlying83, Try.underlying84, Try.underlying97, Try.underlying106, e_skip, e_label, e_ret, e_exit, e_seq, e_cond, e_block, e_region, seqK_normal, seqK_ret, seqK_exit, blkK_normal, blkK_ret, blkK_exit, condK_some, regK_true, regK_false, e_nil, e_cons, gateK_go, gateK_skip, gateK_ask, pickK_some, exK_some, x_pick, x_move, x_assign, x_alloc, x_box, x_build, x_buildSlice, x_load, x_store, x_binOp, x_unOp, x_convert, x_makeSlice, x_slice, x_fieldAddr, x_field, x_indexAddr, x_extract, x_nilCheck, x_call, x_len, x_append, x_min, oMin, x_copy, oCopy, eqAVs, callK_some, done_ret, done_normal, doneO_ret, doneO_normal, endsO_one, endsO_nil, endsO_more, ownAbs, frzAbs, leafs, leafs.leafsL, uniq, idxOf, bk, zipB, Blk.liveB, gate_none, gate_some, gateS_none, gateS_some, gateV_bool, gateV_undef, boolOf, evA, putT, refn, fpD, oBin, oUn, upsl, upl, up, ups, lk, dstsOf, resL, resA, packA, oLoadQ, oLoadKid, oStoreQ, oStoreTree, oBuildSliceQ, oBuildTree, oAppendQ, oAppendTree, isTr, isTrP, tkd, tkds, tkRows, ownOf, nodupB, deadL, treeOf, kidAbs, kidBlk, kidRows, TK.isCell, D.toL, oLoad, oStore, oAlloc, oBox, oBuild, oBuildSlice, oMake, oAppend, oIndexAddr, oFieldAddr, oField, oExtract, oNil, oSlice, oLen, oConvert, rowLoad, fillA, fillR, slB, dk, dks, dkRows, frz, loOf, hiOf, lenOf, rowsOf, nilV, lenV, putAt, views, viewsOk, CK.av, CK.ok, AV.cells, AV.one, Value.oneCell', Value.cells, pureAbs, nrm, nrm.nrmL, hpAt, sh, AV.ren, AV.ren.renL, Blk.ren, fpOf, footO, foot, blkIds, AV.ids, AV.ids.idsL, Op.operands, Call.operands, List.find?_cons, List.find?_nil, Nat.reduceBEq, beq_self_eq_true, List.map_cons, List.map_nil, List.getD_cons_zero, List.getD_cons_succ, List.getD_nil, List.set_cons_zero, List.set_cons_succ, List.length_cons, List.length_nil, List.replicate, List.cons_append, List.nil_append, List.append_nil, List.getElem?_cons_zero, List.getElem?_cons_succ, List.getElem?_toArray, List.getElem?_nil, List.take_zero, List.take_succ_cons, List.take_nil, List.drop_zero, List.drop_succ_cons, List.drop_nil, List.headD_cons, List.tail_cons, List.flatten_cons, List.flatten_nil, List.flatMap_cons, List.flatMap_nil, List.toList_toArray, Array.toList_append, Option.bind_some, Option.map_some, Option.map_none, Option.isSome_some, List.all_nil, List.all_cons, Bool.and_self, Bool.and_true, Bool.true_and, true_and, and_true, ↓reduceIte, List.size_toArray, Bool.false_eq_true, Bool.true_eq_false, false_implies, true_implies, Bool.not_true, Bool.not_false, and_self, implies_true, decide_true, decide_false, Nat.reduceAdd, Nat.reduceMul, Nat.reduceLT, Nat.reduceSub, Nat.reduceLeDiff, Nat.reduceEqDiff, eq_self, ne_eq, not_false_eq_true, false_and, and_false, reduceCtorEq, List.filter_nil, List.filter_cons, List.isEmpty_nil, List.isEmpty_cons, bne_self_eq_false, Nat.reduceBneDiff, Nat.lt_add_one, Nat.zero_lt_succ, List.append_assoc, Nat.zero_le, and_self_iff, Int.reduceToNat, List.any_nil, List.any_cons, List.filterMap_nil, List.filterMap_cons, List.contains_nil, List.contains_cons, Bool.or_false, Bool.false_or, Bool.or_true, Bool.true_or, Bool.false_and, Bool.and_false, decide_eq_true_eq, decide_eq_false_iff_not, beq_iff_eq, Int.toNat_natCast, loopK_normal, loopK_exit, loopK_ret, ↓reduceIte, Bool.false_eq_true, Bool.not_true, Bool.not_false, bne_self_eq_false, beq_self_eq_true]
              refine ⟨⟨⟨L, rfl, hLm⟩, ⟨_, rfl, by omega⟩⟩, ?_⟩
              repeat' first
                | refine And.intro ⟨⟨_, rfl⟩, _, rfl⟩ ?_
                | refine And.intro ⟨_, rfl⟩ ?_
              exact ⟨(false, i, j + 1, F), [(0, some 0), (1, some 1)], ⟨fun h => (Bool.false_ne_true h).elim, by dsimp only; omega, by dsimp only; omega, hm2⟩, by dsimp only; omega, ⟨⟨trivial, trivial, trivial, ⟨rfl, rfl, rfl⟩, ⟨rfl, rfl, rfl⟩, trivial, ⟨rfl, rfl, rfl⟩, ⟨rfl, rfl, rfl⟩, trivial, ⟨rfl, rfl, rfl⟩, trivial, trivial, trivial, ⟨rfl, rfl, rfl⟩, ⟨rfl, rfl, rfl⟩, ⟨rfl, rfl, rfl⟩, ⟨rfl, rfl, rfl⟩, ⟨congrArg (fun z : Int => AV.v (Value.int .i64 z)) (by dsimp only; omega), rfl, rfl⟩, fitT_rep _ _ rfl⟩, ⟨.inl rfl, rfl, rfl, rfl, .inl rfl, rfl, rfl, rfl, trivial⟩, by simp [rn, hpAt, mxBlk]⟩, by simp [keepIds, mxBlk]⟩

            · have hdn' : decide (j + 1 = Y.length) = false := decide_eq_false hdn
              rw [hdn'] at b
              have w4 : cnt i X.length + cnt j Y.length = cnt i X.length + cnt (j + 1) Y.length := by
                rw [cnt_no hdn, cnt_no (i := j) (n := Y.length) (by omega)]
              simp (maxSteps := 3000000) only [Try.f10, lmx, g1, g1', g1l, g2, hrow, hv0, hv1, hE, hF, hW, b, c, w2, w3, nRow, D.toI, dB, D.toB, D.toL, pRow, List.cons_append, List.nil_append, List.append_nil, mxCell, mxBlk, ocOf, g_alive, g_sameBytes, g_samePackets, g_sPacketCut, g_hearPD, g_drawMx, bytesOf_rows, rowsOf_len, pRows_len, nRows_len, ptRows_len, ptsOf_rows, tY2, tY3, tY4, tY5, tY9, tY12, tY21, tY22, tY23, tY24, tY27, tY35, tY36, tY47, tY55, tY83, tY84, tY97, tY106, Try.underlying2, Try.underlying3, Try.underlying4, Try.underlying5, Try.underlying9, Try.underlying12, Try.underlying21, Try.underlying22, Try.underlying23, Try.underlying24, Try.underlying27, Try.underlying35, Try.underlying36, Try.underlying47, Try.underlying55, Try.underlying83, Try.underlying84, Try.underlying97, Try.underlying106, e_skip, e_label, e_ret, e_exit, e_seq, e_cond, e_block, e_region, seqK_normal, seqK_ret, seqK_exit, blkK_normal, blkK_ret, blkK_exit, condK_some, regK_true, regK_false, e_nil, e_cons, gateK_go, gateK_skip, gateK_ask, pickK_some, exK_some, x_pick, x_move, x_assign, x_alloc, x_box, x_build, x_buildSlice, x_load, x_store, x_binOp, x_unOp, x_convert, x_makeSlice, x_slice, x_fieldAddr, x_field, x_indexAddr, x_extract, x_nilCheck, x_call, x_len, x_append, x_min, oMin, x_copy, oCopy, eqAVs, callK_some, done_ret, done_normal, doneO_ret, doneO_normal, endsO_one, endsO_nil, endsO_more, ownAbs, frzAbs, leafs, leafs.leafsL, uniq, idxOf, bk, zipB, Blk.liveB, gate_none, gate_some, gateS_none, gateS_some, gateV_bool, gateV_undef, boolOf, evA, putT, refn, fpD, oBin, oUn, upsl, upl, up, ups, lk, dstsOf, resL, resA, packA, oLoadQ, oLoadKid, oStoreQ, oStoreTree, oBuildSliceQ, oBuildTree, oAppendQ, oAppendTree, isTr, isTrP, tkd, tkds, tkRows, ownOf, nodupB, deadL, treeOf, kidAbs, kidBlk, kidRows, TK.isCell, D.toL, oLoad, oStore, oAlloc, oBox, oBuild, oBuildSlice, oMake, oAppend, oIndexAddr, oFieldAddr, oField, oExtract, oNil, oSlice, oLen, oConvert, rowLoad, fillA, fillR, slB, dk, dks, dkRows, frz, loOf, hiOf, lenOf, rowsOf, nilV, lenV, putAt, views, viewsOk, CK.av, CK.ok, AV.cells, AV.one, Value.oneCell', Value.cells, pureAbs, nrm, nrm.nrmL, hpAt, sh, AV.ren, AV.ren.renL, Blk.ren, fpOf, footO, foot, blkIds, AV.ids, AV.ids.idsL, Op.operands, Call.operands, List.find?_cons, List.find?_nil, Nat.reduceBEq, beq_self_eq_true, List.map_cons, List.map_nil, List.getD_cons_zero, List.getD_cons_succ, List.getD_nil, List.set_cons_zero, List.set_cons_succ, List.length_cons, List.length_nil, List.replicate, List.cons_append, List.nil_append, List.append_nil, List.getElem?_cons_zero, List.getElem?_cons_succ, List.getElem?_toArray, List.getElem?_nil, List.take_zero, List.take_succ_cons, List.take_nil, List.drop_zero, List.drop_succ_cons, List.drop_nil, List.headD_cons, List.tail_cons, List.flatten_cons, List.flatten_nil, List.flatMap_cons, List.flatMap_nil, List.toList_toArray, Array.toList_append, Option.bind_some, Option.map_some, Option.map_none, Option.isSome_some, List.all_nil, List.all_cons, Bool.and_self, Bool.and_true, Bool.true_and, true_and, and_true, ↓reduceIte, List.size_toArray, Bool.false_eq_true, Bool.true_eq_false, false_implies, true_implies, Bool.not_true, Bool.not_false, and_self, implies_true, decide_true, decide_false, Nat.reduceAdd, Nat.reduceMul, Nat.reduceLT, Nat.reduceSub, Nat.reduceLeDiff, Nat.reduceEqDiff, eq_self, ne_eq, not_false_eq_true, false_and, and_false, reduceCtorEq, List.filter_nil, List.filter_cons, List.isEmpty_nil, List.isEmpty_cons, bne_self_eq_false, Nat.reduceBneDiff, Nat.lt_add_one, Nat.zero_lt_succ, List.append_assoc, Nat.zero_le, and_self_iff, Int.reduceToNat, List.any_nil, List.any_cons, List.filterMap_nil, List.filterMap_cons, List.contains_nil, List.contains_cons, Bool.or_false, Bool.false_or, Bool.or_true, Bool.true_or, Bool.false_and, Bool.and_false, decide_eq_true_eq, decide_eq_false_iff_not, beq_iff_eq, Int.toNat_natCast, loopK_normal, loopK_exit, loopK_ret, ↓reduceIte, Bool.false_eq_true, Bool.not_true, Bool.not_false, bne_self_eq_false, beq_self_eq_true]
              refine ⟨⟨⟨L, rfl, hLm⟩, ⟨_, rfl, by omega⟩⟩, ?_⟩
              repeat' first
                | refine And.intro ⟨⟨_, rfl⟩, _, rfl⟩ ?_
                | refine And.intro ⟨_, rfl⟩ ?_
              exact ⟨(false, i, j + 1, F), [(0, some 0), (1, some 1)], ⟨fun h => (Bool.false_ne_true h).elim, by dsimp only; omega, by dsimp only; omega, hm2⟩, by dsimp only; omega, ⟨⟨trivial, trivial, trivial, ⟨rfl, rfl, rfl⟩, ⟨rfl, rfl, rfl⟩, trivial, ⟨rfl, rfl, rfl⟩, ⟨rfl, rfl, rfl⟩, trivial, ⟨rfl, rfl, rfl⟩, trivial, trivial, trivial, ⟨rfl, rfl, rfl⟩, ⟨rfl, rfl, rfl⟩, ⟨rfl, rfl, rfl⟩, ⟨congrArg (fun z : Int => AV.v (Value.int .i64 z)) w4, rfl, rfl⟩, ⟨congrArg (fun z : Int => AV.v (Value.int .i64 z)) (by dsimp only; omega), rfl, rfl⟩, fitT_rep _ _ rfl⟩, ⟨.inl rfl, rfl, rfl, rfl, .inl rfl, rfl, rfl, rfl, trivial⟩, by simp [rn, hpAt, mxBlk]⟩, by simp [keepIds, mxBlk]⟩

      | true =>
        obtain ⟨hi0, hj0, hL0⟩ := hfl rfl
        by_cases hjn : j = Y.length
        · have g1 : ((j : Int) == (Y.length : Int)) = true := by simp [hjn]
          have g1' : ((j : Int) = (Y.length : Int)) = True := eq_true (by omega)
          have g1l : ((j : Int) < (Y.length : Int)) = False := eq_false (by omega)
          exfalso
          omega

        · have g1 : ((j : Int) == (Y.length : Int)) = false := by simp; omega
          have g1' : ((j : Int) = (Y.length : Int)) = False := eq_false (by omega)
          have g1l : ((j : Int) < (Y.length : Int)) = True := eq_true (by omega)
          by_cases hin : i < X.length
          · have g2 : ((i : Int) < (X.length : Int)) = True := eq_true (by omega)
            by_cases hko : w.length ≤ i + j
            · have g3 : (((i + j : Nat) : Int) ≥ (w.length : Int)) = True := eq_true (by omega)
              have hv := hin
              have hrow := pRows_get X i hv
              have hv0 : (0 ≤ (i : Int)) = True := eq_true (by omega)
              have hv1 : ((i : Int) < (X.length : Int)) = True := eq_true (by omega)
              obtain ⟨a, b, c, d⟩ := mixed_step hwX hwY hdf hM hv hj
              have hid := hXm.2 _ (List.getElem_mem hv)
              obtain ⟨e, he⟩ : ∃ e, X[i] = e := ⟨_, rfl⟩
              rw [he] at hrow a b c d hid
              have hE : (⟨e.f, e.t, e.p, e.h, e.i, e.a, e.m, e.u, e.d⟩ : Pk) = e := rfl
              have w2 : IntKind.i64.wrap ((i : Int) + 1) = ((i + 1 : Nat) : Int) := by rw [wrap_id] <;> omega
              have w3 : IntKind.i64.wrap (((i + j : Nat) : Int) + 1) = ((i + j + 1 : Nat) : Int) := by rw [wrap_id] <;> omega
              obtain ⟨F, hF⟩ : ∃ F, phF L e 3 = F := ⟨_, rfl⟩
              obtain ⟨W, hW⟩ : ∃ W, phP L e 3 = W := ⟨_, rfl⟩
              rw [hF] at a
              rw [hW] at d
              have hnil : ptsOf [] = L := by rw [hL0]; rfl
              have hm2 : Mixed X Y (i + 1) j F := a
              by_cases hdn : i + 1 = X.length
              · have hdn' : decide (i + 1 = X.length) = true := decide_eq_true hdn
                obtain ⟨d1, d2⟩ := d hdn
                rw [hjX] at d1
                rw [hiX] at d2
                rw [hdn'] at b
                have w4 : IntKind.i64.wrap (cnt i X.length + cnt j Y.length + 1) = cnt (i + 1) X.length + cnt j Y.length := by
                  have := cnt_yes hdn
                  have := cnt_no (i := i) (n := X.length) (by omega)
                  have c1 : 0 ≤ cnt i X.length ∧ cnt i X.length ≤ 1 := by unfold cnt; split <;> omega
                  have c2 : 0 ≤ cnt j Y.length ∧ cnt j Y.length ≤ 1 := by unfold cnt; split <;> omega
                  rw [wrap_id (by omega) (by omega)]; omega
                simp (maxSteps := 3000000) only [Try.f10, lmx, g1, g1', g2, g3, hrow, hv0, hv1, hE, hF, hW, b, c, w2, w3, nRow, D.toI, dB, D.toB, D.toL, pRow, List.cons_append, List.nil_append, List.append_nil, mxCell, mxBlk, hnil, d1, d2, w4, hab, hba, ocOf, g_alive, g_sameBytes, g_samePackets, g_sPacketCut, g_hearPD, g_drawMx, bytesOf_rows, rowsOf_len, pRows_len, nRows_len, ptRows_len, ptsOf_rows, tY2, tY3, tY4, tY5, tY9, tY12, tY21, tY22, tY23, tY24, tY27, tY35, tY36, tY47, tY55, tY83, tY84, tY97, tY106, Try.underlying2, Try.underlying3, Try.underlying4, Try.underlying5, Try.underlying9, Try.underlying12, Try.underlying21, Try.underlying22, Try.underlying23, Try.underlying24, Try.underlying27, Try.underlying35, Try.underlying36, Try.underlying47, Try.underlying55, Try.underlying83, Try.underlying84, Try.underlying97, Try.underlying106, e_skip, e_label, e_ret, e_exit, e_seq, e_cond, e_block, e_region, seqK_normal, seqK_ret, seqK_exit, blkK_normal, blkK_ret, blkK_exit, condK_some, regK_true, regK_false, e_nil, e_cons, gateK_go, gateK_skip, gateK_ask, pickK_some, exK_some, x_pick, x_move, x_assign, x_alloc, x_box, x_build, x_buildSlice, x_load, x_store, x_binOp, x_unOp, x_convert, x_makeSlice, x_slice, x_fieldAddr, x_field, x_indexAddr, x_extract, x_nilCheck, x_call, x_len, x_append, x_min, oMin, x_copy, oCopy, eqAVs, callK_some, done_ret, done_normal, doneO_ret, doneO_normal, endsO_one, endsO_nil, endsO_more, ownAbs, frzAbs, leafs, leafs.leafsL, uniq, idxOf, bk, zipB, Blk.liveB, gate_none, gate_some, gateS_none, gateS_some, gateV_bool, gateV_undef, boolOf, evA, putT, refn, fpD, oBin, oUn, upsl, upl, up, ups, lk, dstsOf, resL, resA, packA, oLoadQ, oLoadKid, oStoreQ, oStoreTree, oBuildSliceQ, oBuildTree, oAppendQ, oAppendTree, isTr, isTrP, tkd, tkds, tkRows, ownOf, nodupB, deadL, treeOf, kidAbs, kidBlk, kidRows, TK.isCell, D.toL, oLoad, oStore, oAlloc, oBox, oBuild, oBuildSlice, oMake, oAppend, oIndexAddr, oFieldAddr, oField, oExtract, oNil, oSlice, oLen, oConvert, rowLoad, fillA, fillR, slB, dk, dks, dkRows, frz, loOf, hiOf, lenOf, rowsOf, nilV, lenV, putAt, views, viewsOk, CK.av, CK.ok, AV.cells, AV.one, Value.oneCell', Value.cells, pureAbs, nrm, nrm.nrmL, hpAt, sh, AV.ren, AV.ren.renL, Blk.ren, fpOf, footO, foot, blkIds, AV.ids, AV.ids.idsL, Op.operands, Call.operands, List.find?_cons, List.find?_nil, Nat.reduceBEq, beq_self_eq_true, List.map_cons, List.map_nil, List.getD_cons_zero, List.getD_cons_succ, List.getD_nil, List.set_cons_zero, List.set_cons_succ, List.length_cons, List.length_nil, List.replicate, List.cons_append, List.nil_append, List.append_nil, List.getElem?_cons_zero, List.getElem?_cons_succ, List.getElem?_toArray, List.getElem?_nil, List.take_zero, List.take_succ_cons, List.take_nil, List.drop_zero, List.drop_succ_cons, List.drop_nil, List.headD_cons, List.tail_cons, List.flatten_cons, List.flatten_nil, List.flatMap_cons, List.flatMap_nil, List.toList_toArray, Array.toList_append, Option.bind_some, Option.map_some, Option.map_none, Option.isSome_some, List.all_nil, List.all_cons, Bool.and_self, Bool.and_true, Bool.true_and, true_and, and_true, ↓reduceIte, List.size_toArray, Bool.false_eq_true, Bool.true_eq_false, false_implies, true_implies, Bool.not_true, Bool.not_false, and_self, implies_true, decide_true, decide_false, Nat.reduceAdd, Nat.reduceMul, Nat.reduceLT, Nat.reduceSub, Nat.reduceLeDiff, Nat.reduceEqDiff, eq_self, ne_eq, not_false_eq_true, false_and, and_false, reduceCtorEq, List.filter_nil, List.filter_cons, List.isEmpty_nil, List.isEmpty_cons, bne_self_eq_false, Nat.reduceBneDiff, Nat.lt_add_one, Nat.zero_lt_succ, List.append_assoc, Nat.zero_le, and_self_iff, Int.reduceToNat, List.any_nil, List.any_cons, List.filterMap_nil, List.filterMap_cons, List.contains_nil, List.contains_cons, Bool.or_false, Bool.false_or, Bool.or_true, Bool.true_or, Bool.false_and, Bool.and_false, decide_eq_true_eq, decide_eq_false_iff_not, beq_iff_eq, Int.toNat_natCast, loopK_normal, loopK_exit, loopK_ret, ↓reduceIte, Bool.false_eq_true, Bool.not_true, Bool.not_false, bne_self_eq_false, beq_self_eq_true]
                refine ⟨⟨⟨[], rfl, m0⟩, ⟨_, rfl, by omega⟩⟩, ?_⟩
                repeat' first
                  | refine And.intro ⟨⟨_, rfl⟩, _, rfl⟩ ?_
                  | refine And.intro ⟨_, rfl⟩ ?_
                exact ⟨(false, i + 1, j, F), [(0, some 0), (1, some 1)], ⟨fun h => (Bool.false_ne_true h).elim, by dsimp only; omega, by dsimp only; omega, hm2⟩, by dsimp only; omega, ⟨⟨trivial, trivial, trivial, ⟨rfl, rfl, rfl⟩, ⟨rfl, rfl, rfl⟩, trivial, ⟨rfl, rfl, rfl⟩, ⟨rfl, rfl, rfl⟩, trivial, ⟨rfl, rfl, rfl⟩, trivial, trivial, trivial, ⟨rfl, rfl, rfl⟩, ⟨rfl, rfl, rfl⟩, ⟨rfl, rfl, rfl⟩, ⟨rfl, rfl, rfl⟩, ⟨congrArg (fun z : Int => AV.v (Value.int .i64 z)) (by dsimp only; omega), rfl, rfl⟩, fitT_rep _ _ rfl⟩, ⟨.inl rfl, rfl, rfl, rfl, .inl rfl, rfl, rfl, rfl, trivial⟩, by simp [rn, hpAt, mxBlk]⟩, by simp [keepIds, mxBlk]⟩

              · have hdn' : decide (i + 1 = X.length) = false := decide_eq_false hdn
                rw [hdn'] at b
                have w4 : cnt i X.length + cnt j Y.length = cnt (i + 1) X.length + cnt j Y.length := by
                  rw [cnt_no hdn, cnt_no (i := i) (n := X.length) (by omega)]
                simp (maxSteps := 3000000) only [Try.f10, lmx, g1, g1', g2, g3, hrow, hv0, hv1, hE, hF, hW, b, c, w2, w3, nRow, D.toI, dB, D.toB, D.toL, pRow, List.cons_append, List.nil_append, List.append_nil, mxCell, mxBlk, hnil, ocOf, g_alive, g_sameBytes, g_samePackets, g_sPacketCut, g_hearPD, g_drawMx, bytesOf_rows, rowsOf_len, pRows_len, nRows_len, ptRows_len, ptsOf_rows, tY2, tY3, tY4, tY5, tY9, tY12, tY21, tY22, tY23, tY24, tY27, tY35, tY36, tY47, tY55, tY83, tY84, tY97, tY106, Try.underlying2, Try.underlying3, Try.underlying4, Try.underlying5, Try.underlying9, Try.underlying12, Try.underlying21, Try.underlying22, Try.underlying23, Try.underlying24, Try.underlying27, Try.underlying35, Try.underlying36, Try.underlying47, Try.underlying55, Try.underlying83, Try.underlying84, Try.underlying97, Try.underlying106, e_skip, e_label, e_ret, e_exit, e_seq, e_cond, e_block, e_region, seqK_normal, seqK_ret, seqK_exit, blkK_normal, blkK_ret, blkK_exit, condK_some, regK_true, regK_false, e_nil, e_cons, gateK_go, gateK_skip, gateK_ask, pickK_some, exK_some, x_pick, x_move, x_assign, x_alloc, x_box, x_build, x_buildSlice, x_load, x_store, x_binOp, x_unOp, x_convert, x_makeSlice, x_slice, x_fieldAddr, x_field, x_indexAddr, x_extract, x_nilCheck, x_call, x_len, x_append, x_min, oMin, x_copy, oCopy, eqAVs, callK_some, done_ret, done_normal, doneO_ret, doneO_normal, endsO_one, endsO_nil, endsO_more, ownAbs, frzAbs, leafs, leafs.leafsL, uniq, idxOf, bk, zipB, Blk.liveB, gate_none, gate_some, gateS_none, gateS_some, gateV_bool, gateV_undef, boolOf, evA, putT, refn, fpD, oBin, oUn, upsl, upl, up, ups, lk, dstsOf, resL, resA, packA, oLoadQ, oLoadKid, oStoreQ, oStoreTree, oBuildSliceQ, oBuildTree, oAppendQ, oAppendTree, isTr, isTrP, tkd, tkds, tkRows, ownOf, nodupB, deadL, treeOf, kidAbs, kidBlk, kidRows, TK.isCell, D.toL, oLoad, oStore, oAlloc, oBox, oBuild, oBuildSlice, oMake, oAppend, oIndexAddr, oFieldAddr, oField, oExtract, oNil, oSlice, oLen, oConvert, rowLoad, fillA, fillR, slB, dk, dks, dkRows, frz, loOf, hiOf, lenOf, rowsOf, nilV, lenV, putAt, views, viewsOk, CK.av, CK.ok, AV.cells, AV.one, Value.oneCell', Value.cells, pureAbs, nrm, nrm.nrmL, hpAt, sh, AV.ren, AV.ren.renL, Blk.ren, fpOf, footO, foot, blkIds, AV.ids, AV.ids.idsL, Op.operands, Call.operands, List.find?_cons, List.find?_nil, Nat.reduceBEq, beq_self_eq_true, List.map_cons, List.map_nil, List.getD_cons_zero, List.getD_cons_succ, List.getD_nil, List.set_cons_zero, List.set_cons_succ, List.length_cons, List.length_nil, List.replicate, List.cons_append, List.nil_append, List.append_nil, List.getElem?_cons_zero, List.getElem?_cons_succ, List.getElem?_toArray, List.getElem?_nil, List.take_zero, List.take_succ_cons, List.take_nil, List.drop_zero, List.drop_succ_cons, List.drop_nil, List.headD_cons, List.tail_cons, List.flatten_cons, List.flatten_nil, List.flatMap_cons, List.flatMap_nil, List.toList_toArray, Array.toList_append, Option.bind_some, Option.map_some, Option.map_none, Option.isSome_some, List.all_nil, List.all_cons, Bool.and_self, Bool.and_true, Bool.true_and, true_and, and_true, ↓reduceIte, List.size_toArray, Bool.false_eq_true, Bool.true_eq_false, false_implies, true_implies, Bool.not_true, Bool.not_false, and_self, implies_true, decide_true, decide_false, Nat.reduceAdd, Nat.reduceMul, Nat.reduceLT, Nat.reduceSub, Nat.reduceLeDiff, Nat.reduceEqDiff, eq_self, ne_eq, not_false_eq_true, false_and, and_false, reduceCtorEq, List.filter_nil, List.filter_cons, List.isEmpty_nil, List.isEmpty_cons, bne_self_eq_false, Nat.reduceBneDiff, Nat.lt_add_one, Nat.zero_lt_succ, List.append_assoc, Nat.zero_le, and_self_iff, Int.reduceToNat, List.any_nil, List.any_cons, List.filterMap_nil, List.filterMap_cons, List.contains_nil, List.contains_cons, Bool.or_false, Bool.false_or, Bool.or_true, Bool.true_or, Bool.false_and, Bool.and_false, decide_eq_true_eq, decide_eq_false_iff_not, beq_iff_eq, Int.toNat_natCast, loopK_normal, loopK_exit, loopK_ret, ↓reduceIte, Bool.false_eq_true, Bool.not_true, Bool.not_false, bne_self_eq_false, beq_self_eq_true]
                refine ⟨⟨⟨[], rfl, m0⟩, ⟨_, rfl, by omega⟩⟩, ?_⟩
                repeat' first
                  | refine And.intro ⟨⟨_, rfl⟩, _, rfl⟩ ?_
                  | refine And.intro ⟨_, rfl⟩ ?_
                exact ⟨(false, i + 1, j, F), [(0, some 0), (1, some 1)], ⟨fun h => (Bool.false_ne_true h).elim, by dsimp only; omega, by dsimp only; omega, hm2⟩, by dsimp only; omega, ⟨⟨trivial, trivial, trivial, ⟨rfl, rfl, rfl⟩, ⟨rfl, rfl, rfl⟩, trivial, ⟨rfl, rfl, rfl⟩, ⟨rfl, rfl, rfl⟩, trivial, ⟨rfl, rfl, rfl⟩, trivial, trivial, trivial, ⟨rfl, rfl, rfl⟩, ⟨rfl, rfl, rfl⟩, ⟨rfl, rfl, rfl⟩, ⟨congrArg (fun z : Int => AV.v (Value.int .i64 z)) w4, rfl, rfl⟩, ⟨congrArg (fun z : Int => AV.v (Value.int .i64 z)) (by dsimp only; omega), rfl, rfl⟩, fitT_rep _ _ rfl⟩, ⟨.inl rfl, rfl, rfl, rfl, .inl rfl, rfl, rfl, rfl, trivial⟩, by simp [rn, hpAt, mxBlk]⟩, by simp [keepIds, mxBlk]⟩

            · have g3 : (((i + j : Nat) : Int) ≥ (w.length : Int)) = False := eq_false (by omega)
              have hko' : i + j < w.length := by omega
              have hroww := nRows_get w (i + j) hko'
              have k0 : (0 ≤ ((i + j : Nat) : Int)) = True := eq_true (by omega)
              have k1 : (((i + j : Nat) : Int) < (w.length : Int)) = True := eq_true (by omega)
              by_cases hz : ((w[i + j] : Nat) : Int) = 0
              · have g4 : (((w[i + j] : Nat) : Int) = 0) = True := eq_true hz
                have hv := hin
                have hrow := pRows_get X i hv
                have hv0 : (0 ≤ (i : Int)) = True := eq_true (by omega)
                have hv1 : ((i : Int) < (X.length : Int)) = True := eq_true (by omega)
                obtain ⟨a, b, c, d⟩ := mixed_step hwX hwY hdf hM hv hj
                have hid := hXm.2 _ (List.getElem_mem hv)
                obtain ⟨e, he⟩ : ∃ e, X[i] = e := ⟨_, rfl⟩
                rw [he] at hrow a b c d hid
                have hE : (⟨e.f, e.t, e.p, e.h, e.i, e.a, e.m, e.u, e.d⟩ : Pk) = e := rfl
                have w2 : IntKind.i64.wrap ((i : Int) + 1) = ((i + 1 : Nat) : Int) := by rw [wrap_id] <;> omega
                have w3 : IntKind.i64.wrap (((i + j : Nat) : Int) + 1) = ((i + j + 1 : Nat) : Int) := by rw [wrap_id] <;> omega
                obtain ⟨F, hF⟩ : ∃ F, phF L e 3 = F := ⟨_, rfl⟩
                obtain ⟨W, hW⟩ : ∃ W, phP L e 3 = W := ⟨_, rfl⟩
                rw [hF] at a
                rw [hW] at d
                have hnil : ptsOf [] = L := by rw [hL0]; rfl
                have hm2 : Mixed X Y (i + 1) j F := a
                by_cases hdn : i + 1 = X.length
                · have hdn' : decide (i + 1 = X.length) = true := decide_eq_true hdn
                  obtain ⟨d1, d2⟩ := d hdn
                  rw [hjX] at d1
                  rw [hiX] at d2
                  rw [hdn'] at b
                  have w4 : IntKind.i64.wrap (cnt i X.length + cnt j Y.length + 1) = cnt (i + 1) X.length + cnt j Y.length := by
                    have := cnt_yes hdn
                    have := cnt_no (i := i) (n := X.length) (by omega)
                    have c1 : 0 ≤ cnt i X.length ∧ cnt i X.length ≤ 1 := by unfold cnt; split <;> omega
                    have c2 : 0 ≤ cnt j Y.length ∧ cnt j Y.length ≤ 1 := by unfold cnt; split <;> omega
                    rw [wrap_id (by omega) (by omega)]; omega
                  simp (maxSteps := 3000000) only [Try.f10, lmx, g1, g1', g2, g3, hroww, k0, k1, g4, hrow, hv0, hv1, hE, hF, hW, b, c, w2, w3, nRow, D.toI, dB, D.toB, D.toL, pRow, List.cons_append, List.nil_append, List.append_nil, mxCell, mxBlk, hnil, d1, d2, w4, hab, hba, ocOf, g_alive, g_sameBytes, g_samePackets, g_sPacketCut, g_hearPD, g_drawMx, bytesOf_rows, rowsOf_len, pRows_len, nRows_len, ptRows_len, ptsOf_rows, tY2, tY3, tY4, tY5, tY9, tY12, tY21, tY22, tY23, tY24, tY27, tY35, tY36, tY47, tY55, tY83, tY84, tY97, tY106, Try.underlying2, Try.underlying3, Try.underlying4, Try.underlying5, Try.underlying9, Try.underlying12, Try.underlying21, Try.underlying22, Try.underlying23, Try.underlying24, Try.underlying27, Try.underlying35, Try.underlying36, Try.underlying47, Try.underlying55, Try.underlying83, Try.underlying84, Try.underlying97, Try.underlying106, e_skip, e_label, e_ret, e_exit, e_seq, e_cond, e_block, e_region, seqK_normal, seqK_ret, seqK_exit, blkK_normal, blkK_ret, blkK_exit, condK_some, regK_true, regK_false, e_nil, e_cons, gateK_go, gateK_skip, gateK_ask, pickK_some, exK_some, x_pick, x_move, x_assign, x_alloc, x_box, x_build, x_buildSlice, x_load, x_store, x_binOp, x_unOp, x_convert, x_makeSlice, x_slice, x_fieldAddr, x_field, x_indexAddr, x_extract, x_nilCheck, x_call, x_len, x_append, x_min, oMin, x_copy, oCopy, eqAVs, callK_some, done_ret, done_normal, doneO_ret, doneO_normal, endsO_one, endsO_nil, endsO_more, ownAbs, frzAbs, leafs, leafs.leafsL, uniq, idxOf, bk, zipB, Blk.liveB, gate_none, gate_some, gateS_none, gateS_some, gateV_bool, gateV_undef, boolOf, evA, putT, refn, fpD, oBin, oUn, upsl, upl, up, ups, lk, dstsOf, resL, resA, packA, oLoadQ, oLoadKid, oStoreQ, oStoreTree, oBuildSliceQ, oBuildTree, oAppendQ, oAppendTree, isTr, isTrP, tkd, tkds, tkRows, ownOf, nodupB, deadL, treeOf, kidAbs, kidBlk, kidRows, TK.isCell, D.toL, oLoad, oStore, oAlloc, oBox, oBuild, oBuildSlice, oMake, oAppend, oIndexAddr, oFieldAddr, oField, oExtract, oNil, oSlice, oLen, oConvert, rowLoad, fillA, fillR, slB, dk, dks, dkRows, frz, loOf, hiOf, lenOf, rowsOf, nilV, lenV, putAt, views, viewsOk, CK.av, CK.ok, AV.cells, AV.one, Value.oneCell', Value.cells, pureAbs, nrm, nrm.nrmL, hpAt, sh, AV.ren, AV.ren.renL, Blk.ren, fpOf, footO, foot, blkIds, AV.ids, AV.ids.idsL, Op.operands, Call.operands, List.find?_cons, List.find?_nil, Nat.reduceBEq, beq_self_eq_true, List.map_cons, List.map_nil, List.getD_cons_zero, List.getD_cons_succ, List.getD_nil, List.set_cons_zero, List.set_cons_succ, List.length_cons, List.length_nil, List.replicate, List.cons_append, List.nil_append, List.append_nil, List.getElem?_cons_zero, List.getElem?_cons_succ, List.getElem?_toArray, List.getElem?_nil, List.take_zero, List.take_succ_cons, List.take_nil, List.drop_zero, List.drop_succ_cons, List.drop_nil, List.headD_cons, List.tail_cons, List.flatten_cons, List.flatten_nil, List.flatMap_cons, List.flatMap_nil, List.toList_toArray, Array.toList_append, Option.bind_some, Option.map_some, Option.map_none, Option.isSome_some, List.all_nil, List.all_cons, Bool.and_self, Bool.and_true, Bool.true_and, true_and, and_true, ↓reduceIte, List.size_toArray, Bool.false_eq_true, Bool.true_eq_false, false_implies, true_implies, Bool.not_true, Bool.not_false, and_self, implies_true, decide_true, decide_false, Nat.reduceAdd, Nat.reduceMul, Nat.reduceLT, Nat.reduceSub, Nat.reduceLeDiff, Nat.reduceEqDiff, eq_self, ne_eq, not_false_eq_true, false_and, and_false, reduceCtorEq, List.filter_nil, List.filter_cons, List.isEmpty_nil, List.isEmpty_cons, bne_self_eq_false, Nat.reduceBneDiff, Nat.lt_add_one, Nat.zero_lt_succ, List.append_assoc, Nat.zero_le, and_self_iff, Int.reduceToNat, List.any_nil, List.any_cons, List.filterMap_nil, List.filterMap_cons, List.contains_nil, List.contains_cons, Bool.or_false, Bool.false_or, Bool.or_true, Bool.true_or, Bool.false_and, Bool.and_false, decide_eq_true_eq, decide_eq_false_iff_not, beq_iff_eq, Int.toNat_natCast, loopK_normal, loopK_exit, loopK_ret, ↓reduceIte, Bool.false_eq_true, Bool.not_true, Bool.not_false, bne_self_eq_false, beq_self_eq_true]
                  refine ⟨⟨⟨[], rfl, m0⟩, ⟨_, rfl, by omega⟩⟩, ?_⟩
                  repeat' first
                    | refine And.intro ⟨⟨_, rfl⟩, _, rfl⟩ ?_
                    | refine And.intro ⟨_, rfl⟩ ?_
                  exact ⟨(false, i + 1, j, F), [(0, some 0), (1, some 1)], ⟨fun h => (Bool.false_ne_true h).elim, by dsimp only; omega, by dsimp only; omega, hm2⟩, by dsimp only; omega, ⟨⟨trivial, trivial, trivial, ⟨rfl, rfl, rfl⟩, ⟨rfl, rfl, rfl⟩, trivial, ⟨rfl, rfl, rfl⟩, ⟨rfl, rfl, rfl⟩, trivial, ⟨rfl, rfl, rfl⟩, trivial, trivial, trivial, ⟨rfl, rfl, rfl⟩, ⟨rfl, rfl, rfl⟩, ⟨rfl, rfl, rfl⟩, ⟨rfl, rfl, rfl⟩, ⟨congrArg (fun z : Int => AV.v (Value.int .i64 z)) (by dsimp only; omega), rfl, rfl⟩, fitT_rep _ _ rfl⟩, ⟨.inl rfl, rfl, rfl, rfl, .inl rfl, rfl, rfl, rfl, trivial⟩, by simp [rn, hpAt, mxBlk]⟩, by simp [keepIds, mxBlk]⟩

                · have hdn' : decide (i + 1 = X.length) = false := decide_eq_false hdn
                  rw [hdn'] at b
                  have w4 : cnt i X.length + cnt j Y.length = cnt (i + 1) X.length + cnt j Y.length := by
                    rw [cnt_no hdn, cnt_no (i := i) (n := X.length) (by omega)]
                  simp (maxSteps := 3000000) only [Try.f10, lmx, g1, g1', g2, g3, hroww, k0, k1, g4, hrow, hv0, hv1, hE, hF, hW, b, c, w2, w3, nRow, D.toI, dB, D.toB, D.toL, pRow, List.cons_append, List.nil_append, List.append_nil, mxCell, mxBlk, hnil, ocOf, g_alive, g_sameBytes, g_samePackets, g_sPacketCut, g_hearPD, g_drawMx, bytesOf_rows, rowsOf_len, pRows_len, nRows_len, ptRows_len, ptsOf_rows, tY2, tY3, tY4, tY5, tY9, tY12, tY21, tY22, tY23, tY24, tY27, tY35, tY36, tY47, tY55, tY83, tY84, tY97, tY106, Try.underlying2, Try.underlying3, Try.underlying4, Try.underlying5, Try.underlying9, Try.underlying12, Try.underlying21, Try.underlying22, Try.underlying23, Try.underlying24, Try.underlying27, Try.underlying35, Try.underlying36, Try.underlying47, Try.underlying55, Try.underlying83, Try.underlying84, Try.underlying97, Try.underlying106, e_skip, e_label, e_ret, e_exit, e_seq, e_cond, e_block, e_region, seqK_normal, seqK_ret, seqK_exit, blkK_normal, blkK_ret, blkK_exit, condK_some, regK_true, regK_false, e_nil, e_cons, gateK_go, gateK_skip, gateK_ask, pickK_some, exK_some, x_pick, x_move, x_assign, x_alloc, x_box, x_build, x_buildSlice, x_load, x_store, x_binOp, x_unOp, x_convert, x_makeSlice, x_slice, x_fieldAddr, x_field, x_indexAddr, x_extract, x_nilCheck, x_call, x_len, x_append, x_min, oMin, x_copy, oCopy, eqAVs, callK_some, done_ret, done_normal, doneO_ret, doneO_normal, endsO_one, endsO_nil, endsO_more, ownAbs, frzAbs, leafs, leafs.leafsL, uniq, idxOf, bk, zipB, Blk.liveB, gate_none, gate_some, gateS_none, gateS_some, gateV_bool, gateV_undef, boolOf, evA, putT, refn, fpD, oBin, oUn, upsl, upl, up, ups, lk, dstsOf, resL, resA, packA, oLoadQ, oLoadKid, oStoreQ, oStoreTree, oBuildSliceQ, oBuildTree, oAppendQ, oAppendTree, isTr, isTrP, tkd, tkds, tkRows, ownOf, nodupB, deadL, treeOf, kidAbs, kidBlk, kidRows, TK.isCell, D.toL, oLoad, oStore, oAlloc, oBox, oBuild, oBuildSlice, oMake, oAppend, oIndexAddr, oFieldAddr, oField, oExtract, oNil, oSlice, oLen, oConvert, rowLoad, fillA, fillR, slB, dk, dks, dkRows, frz, loOf, hiOf, lenOf, rowsOf, nilV, lenV, putAt, views, viewsOk, CK.av, CK.ok, AV.cells, AV.one, Value.oneCell', Value.cells, pureAbs, nrm, nrm.nrmL, hpAt, sh, AV.ren, AV.ren.renL, Blk.ren, fpOf, footO, foot, blkIds, AV.ids, AV.ids.idsL, Op.operands, Call.operands, List.find?_cons, List.find?_nil, Nat.reduceBEq, beq_self_eq_true, List.map_cons, List.map_nil, List.getD_cons_zero, List.getD_cons_succ, List.getD_nil, List.set_cons_zero, List.set_cons_succ, List.length_cons, List.length_nil, List.replicate, List.cons_append, List.nil_append, List.append_nil, List.getElem?_cons_zero, List.getElem?_cons_succ, List.getElem?_toArray, List.getElem?_nil, List.take_zero, List.take_succ_cons, List.take_nil, List.drop_zero, List.drop_succ_cons, List.drop_nil, List.headD_cons, List.tail_cons, List.flatten_cons, List.flatten_nil, List.flatMap_cons, List.flatMap_nil, List.toList_toArray, Array.toList_append, Option.bind_some, Option.map_some, Option.map_none, Option.isSome_some, List.all_nil, List.all_cons, Bool.and_self, Bool.and_true, Bool.true_and, true_and, and_true, ↓reduceIte, List.size_toArray, Bool.false_eq_true, Bool.true_eq_false, false_implies, true_implies, Bool.not_true, Bool.not_false, and_self, implies_true, decide_true, decide_false, Nat.reduceAdd, Nat.reduceMul, Nat.reduceLT, Nat.reduceSub, Nat.reduceLeDiff, Nat.reduceEqDiff, eq_self, ne_eq, not_false_eq_true, false_and, and_false, reduceCtorEq, List.filter_nil, List.filter_cons, List.isEmpty_nil, List.isEmpty_cons, bne_self_eq_false, Nat.reduceBneDiff, Nat.lt_add_one, Nat.zero_lt_succ, List.append_assoc, Nat.zero_le, and_self_iff, Int.reduceToNat, List.any_nil, List.any_cons, List.filterMap_nil, List.filterMap_cons, List.contains_nil, List.contains_cons, Bool.or_false, Bool.false_or, Bool.or_true, Bool.true_or, Bool.false_and, Bool.and_false, decide_eq_true_eq, decide_eq_false_iff_not, beq_iff_eq, Int.toNat_natCast, loopK_normal, loopK_exit, loopK_ret, ↓reduceIte, Bool.false_eq_true, Bool.not_true, Bool.not_false, bne_self_eq_false, beq_self_eq_true]
                  refine ⟨⟨⟨[], rfl, m0⟩, ⟨_, rfl, by omega⟩⟩, ?_⟩
                  repeat' first
                    | refine And.intro ⟨⟨_, rfl⟩, _, rfl⟩ ?_
                    | refine And.intro ⟨_, rfl⟩ ?_
                  exact ⟨(false, i + 1, j, F), [(0, some 0), (1, some 1)], ⟨fun h => (Bool.false_ne_true h).elim, by dsimp only; omega, by dsimp only; omega, hm2⟩, by dsimp only; omega, ⟨⟨trivial, trivial, trivial, ⟨rfl, rfl, rfl⟩, ⟨rfl, rfl, rfl⟩, trivial, ⟨rfl, rfl, rfl⟩, ⟨rfl, rfl, rfl⟩, trivial, ⟨rfl, rfl, rfl⟩, trivial, trivial, trivial, ⟨rfl, rfl, rfl⟩, ⟨rfl, rfl, rfl⟩, ⟨rfl, rfl, rfl⟩, ⟨congrArg (fun z : Int => AV.v (Value.int .i64 z)) w4, rfl, rfl⟩, ⟨congrArg (fun z : Int => AV.v (Value.int .i64 z)) (by dsimp only; omega), rfl, rfl⟩, fitT_rep _ _ rfl⟩, ⟨.inl rfl, rfl, rfl, rfl, .inl rfl, rfl, rfl, rfl, trivial⟩, by simp [rn, hpAt, mxBlk]⟩, by simp [keepIds, mxBlk]⟩

              · have g4 : (((w[i + j] : Nat) : Int) = 0) = False := eq_false hz
                have hv : j < Y.length := by omega
                have hrow := pRows_get Y j hv
                have hv0 : (0 ≤ (j : Int)) = True := eq_true (by omega)
                have hv1 : ((j : Int) < (Y.length : Int)) = True := eq_true (by omega)
                obtain ⟨a, b, c, d⟩ := mixed_step hwY hwX (fun y hy x hx => (hdf x hx y hy).symm) hM.swap hv hi
                have hid := hYm.2 _ (List.getElem_mem hv)
                obtain ⟨e, he⟩ : ∃ e, Y[j] = e := ⟨_, rfl⟩
                rw [he] at hrow a b c d hid
                have hE : (⟨e.f, e.t, e.p, e.h, e.i, e.a, e.m, e.u, e.d⟩ : Pk) = e := rfl
                have w2 : IntKind.i64.wrap ((j : Int) + 1) = ((j + 1 : Nat) : Int) := by rw [wrap_id] <;> omega
                have w3 : IntKind.i64.wrap (((i + j : Nat) : Int) + 1) = ((i + j + 1 : Nat) : Int) := by rw [wrap_id] <;> omega
                obtain ⟨F, hF⟩ : ∃ F, phF L e 3 = F := ⟨_, rfl⟩
                obtain ⟨W, hW⟩ : ∃ W, phP L e 3 = W := ⟨_, rfl⟩
                rw [hF] at a
                rw [hW] at d
                have hnil : ptsOf [] = L := by rw [hL0]; rfl
                have hm2 : Mixed X Y i (j + 1) F := a.swap
                by_cases hdn : j + 1 = Y.length
                · have hdn' : decide (j + 1 = Y.length) = true := decide_eq_true hdn
                  obtain ⟨d1, d2⟩ := d hdn
                  rw [hjY] at d1
                  rw [hiY] at d2
                  rw [hdn'] at b
                  have w4 : IntKind.i64.wrap (cnt i X.length + cnt j Y.length + 1) = cnt i X.length + cnt (j + 1) Y.length := by
                    have := cnt_yes hdn
                    have := cnt_no (i := j) (n := Y.length) (by omega)
                    have c1 : 0 ≤ cnt i X.length ∧ cnt i X.length ≤ 1 := by unfold cnt; split <;> omega
                    have c2 : 0 ≤ cnt j Y.length ∧ cnt j Y.length ≤ 1 := by unfold cnt; split <;> omega
                    rw [wrap_id (by omega) (by omega)]; omega
                  simp (maxSteps := 3000000) only [Try.f10, lmx, g1, g1', g1l, g2, g3, hroww, k0, k1, g4, hrow, hv0, hv1, hE, hF, hW, b, c, w2, w3, nRow, D.toI, dB, D.toB, D.toL, pRow, List.cons_append, List.nil_append, List.append_nil, mxCell, mxBlk, hnil, d1, d2, w4, hab, hba, ocOf, g_alive, g_sameBytes, g_samePackets, g_sPacketCut, g_hearPD, g_drawMx, bytesOf_rows, rowsOf_len, pRows_len, nRows_len, ptRows_len, ptsOf_rows, tY2, tY3, tY4, tY5, tY9, tY12, tY21, tY22, tY23, tY24, tY27, tY35, tY36, tY47, tY55, tY83, tY84, tY97, tY106, Try.underlying2, Try.underlying3, Try.underlying4, Try.underlying5, Try.underlying9, Try.underlying12, Try.underlying21, Try.underlying22, Try.underlying23, Try.underlying24, Try.underlying27, Try.underlying35, Try.underlying36, Try.underlying47, Try.underlying55, Try.underlying83, Try.underlying84, Try.underlying97, Try.underlying106, e_skip, e_label, e_ret, e_exit, e_seq, e_cond, e_block, e_region, seqK_normal, seqK_ret, seqK_exit, blkK_normal, blkK_ret, blkK_exit, condK_some, regK_true, regK_false, e_nil, e_cons, gateK_go, gateK_skip, gateK_ask, pickK_some, exK_some, x_pick, x_move, x_assign, x_alloc, x_box, x_build, x_buildSlice, x_load, x_store, x_binOp, x_unOp, x_convert, x_makeSlice, x_slice, x_fieldAddr, x_field, x_indexAddr, x_extract, x_nilCheck, x_call, x_len, x_append, x_min, oMin, x_copy, oCopy, eqAVs, callK_some, done_ret, done_normal, doneO_ret, doneO_normal, endsO_one, endsO_nil, endsO_more, ownAbs, frzAbs, leafs, leafs.leafsL, uniq, idxOf, bk, zipB, Blk.liveB, gate_none, gate_some, gateS_none, gateS_some, gateV_bool, gateV_undef, boolOf, evA, putT, refn, fpD, oBin, oUn, upsl, upl, up, ups, lk, dstsOf, resL, resA, packA, oLoadQ, oLoadKid, oStoreQ, oStoreTree, oBuildSliceQ, oBuildTree, oAppendQ, oAppendTree, isTr, isTrP, tkd, tkds, tkRows, ownOf, nodupB, deadL, treeOf, kidAbs, kidBlk, kidRows, TK.isCell, D.toL, oLoad, oStore, oAlloc, oBox, oBuild, oBuildSlice, oMake, oAppend, oIndexAddr, oFieldAddr, oField, oExtract, oNil, oSlice, oLen, oConvert, rowLoad, fillA, fillR, slB, dk, dks, dkRows, frz, loOf, hiOf, lenOf, rowsOf, nilV, lenV, putAt, views, viewsOk, CK.av, CK.ok, AV.cells, AV.one, Value.oneCell', Value.cells, pureAbs, nrm, nrm.nrmL, hpAt, sh, AV.ren, AV.ren.renL, Blk.ren, fpOf, footO, foot, blkIds, AV.ids, AV.ids.idsL, Op.operands, Call.operands, List.find?_cons, List.find?_nil, Nat.reduceBEq, beq_self_eq_true, List.map_cons, List.map_nil, List.getD_cons_zero, List.getD_cons_succ, List.getD_nil, List.set_cons_zero, List.set_cons_succ, List.length_cons, List.length_nil, List.replicate, List.cons_append, List.nil_append, List.append_nil, List.getElem?_cons_zero, List.getElem?_cons_succ, List.getElem?_toArray, List.getElem?_nil, List.take_zero, List.take_succ_cons, List.take_nil, List.drop_zero, List.drop_succ_cons, List.drop_nil, List.headD_cons, List.tail_cons, List.flatten_cons, List.flatten_nil, List.flatMap_cons, List.flatMap_nil, List.toList_toArray, Array.toList_append, Option.bind_some, Option.map_some, Option.map_none, Option.isSome_some, List.all_nil, List.all_cons, Bool.and_self, Bool.and_true, Bool.true_and, true_and, and_true, ↓reduceIte, List.size_toArray, Bool.false_eq_true, Bool.true_eq_false, false_implies, true_implies, Bool.not_true, Bool.not_false, and_self, implies_true, decide_true, decide_false, Nat.reduceAdd, Nat.reduceMul, Nat.reduceLT, Nat.reduceSub, Nat.reduceLeDiff, Nat.reduceEqDiff, eq_self, ne_eq, not_false_eq_true, false_and, and_false, reduceCtorEq, List.filter_nil, List.filter_cons, List.isEmpty_nil, List.isEmpty_cons, bne_self_eq_false, Nat.reduceBneDiff, Nat.lt_add_one, Nat.zero_lt_succ, List.append_assoc, Nat.zero_le, and_self_iff, Int.reduceToNat, List.any_nil, List.any_cons, List.filterMap_nil, List.filterMap_cons, List.contains_nil, List.contains_cons, Bool.or_false, Bool.false_or, Bool.or_true, Bool.true_or, Bool.false_and, Bool.and_false, decide_eq_true_eq, decide_eq_false_iff_not, beq_iff_eq, Int.toNat_natCast, loopK_normal, loopK_exit, loopK_ret, ↓reduceIte, Bool.false_eq_true, Bool.not_true, Bool.not_false, bne_self_eq_false, beq_self_eq_true]
                  refine ⟨⟨⟨[], rfl, m0⟩, ⟨_, rfl, by omega⟩⟩, ?_⟩
                  repeat' first
                    | refine And.intro ⟨⟨_, rfl⟩, _, rfl⟩ ?_
                    | refine And.intro ⟨_, rfl⟩ ?_
                  exact ⟨(false, i, j + 1, F), [(0, some 0), (1, some 1)], ⟨fun h => (Bool.false_ne_true h).elim, by dsimp only; omega, by dsimp only; omega, hm2⟩, by dsimp only; omega, ⟨⟨trivial, trivial, trivial, ⟨rfl, rfl, rfl⟩, ⟨rfl, rfl, rfl⟩, trivial, ⟨rfl, rfl, rfl⟩, ⟨rfl, rfl, rfl⟩, trivial, ⟨rfl, rfl, rfl⟩, trivial, trivial, trivial, ⟨rfl, rfl, rfl⟩, ⟨rfl, rfl, rfl⟩, ⟨rfl, rfl, rfl⟩, ⟨rfl, rfl, rfl⟩, ⟨congrArg (fun z : Int => AV.v (Value.int .i64 z)) (by dsimp only; omega), rfl, rfl⟩, fitT_rep _ _ rfl⟩, ⟨.inl rfl, rfl, rfl, rfl, .inl rfl, rfl, rfl, rfl, trivial⟩, by simp [rn, hpAt, mxBlk]⟩, by simp [keepIds, mxBlk]⟩

                · have hdn' : decide (j + 1 = Y.length) = false := decide_eq_false hdn
                  rw [hdn'] at b
                  have w4 : cnt i X.length + cnt j Y.length = cnt i X.length + cnt (j + 1) Y.length := by
                    rw [cnt_no hdn, cnt_no (i := j) (n := Y.length) (by omega)]
                  simp (maxSteps := 3000000) only [Try.f10, lmx, g1, g1', g1l, g2, g3, hroww, k0, k1, g4, hrow, hv0, hv1, hE, hF, hW, b, c, w2, w3, nRow, D.toI, dB, D.toB, D.toL, pRow, List.cons_append, List.nil_append, List.append_nil, mxCell, mxBlk, hnil, ocOf, g_alive, g_sameBytes, g_samePackets, g_sPacketCut, g_hearPD, g_drawMx, bytesOf_rows, rowsOf_len, pRows_len, nRows_len, ptRows_len, ptsOf_rows, tY2, tY3, tY4, tY5, tY9, tY12, tY21, tY22, tY23, tY24, tY27, tY35, tY36, tY47, tY55, tY83, tY84, tY97, tY106, Try.underlying2, Try.underlying3, Try.underlying4, Try.underlying5, Try.underlying9, Try.underlying12, Try.underlying21, Try.underlying22, Try.underlying23, Try.underlying24, Try.underlying27, Try.underlying35, Try.underlying36, Try.underlying47, Try.underlying55, Try.underlying83, Try.underlying84, Try.underlying97, Try.underlying106, e_skip, e_label, e_ret, e_exit, e_seq, e_cond, e_block, e_region, seqK_normal, seqK_ret, seqK_exit, blkK_normal, blkK_ret, blkK_exit, condK_some, regK_true, regK_false, e_nil, e_cons, gateK_go, gateK_skip, gateK_ask, pickK_some, exK_some, x_pick, x_move, x_assign, x_alloc, x_box, x_build, x_buildSlice, x_load, x_store, x_binOp, x_unOp, x_convert, x_makeSlice, x_slice, x_fieldAddr, x_field, x_indexAddr, x_extract, x_nilCheck, x_call, x_len, x_append, x_min, oMin, x_copy, oCopy, eqAVs, callK_some, done_ret, done_normal, doneO_ret, doneO_normal, endsO_one, endsO_nil, endsO_more, ownAbs, frzAbs, leafs, leafs.leafsL, uniq, idxOf, bk, zipB, Blk.liveB, gate_none, gate_some, gateS_none, gateS_some, gateV_bool, gateV_undef, boolOf, evA, putT, refn, fpD, oBin, oUn, upsl, upl, up, ups, lk, dstsOf, resL, resA, packA, oLoadQ, oLoadKid, oStoreQ, oStoreTree, oBuildSliceQ, oBuildTree, oAppendQ, oAppendTree, isTr, isTrP, tkd, tkds, tkRows, ownOf, nodupB, deadL, treeOf, kidAbs, kidBlk, kidRows, TK.isCell, D.toL, oLoad, oStore, oAlloc, oBox, oBuild, oBuildSlice, oMake, oAppend, oIndexAddr, oFieldAddr, oField, oExtract, oNil, oSlice, oLen, oConvert, rowLoad, fillA, fillR, slB, dk, dks, dkRows, frz, loOf, hiOf, lenOf, rowsOf, nilV, lenV, putAt, views, viewsOk, CK.av, CK.ok, AV.cells, AV.one, Value.oneCell', Value.cells, pureAbs, nrm, nrm.nrmL, hpAt, sh, AV.ren, AV.ren.renL, Blk.ren, fpOf, footO, foot, blkIds, AV.ids, AV.ids.idsL, Op.operands, Call.operands, List.find?_cons, List.find?_nil, Nat.reduceBEq, beq_self_eq_true, List.map_cons, List.map_nil, List.getD_cons_zero, List.getD_cons_succ, List.getD_nil, List.set_cons_zero, List.set_cons_succ, List.length_cons, List.length_nil, List.replicate, List.cons_append, List.nil_append, List.append_nil, List.getElem?_cons_zero, List.getElem?_cons_succ, List.getElem?_toArray, List.getElem?_nil, List.take_zero, List.take_succ_cons, List.take_nil, List.drop_zero, List.drop_succ_cons, List.drop_nil, List.headD_cons, List.tail_cons, List.flatten_cons, List.flatten_nil, List.flatMap_cons, List.flatMap_nil, List.toList_toArray, Array.toList_append, Option.bind_some, Option.map_some, Option.map_none, Option.isSome_some, List.all_nil, List.all_cons, Bool.and_self, Bool.and_true, Bool.true_and, true_and, and_true, ↓reduceIte, List.size_toArray, Bool.false_eq_true, Bool.true_eq_false, false_implies, true_implies, Bool.not_true, Bool.not_false, and_self, implies_true, decide_true, decide_false, Nat.reduceAdd, Nat.reduceMul, Nat.reduceLT, Nat.reduceSub, Nat.reduceLeDiff, Nat.reduceEqDiff, eq_self, ne_eq, not_false_eq_true, false_and, and_false, reduceCtorEq, List.filter_nil, List.filter_cons, List.isEmpty_nil, List.isEmpty_cons, bne_self_eq_false, Nat.reduceBneDiff, Nat.lt_add_one, Nat.zero_lt_succ, List.append_assoc, Nat.zero_le, and_self_iff, Int.reduceToNat, List.any_nil, List.any_cons, List.filterMap_nil, List.filterMap_cons, List.contains_nil, List.contains_cons, Bool.or_false, Bool.false_or, Bool.or_true, Bool.true_or, Bool.false_and, Bool.and_false, decide_eq_true_eq, decide_eq_false_iff_not, beq_iff_eq, Int.toNat_natCast, loopK_normal, loopK_exit, loopK_ret, ↓reduceIte, Bool.false_eq_true, Bool.not_true, Bool.not_false, bne_self_eq_false, beq_self_eq_true]
                  refine ⟨⟨⟨[], rfl, m0⟩, ⟨_, rfl, by omega⟩⟩, ?_⟩
                  repeat' first
                    | refine And.intro ⟨⟨_, rfl⟩, _, rfl⟩ ?_
                    | refine And.intro ⟨_, rfl⟩ ?_
                  exact ⟨(false, i, j + 1, F), [(0, some 0), (1, some 1)], ⟨fun h => (Bool.false_ne_true h).elim, by dsimp only; omega, by dsimp only; omega, hm2⟩, by dsimp only; omega, ⟨⟨trivial, trivial, trivial, ⟨rfl, rfl, rfl⟩, ⟨rfl, rfl, rfl⟩, trivial, ⟨rfl, rfl, rfl⟩, ⟨rfl, rfl, rfl⟩, trivial, ⟨rfl, rfl, rfl⟩, trivial, trivial, trivial, ⟨rfl, rfl, rfl⟩, ⟨rfl, rfl, rfl⟩, ⟨rfl, rfl, rfl⟩, ⟨congrArg (fun z : Int => AV.v (Value.int .i64 z)) w4, rfl, rfl⟩, ⟨congrArg (fun z : Int => AV.v (Value.int .i64 z)) (by dsimp only; omega), rfl, rfl⟩, fitT_rep _ _ rfl⟩, ⟨.inl rfl, rfl, rfl, rfl, .inl rfl, rfl, rfl, rfl, trivial⟩, by simp [rn, hpAt, mxBlk]⟩, by simp [keepIds, mxBlk]⟩

          · have g2 : ((i : Int) < (X.length : Int)) = False := eq_false (by omega)
            exfalso
            omega
  · cases hg
theorem walk_WholePieces (A : Option Addr) (n c : Nat) (xs : List UInt8) (w : World) (h : Rd w w.heap.size A n (bv xs)) (hc : n ≤ c) :
    Calls Try.prog 10 #[.slice A n c] w fun e w' => e = .returned (.bool true) ∧ Below w.heap.size w w' :=
  lawWholePieces_ok.walk (vs := [_]) (arel_cons (.l _ _ _ (rep_of_rd h hc)) arel_nil) rfl ⟨xs, rfl⟩
end Go.Proofs.Ytdeldmagmljacaa
