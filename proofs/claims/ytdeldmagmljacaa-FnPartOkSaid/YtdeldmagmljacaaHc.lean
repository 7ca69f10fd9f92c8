import Derived.Test.YtdeldmagmljacaaHb
import Derived.Test.YtdeldmagmljacaaXe
namespace Go.Proofs.Ytdeldmagmljacaa
open Go.RowKit
set_option linter.unusedSimpArgs false
set_option linter.unusedVariables false

/-! a part is drawn -/
/-- the pieces that are taken, of the first k -/
def selP (xs : List UInt8) (C : List Pk) (q : Int) : Nat → List Pk
  | 0 => []
  | k + 1 => if 0 < pickV xs (q + (k : Int)) 3 ∨ ((selP xs C q k).length = 0 ∧ k + 1 = C.length) then selP xs C q k ++ [C.getD k pk0] else selP xs C q k
theorem selP_len (xs : List UInt8) (C : List Pk) (q : Int) : ∀ k, (selP xs C q k).length ≤ k
  | 0 => Nat.le_refl _
  | k + 1 => by
    have := selP_len xs C q k
    rw [selP]
    split
    · rw [List.length_append]; simp; omega
    · omega
theorem selP_mem (xs : List UInt8) (C : List Pk) (q : Int) : ∀ k, k ≤ C.length → ∀ y ∈ selP xs C q k, y ∈ C
  | 0, _, y, hy => by cases hy
  | k + 1, hk, y, hy => by
    rw [selP] at hy
    split at hy
    · rcases List.mem_append.1 hy with h | h
      · exact selP_mem xs C q k (by omega) y h
      · rw [List.mem_singleton.1 h, List.getD_eq_getElem?_getD, List.getElem?_eq_getElem (by omega)]
        exact List.getElem_mem _
    · exact selP_mem xs C q k (by omega) y hy
theorem selP_pos (xs : List UInt8) (C : List Pk) (q : Int) (h : 0 < C.length) : 0 < (selP xs C q C.length).length := by
  obtain ⟨k, hk⟩ : ∃ k, C.length = k + 1 := ⟨C.length - 1, by omega⟩
  rw [hk, selP]
  split
  · rw [List.length_append]; simp
  · rename_i hn
    rw [hk] at hn
    by_cases h0 : (selP xs C q k).length = 0
    · exact absurd (.inr ⟨h0, rfl⟩) hn
    · omega
/-- the pieces of a packet that is drawn -/
def dcC (xs : List UInt8) (p : Int) : List Pk := cutL (pvK (lnV xs p)) (1 + pickV xs (lnV xs p).q 6)
theorem dcB (xs : List UInt8) (p : Int) (hp : p < 10000000000) : cutB (pvK (lnV xs p)) (1 + pickV xs (lnV xs p).q 6) = true := by
  have h1 := lnV_ok xs p (by omega)
  have h2 := lnV_q xs p (by omega)
  have k0 := pickV_nonneg xs (lnV xs p).q 6 (by omega)
  have k1 := pickV_lt xs (lnV xs p).q 6 (by omega)
  obtain ⟨n, hn⟩ : ∃ n : Nat, 1 + pickV xs (lnV xs p).q 6 = (n : Int) := ⟨(1 + pickV xs (lnV xs p).q 6).toNat, by omega⟩
  rw [hn, cutB, h1, Int.toNat_natCast, decide_eq_true (p := 1 ≤ (n : Int) ∧ (n : Int) ≤ 48) (by omega)]
  have hd : ((pvK (lnV xs p)).d.length - 1) / n * n ≤ (pvK (lnV xs p)).d.length - 1 := Nat.div_mul_le_self _ _
  have hdl : (pvK (lnV xs p)).d.length ≤ 21 := h2.2.2.2
  have ha : (pvK (lnV xs p)).a = 0 := rfl
  have hu : (pvK (lnV xs p)).u = false := rfl
  rw [hu, ha, decide_eq_true (p := (0 : Int) + ((((pvK (lnV xs p)).d.length - 1) / n * n : Nat) : Int) ≤ 255) (by omega)]
  simp
theorem cut_pos {x : Pk} {l : Int} (h : cutB x l = true) : 0 < (cutL x l).length := by
  obtain ⟨-, h2, ⟨h3, e⟩ | ⟨h3, h4, h5, e⟩⟩ := cut_cases h
  · rw [e]; simp
  · rw [e, piecesK_len]
    have := (pieceN_lt (n := x.d.length) (l := l.toNat) (k := 0) (by omega)).1 (by omega)
    exact this
theorem dcC_bd (xs : List UInt8) (p : Int) (hp : p < 10000000000) : (0 < (dcC xs p).length ∧ (dcC xs p).length ≤ 48) ∧ ∀ y ∈ dcC xs p, y.d.length ≤ 48 :=
  ⟨⟨cut_pos (dcB xs p hp), (cut_len _ _).1⟩, (cut_len _ _).2⟩
structure PtW where
  ps : List Pk
  u : Int
  q : Int
def dpS (xs : List UInt8) (p : Int) : List Pk := selP xs (dcC xs p) ((lnV xs p).q + 1 + 1) (dcC xs p).length
def dpQ (xs : List UInt8) (p : Int) : Int := (lnV xs p).q + 1 + 1 + ((dcC xs p).length : Int)
def dpU (xs : List UInt8) (p : Int) : Int := pickV xs ((lnV xs p).q + 1) 40
def dpE (xs : List UInt8) (S : List Pk) (u x : Int) : PtW :=
  if pickV xs x 4 = 0 then ⟨{ S.getD 0 pk0 with a := pickV xs (x + 1) 9 } :: S.drop 1, u, x + 1 + 1⟩
  else if pickV xs x 4 = 1 then ⟨{ S.getD 0 pk0 with m := false } :: S.drop 1, u, x + 1⟩
  else if pickV xs x 4 = 2 then ⟨S ++ [S.getD 0 pk0], u, x + 1⟩
  else ⟨[], u, x + 1⟩
def dpV (xs : List UInt8) (p n : Int) : PtW :=
  if (decide (0 < n) && pickV xs (dpQ xs p) n == n - 1) = true then dpE xs (dpS xs p) (dpU xs p) (dpQ xs p + oneIf n) else ⟨dpS xs p, dpU xs p, dpQ xs p + oneIf n⟩
theorem dpS_bd (xs : List UInt8) (p : Int) (hp : p < 10000000000) : (0 < (dpS xs p).length ∧ (dpS xs p).length ≤ 48) ∧ ∀ y ∈ dpS xs p, y.d.length ≤ 48 := by
  have h := dcC_bd xs p hp
  have h1 := selP_len xs (dcC xs p) ((lnV xs p).q + 1 + 1) (dcC xs p).length
  have h2 := selP_pos xs (dcC xs p) ((lnV xs p).q + 1 + 1) h.1.1
  exact ⟨⟨h2, by unfold dpS; omega⟩, fun y hy => h.2 y (selP_mem xs _ _ _ (Nat.le_refl _) y hy)⟩
theorem dpV_bd (xs : List UInt8) (p n : Int) (hp : p < 10000000000) : (p ≤ (dpV xs p n).q ∧ (dpV xs p n).q < p + 200) ∧ (dpV xs p n).ps.length ≤ 49 ∧ ∀ y ∈ (dpV xs p n).ps, y.d.length ≤ 48 := by
  have h := dpS_bd xs p hp
  have hc := dcC_bd xs p hp
  have h2 := lnV_q xs p (by omega)
  have h3 := oneIf_le n
  have h4 : dpQ xs p = (lnV xs p).q + 1 + 1 + ((dcC xs p).length : Int) := rfl
  have h0 : (dpS xs p).getD 0 pk0 ∈ dpS xs p := by
    rw [List.getD_eq_getElem?_getD, List.getElem?_eq_getElem h.1.1]
    exact List.getElem_mem _
  have hd : ∀ y ∈ (dpS xs p).drop 1, y.d.length ≤ 48 := fun y hy => h.2 y (List.mem_of_mem_drop hy)
  unfold dpV dpE
  repeat' split
  all_goals (refine ⟨⟨by dsimp only; omega, by dsimp only; omega⟩, ?_, fun y hy => ?_⟩)
  · simp only [List.length_cons, List.length_drop]; omega
  · rcases List.mem_cons.1 hy with rfl | hy
    · have := h.2 _ h0
      exact this
    · exact hd y hy
  · simp only [List.length_cons, List.length_drop]; omega
  · rcases List.mem_cons.1 hy with rfl | hy
    · have := h.2 _ h0
      exact this
    · exact hd y hy
  · simp only [List.length_append, List.length_cons, List.length_nil]; omega
  · rcases List.mem_append.1 hy with hy | hy
    · exact h.2 y hy
    · rw [List.mem_singleton.1 hy]
      exact h.2 _ h0
  · simp
  · cases hy
  · exact Nat.le_succ_of_le h.1.2
  · exact h.2 y hy
def g_part : OC := fun args B0 => match args, B0 with
  | [.ptr r o, .v (.int .i64 n)], [.var T [.l 1 rows, .v (.int .i64 p)]] => some (T = 84 ∧ r = 0 ∧ o = 0 ∧ (∃ xs, rows = rowsOfBytes xs ∧ xs.length ≤ 2000) ∧ 0 ≤ p ∧ p < 1000000000 ∧ 0 ≤ n ∧ n ≤ 1000000, .agg [.l 9 (pRows (dpV (bytesOfRows rows) p n).ps), .v (.int .i64 (dpV (bytesOfRows rows) p n).u)], [.var T [.l 1 rows, .v (.int .i64 (dpV (bytesOfRows rows) p n).q)]], [])
  | _, _ => none
def hpt : List (FuncId × Abs) := [(41, ownAbs g_long), (40, ownAbs g_pick), (69, ownAbs g_odd), (13, ownAbs (ocOf g_sPacketCut))]
theorem hpt_ok : ∀ p ∈ hpt, CallOk Try.prog p.1 p.2 := by
  intro p hp
  simp only [hpt, List.mem_cons, List.not_mem_nil, or_false] at hp
  rcases hp with rfl | rfl | rfl | rfl
  · exact long_ok.call
  · exact pick_ok.call
  · exact odd_ok.call
  · exact specPacketCut_ok.call
set_option maxHeartbeats 4000000 in
set_option maxRecDepth 100000 in
theorem l20Part_ok : OwnOk Try.prog 50 g_part := by
  refine OwnOk.of_vcL (G := hpt) hpt_ok mixed Try.func50 (by kernel_rfl) rfl ?_
  intro args B0 cnd r B1 bs hg hc hlive
  unfold g_part at hg
  split at hg
  · rename_i r o n T rows p
    cases hg
    obtain ⟨rfl, rfl, rfl, ⟨xs, rfl, hl⟩, hp0, hp1, hn0, hn1⟩ := hc
    rw [bytesOf_rows]
    have h2 := lnV_q xs p (by omega)
    have hok := dcB xs p (by omega)
    have hcb := dcC_bd xs p (by omega)
    have hsb := dpS_bd xs p (by omega)
    have hQ : dpQ xs p = (lnV xs p).q + 1 + 1 + ((dcC xs p).length : Int) := rfl
    have hSS : dpS xs p = selP xs (dcC xs p) ((lnV xs p).q + 1 + 1) (dcC xs p).length := rfl
    have hU : dpU xs p = pickV xs ((lnV xs p).q + 1) 40 := rfl
    have hVV : dpV xs p n = if (decide (0 < n) && pickV xs (dpQ xs p) n == n - 1) = true then dpE xs (dpS xs p) (dpU xs p) (dpQ xs p + oneIf n) else ⟨dpS xs p, dpU xs p, dpQ xs p + oneIf n⟩ := rfl
    have hC' : dcC xs p = cutL (pvK (lnV xs p)) (1 + pickV xs (lnV xs p).q 6) := rfl
    obtain ⟨V, hV⟩ : ∃ V, lnV xs p = V := ⟨_, rfl⟩
    obtain ⟨C, hC⟩ : ∃ C, dcC xs p = C := ⟨_, rfl⟩
    obtain ⟨R, hR⟩ : ∃ R, dpV xs p n = R := ⟨_, rfl⟩
    have a0 := pickV_nonneg xs V.q 6 (by rw [← hV]; omega)
    have a1 := pickV_lt xs V.q 6 (by omega)
    rw [hR] at hVV ⊢
    rw [hC, hV] at hQ hSS hC'
    rw [hV] at h2 hU hok
    rw [hC] at hcb
    have hX : (⟨V.f, V.t, V.pr, V.h, V.i, V.a, V.m, V.u, V.d⟩ : Pk) = pvK V := rfl
    have hC'' := hC'.symm
    have w1 : IntKind.i64.wrap (1 + pickV xs V.q 6) = 1 + pickV xs V.q 6 := wrap_id (by omega) (by omega)
    obtain ⟨q, hq⟩ : ∃ q, V.q + 1 + 1 = q := ⟨_, rfl⟩
    obtain ⟨u, hu⟩ : ∃ u, pickV xs (V.q + 1) 40 = u := ⟨_, rfl⟩
    rw [hq] at hQ hSS
    rw [hu] at hU
    obtain ⟨e, he⟩ : ∃ e, e = oneIf n := ⟨_, rfl⟩
    have be := oneIf_le n
    rw [← he] at be hVV
    have he' : (if 0 < n then (1 : Int) else 0) = e := he.symm
    rw [hSS, hU, hQ] at hVV
    refine ⟨⟨by simp [likeBs, likeB], rfl, fun b hb => by simp at hb; subst hb; exact ⟨_, _, rfl, rfl⟩, by simp [AV.ids, AV.ids.idsL]⟩, _, rfl, fun w Z s vs h => h, ?_⟩
    clear hlive
    have hx : (∃ ys, rowsOfBytes xs = rowsOfBytes ys ∧ ys.length ≤ 2000) = True := eq_true ⟨xs, rfl, hl⟩
    simp (maxSteps := 3000000) only [Try.f50, hpt, g_long, g_pick, g_odd, ocOf, g_sPacketCut, hV, hX, hC'', w1, hq, hu, bytesOf_rows, rowsOf_len, pRows_len, hx, doneL_ret, doneL_normal, tY2, tY3, tY4, tY5, tY9, tY12, tY21, tY22, tY23, tY24, tY27, tY35, tY36, tY47, tY55, tY83, tY84, tY97, tY106, Try.underlying2, Try.underlying3, Try.underlying4, Try.underlying5, Try.underlying9, Try.underlying12, Try.underlying21, Try.underlying22, Try.underlying23, Try.underlying24, Try.underlying27, Try.underlying35, Try.underlying36, Try.underlying47, Try.underlying55, Try.underlying83, Try.underlying84, Try.underlying97, Try.underlying106, e_skip, e_label, e_ret, e_exit, e_seq, e_cond, e_block, e_region, seqK_normal, seqK_ret, seqK_exit, blkK_normal, blkK_ret, blkK_exit, condK_some, regK_true, regK_false, e_nil, e_cons, gateK_go, gateK_skip, gateK_ask, pickK_some, exK_some, x_pick, x_move, x_assign, x_alloc, x_box, x_build, x_buildSlice, x_load, x_store, x_binOp, x_unOp, x_convert, x_makeSlice, x_slice, x_fieldAddr, x_field, x_indexAddr, x_extract, x_nilCheck, x_call, x_len, x_append, x_min, oMin, x_copy, oCopy, eqAVs, callK_some, done_ret, done_normal, doneO_ret, doneO_normal, endsO_one, endsO_nil, endsO_more, ownAbs, frzAbs, leafs, leafs.leafsL, uniq, idxOf, bk, zipB, Blk.liveB, gate_none, gate_some, gateS_none, gateS_some, gateV_bool, gateV_undef, boolOf, evA, putT, refn, fpD, oBin, oUn, upsl, upl, up, ups, lk, dstsOf, resL, resA, packA, oLoadQ, oLoadKid, oStoreQ, oStoreTree, oBuildSliceQ, oBuildTree, oAppendQ, oAppendTree, isTr, isTrP, tkd, tkds, tkRows, ownOf, nodupB, deadL, treeOf, kidAbs, kidBlk, kidRows, TK.isCell, D.toL, oLoad, oStore, oAlloc, oBox, oBuild, oBuildSlice, oMake, oAppend, oIndexAddr, oFieldAddr, oField, oExtract, oNil, oSlice, oLen, oConvert, rowLoad, fillA, fillR, slB, dk, dks, dkRows, frz, loOf, hiOf, lenOf, rowsOf, nilV, lenV, putAt, views, viewsOk, CK.av, CK.ok, AV.cells, AV.one, Value.oneCell', Value.cells, pureAbs, nrm, nrm.nrmL, hpAt, sh, AV.ren, AV.ren.renL, Blk.ren, fpOf, footO, foot, blkIds, AV.ids, AV.ids.idsL, Op.operands, Call.operands, List.find?_cons, List.find?_nil, Nat.reduceBEq, beq_self_eq_true, List.map_cons, List.map_nil, List.getD_cons_zero, List.getD_cons_succ, List.getD_nil, List.set_cons_zero, List.set_cons_succ, List.length_cons, List.length_nil, List.replicate, List.cons_append, List.nil_append, List.append_nil, List.getElem?_cons_zero, List.getElem?_cons_succ, List.getElem?_toArray, List.getElem?_nil, List.take_zero, List.take_succ_cons, List.take_nil, List.drop_zero, List.drop_succ_cons, List.drop_nil, List.headD_cons, List.tail_cons, List.flatten_cons, List.flatten_nil, List.flatMap_cons, List.flatMap_nil, List.toList_toArray, Array.toList_append, Option.bind_some, Option.map_some, Option.map_none, Option.isSome_some, List.all_nil, List.all_cons, Bool.and_self, Bool.and_true, Bool.true_and, true_and, and_true, ↓reduceIte, List.size_toArray, Bool.false_eq_true, Bool.true_eq_false, false_implies, true_implies, Bool.not_true, Bool.not_false, and_self, implies_true, decide_true, decide_false, Nat.reduceAdd, Nat.reduceMul, Nat.reduceLT, Nat.reduceSub, Nat.reduceLeDiff, Nat.reduceEqDiff, eq_self, ne_eq, not_false_eq_true, false_and, and_false, reduceCtorEq, List.filter_nil, List.filter_cons, List.isEmpty_nil, List.isEmpty_cons, bne_self_eq_false, Nat.reduceBneDiff, Nat.lt_add_one, Nat.zero_lt_succ, List.append_assoc, Nat.zero_le, and_self_iff, Int.reduceToNat, List.any_nil, List.any_cons, List.filterMap_nil, List.filterMap_cons, List.contains_nil, List.contains_cons, Bool.or_false, Bool.false_or, Bool.or_true, Bool.true_or, Bool.false_and, Bool.and_false, decide_eq_true_eq, decide_eq_false_iff_not, beq_iff_eq, Int.toNat_natCast, loopK_normal, loopK_exit, loopK_ret]
    (repeat (refine And.intro ?_ ?_; focus (((repeat' apply And.intro) <;> first | exact rowsOf_w _ | omega | (simp only [List.length_append, rowsOf_len, List.length_cons, List.length_nil, marks_len, List.length_take, List.length_drop, List.length_set]; omega) | exact ⟨_, rfl⟩ | (refine ⟨_, rfl, ?_⟩; omega) | (refine ⟨_, rfl, ?_⟩; simp only [List.length_append, rowsOf_len, List.length_cons, List.length_nil, marks_len, List.length_take, List.length_drop, List.length_set]; omega) | kernel_rfl | (simp; done)); done)))
    refine e_loop _ _ _ _ _ _ _ _ (fun k : Nat => [.ptr 0 0, .v (.int .i64 n), .any, .any, .ptr 1 0, .l 9 (pRows C), .any, .ptr 2 0, .v (.int .i64 (k : Int))] ++ List.replicate (Try.f50.ntmps - 9) .any) (fun k => [(0, .var 84 [.l 1 (rowsOfBytes xs), .v (.int .i64 (q + (k : Int)))]), (1, .var 36 [.v (.slice none 0 0), .v (.int .i64 0)]), (2, .var 36 [.own 3, .v (.int .i64 u)]), (3, .sl 24 9 (pRows (selP xs C q k)))]) (fun k => k ≤ C.length) (fun k => C.length - k) 4 (fun k => by simp) ?_ fun k hk' => ?_
    · exact ⟨0, [(0, some 0), (1, some _), (2, some _), (3, none)], Nat.zero_le _, ⟨⟨⟨rfl, rfl, rfl⟩, ⟨rfl, rfl, rfl⟩, trivial, trivial, ⟨rfl, rfl, rfl⟩, ⟨rfl, rfl, rfl⟩, trivial, ⟨rfl, rfl, rfl⟩, ⟨rfl, rfl, rfl⟩, fitT_rep _ _ rfl⟩, ⟨.inl (by rw [show q + ((0 : Nat) : Int) = q from by omega]; rfl), rfl, rfl, rfl, .inl rfl, rfl, rfl, rfl, .inl rfl, rfl, rfl, rfl, ⟨by omega, rfl⟩, rfl, rfl, rfl, trivial⟩, by simp [rn, hpAt]⟩, by simp [keepIds, rn]⟩
    have w2 : IntKind.i64.wrap ((k : Int) + 1) = ((k + 1 : Nat) : Int) := by rw [wrap_id] <;> omega
    have hsl := selP_len xs C q k
    have hqk : q + (k : Int) + 1 = q + ((k + 1 : Nat) : Int) := by omega
    have wc : IntKind.i64.wrap ((C.length : Int) - 1) = (C.length : Int) - 1 := wrap_id (by omega) (by omega)
    by_cases hk : k < C.length
    · have hrow := pRows_get C k hk
      have hlt : ((k : Int) < (C.length : Int)) = True := eq_true (by omega)
      have h0 : (0 ≤ (k : Int)) = True := eq_true (by omega)
      have e1 : pRows (selP xs C q k) ++ [[D.v (.int .i64 C[k].f), D.v (.int .i64 C[k].t), D.v (.int .i64 C[k].p), D.v (.int .i64 C[k].h), D.v (.int .i64 C[k].i), D.v (.int .i64 C[k].a), D.v (.bool C[k].m), D.v (.bool C[k].u), D.l 1 (rowsOfBytes C[k].d)]] = pRows (selP xs C q k ++ [C[k]]) := pRows_app _ [C[k]]
      have hsel : selP xs C q (k + 1) = if 0 < pickV xs (q + (k : Int)) 3 ∨ ((selP xs C q k).length = 0 ∧ k + 1 = C.length) then selP xs C q k ++ [C[k]] else selP xs C q k := by
        rw [selP, List.getD_eq_getElem?_getD, List.getElem?_eq_getElem hk]; rfl
      simp (maxSteps := 3000000) only [Try.f50, hpt, g_long, g_pick, g_odd, ocOf, g_sPacketCut, hrow, hlt, h0, e1, w2, wc, hqk, D.toI, dB, D.toB, D.toL, pRow, bytesOf_rows, rowsOf_len, pRows_len, hx, doneL_ret, doneL_normal, tY2, tY3, tY4, tY5, tY9, tY12, tY21, tY22, tY23, tY24, tY27, tY35, tY36, tY47, tY55, tY83, tY84, tY97, tY106, Try.underlying2, Try.underlying3, Try.underlying4, Try.underlying5, Try.underlying9, Try.underlying12, Try.underlying21, Try.underlying22, Try.underlying23, Try.underlying24, Try.underlying27, Try.underlying35, Try.underlying36, Try.underlying47, Try.underlying55, Try.underlying83, Try.underlying84, Try.underlying97, Try.underlying106, e_skip, e_label, e_ret, e_exit, e_seq, e_cond, e_block, e_region, seqK_normal, seqK_ret, seqK_exit, blkK_normal, blkK_ret, blkK_exit, condK_some, regK_true, regK_false, e_nil, e_cons, gateK_go, gateK_skip, gateK_ask, pickK_some, exK_some, x_pick, x_move, x_assign, x_alloc, x_box, x_build, x_buildSlice, x_load, x_store, x_binOp, x_unOp, x_convert, x_makeSlice, x_slice, x_fieldAddr, x_field, x_indexAddr, x_extract, x_nilCheck, x_call, x_len, x_append, x_min, oMin, x_copy, oCopy, eqAVs, callK_some, done_ret, done_normal, doneO_ret, doneO_normal, endsO_one, endsO_nil, endsO_more, ownAbs, frzAbs, leafs, leafs.leafsL, uniq, idxOf, bk, zipB, Blk.liveB, gate_none, gate_some, gateS_none, gateS_some, gateV_bool, gateV_undef, boolOf, evA, putT, refn, fpD, oBin, oUn, upsl, upl, up, ups, lk, dstsOf, resL, resA, packA, oLoadQ, oLoadKid, oStoreQ, oStoreTree, oBuildSliceQ, oBuildTree, oAppendQ, oAppendTree, isTr, isTrP, tkd, tkds, tkRows, ownOf, nodupB, deadL, treeOf, kidAbs, kidBlk, kidRows, TK.isCell, D.toL, oLoad, oStore, oAlloc, oBox, oBuild, oBuildSlice, oMake, oAppend, oIndexAddr, oFieldAddr, oField, oExtract, oNil, oSlice, oLen, oConvert, rowLoad, fillA, fillR, slB, dk, dks, dkRows, frz, loOf, hiOf, lenOf, rowsOf, nilV, lenV, putAt, views, viewsOk, CK.av, CK.ok, AV.cells, AV.one, Value.oneCell', Value.cells, pureAbs, nrm, nrm.nrmL, hpAt, sh, AV.ren, AV.ren.renL, Blk.ren, fpOf, footO, foot, blkIds, AV.ids, AV.ids.idsL, Op.operands, Call.operands, List.find?_cons, List.find?_nil, Nat.reduceBEq, beq_self_eq_true, List.map_cons, List.map_nil, List.getD_cons_zero, List.getD_cons_succ, List.getD_nil, List.set_cons_zero, List.set_cons_succ, List.length_cons, List.length_nil, List.replicate, List.cons_append, List.nil_append, List.append_nil, List.getElem?_cons_zero, List.getElem?_cons_succ, List.getElem?_toArray, List.getElem?_nil, List.take_zero, List.take_succ_cons, List.take_nil, List.drop_zero, List.drop_succ_cons, List.drop_nil, List.headD_cons, List.tail_cons, List.flatten_cons, List.flatten_nil, List.flatMap_cons, List.flatMap_nil, List.toList_toArray, Array.toList_append, Option.bind_some, Option.map_some, Option.map_none, Option.isSome_some, List.all_nil, List.all_cons, Bool.and_self, Bool.and_true, Bool.true_and, true_and, and_true, ↓reduceIte, List.size_toArray, Bool.false_eq_true, Bool.true_eq_false, false_implies, true_implies, Bool.not_true, Bool.not_false, and_self, implies_true, decide_true, decide_false, Nat.reduceAdd, Nat.reduceMul, Nat.reduceLT, Nat.reduceSub, Nat.reduceLeDiff, Nat.reduceEqDiff, eq_self, ne_eq, not_false_eq_true, false_and, and_false, reduceCtorEq, List.filter_nil, List.filter_cons, List.isEmpty_nil, List.isEmpty_cons, bne_self_eq_false, Nat.reduceBneDiff, Nat.lt_add_one, Nat.zero_lt_succ, List.append_assoc, Nat.zero_le, and_self_iff, Int.reduceToNat, List.any_nil, List.any_cons, List.filterMap_nil, List.filterMap_cons, List.contains_nil, List.contains_cons, Bool.or_false, Bool.false_or, Bool.or_true, Bool.true_or, Bool.false_and, Bool.and_false, decide_eq_true_eq, decide_eq_false_iff_not, beq_iff_eq, Int.toNat_natCast, loopK_normal, loopK_exit, loopK_ret]
      refine ⟨by omega, ?_⟩
      by_cases g1 : pickV xs (q + (k : Int)) 3 > 0
      · rw [if_neg (by omega)]
        have hs : selP xs C q (k + 1) = selP xs C q k ++ [C[k]] := by rw [hsel, if_pos (.inl g1)]
        refine ⟨⟨by omega, by omega, by simp⟩, by kernel_rfl, ?_⟩
        rw [← hs]
        exact ⟨k + 1, [(0, some 0), (1, some _), (2, some _), (3, some _)], by omega, by omega, ⟨⟨⟨rfl, rfl, rfl⟩, ⟨rfl, rfl, rfl⟩, trivial, trivial, ⟨rfl, rfl, rfl⟩, ⟨rfl, rfl, rfl⟩, trivial, ⟨rfl, rfl, rfl⟩, ⟨rfl, rfl, rfl⟩, fitT_rep _ _ rfl⟩, ⟨.inl rfl, rfl, rfl, rfl, .inl rfl, rfl, rfl, rfl, .inl rfl, rfl, rfl, rfl, .inl rfl, rfl, rfl, rfl, trivial⟩, by simp [rn, hpAt]⟩, by simp [keepIds, rn]⟩
      · rw [if_pos g1]
        by_cases g2 : ((selP xs C q k).length : Int) = 0
        · rw [if_pos g2]
          by_cases g3 : (k : Int) = (C.length : Int) - 1
          · rw [if_pos g3]
            have hs : selP xs C q (k + 1) = selP xs C q k ++ [C[k]] := by rw [hsel, if_pos (.inr ⟨by omega, by omega⟩)]
            refine ⟨⟨by omega, by omega, by simp⟩, by kernel_rfl, ?_⟩
            rw [← hs]
            exact ⟨k + 1, [(0, some 0), (1, some _), (2, some _), (3, some _)], by omega, by omega, ⟨⟨⟨rfl, rfl, rfl⟩, ⟨rfl, rfl, rfl⟩, trivial, trivial, ⟨rfl, rfl, rfl⟩, ⟨rfl, rfl, rfl⟩, trivial, ⟨rfl, rfl, rfl⟩, ⟨rfl, rfl, rfl⟩, fitT_rep _ _ rfl⟩, ⟨.inl rfl, rfl, rfl, rfl, .inl rfl, rfl, rfl, rfl, .inl rfl, rfl, rfl, rfl, .inl rfl, rfl, rfl, rfl, trivial⟩, by simp [rn, hpAt]⟩, by simp [keepIds, rn]⟩
          · rw [if_neg g3]
            have hs : selP xs C q (k + 1) = selP xs C q k := by rw [hsel, if_neg (by omega)]
            rw [← hs]
            exact ⟨k + 1, [(0, some 0), (1, some _), (2, some _), (3, some _)], by omega, by omega, ⟨⟨⟨rfl, rfl, rfl⟩, ⟨rfl, rfl, rfl⟩, trivial, trivial, ⟨rfl, rfl, rfl⟩, ⟨rfl, rfl, rfl⟩, trivial, ⟨rfl, rfl, rfl⟩, ⟨rfl, rfl, rfl⟩, fitT_rep _ _ rfl⟩, ⟨.inl rfl, rfl, rfl, rfl, .inl rfl, rfl, rfl, rfl, .inl rfl, rfl, rfl, rfl, .inl rfl, rfl, rfl, rfl, trivial⟩, by simp [rn, hpAt]⟩, by simp [keepIds, rn]⟩
        · rw [if_neg g2]
          have hs : selP xs C q (k + 1) = selP xs C q k := by rw [hsel, if_neg (by omega)]
          rw [← hs]
          exact ⟨k + 1, [(0, some 0), (1, some _), (2, some _), (3, some _)], by omega, by omega, ⟨⟨⟨rfl, rfl, rfl⟩, ⟨rfl, rfl, rfl⟩, trivial, trivial, ⟨rfl, rfl, rfl⟩, ⟨rfl, rfl, rfl⟩, trivial, ⟨rfl, rfl, rfl⟩, ⟨rfl, rfl, rfl⟩, fitT_rep _ _ rfl⟩, ⟨.inl rfl, rfl, rfl, rfl, .inl rfl, rfl, rfl, rfl, .inl rfl, rfl, rfl, rfl, .inl rfl, rfl, rfl, rfl, trivial⟩, by simp [rn, hpAt]⟩, by simp [keepIds, rn]⟩
    · have hlt : ((k : Int) < (C.length : Int)) = False := eq_false (by omega)
      obtain rfl : k = C.length := by omega
      obtain ⟨S, hS⟩ : ∃ S, selP xs C q C.length = S := ⟨_, rfl⟩
      rw [hSS, hS] at hsb
      rw [hS] at hVV
      obtain ⟨w, hw⟩ : ∃ w, q + (C.length : Int) = w := ⟨_, rfl⟩
      rw [hw] at hVV
      have hS0 : 0 < S.length := hsb.1.1
      have hS48 := hsb.1.2
      have hrow0 := pRows_get S 0 hS0
      have hg0 : S.getD 0 pk0 = S[0] := by rw [List.getD_eq_getElem?_getD, List.getElem?_eq_getElem hS0]; rfl
      have hset : ∀ (f t p h i a : Int) (m u : Bool) (d : List UInt8), (pRows S).set 0 [D.v (.int .i64 f), D.v (.int .i64 t), D.v (.int .i64 p), D.v (.int .i64 h), D.v (.int .i64 i), D.v (.int .i64 a), D.v (.bool m), D.v (.bool u), D.l 1 (rowsOfBytes d)] = pRows (⟨f, t, p, h, i, a, m, u, d⟩ :: S.drop 1) := fun f t p h i a m u d => by
        match S, hS0 with
        | y :: tl, _ => rfl
      have eqS : pRows S ++ [[D.v (.int .i64 S[0].f), D.v (.int .i64 S[0].t), D.v (.int .i64 S[0].p), D.v (.int .i64 S[0].h), D.v (.int .i64 S[0].i), D.v (.int .i64 S[0].a), D.v (.bool S[0].m), D.v (.bool S[0].u), D.l 1 (rowsOfBytes S[0].d)]] = pRows (S ++ [S[0]]) := pRows_app _ [S[0]]
      have h0 : ((0 : Int) < (S.length : Int)) = True := eq_true (by omega)
      simp (maxSteps := 3000000) only [Try.f50, hpt, g_long, g_pick, g_odd, ocOf, g_sPacketCut, hlt, he', hS, hw, h0, hrow0, eqS, hset, D.toI, dB, D.toB, D.toL, pRow, List.take_succ_cons, List.take_zero, List.drop_succ_cons, List.drop_zero, List.cons_append, List.nil_append, bytesOf_rows, rowsOf_len, pRows_len, hx, doneL_ret, doneL_normal, tY2, tY3, tY4, tY5, tY9, tY12, tY21, tY22, tY23, tY24, tY27, tY35, tY36, tY47, tY55, tY83, tY84, tY97, tY106, Try.underlying2, Try.underlying3, Try.underlying4, Try.underlying5, Try.underlying9, Try.underlying12, Try.underlying21, Try.underlying22, Try.underlying23, Try.underlying24, Try.underlying27, Try.underlying35, Try.underlying36, Try.underlying47, Try.underlying55, Try.underlying83, Try.underlying84, Try.underlying97, Try.underlying106, e_skip, e_label, e_ret, e_exit, e_seq, e_cond, e_block, e_region, seqK_normal, seqK_ret, seqK_exit, blkK_normal, blkK_ret, blkK_exit, condK_some, regK_true, regK_false, e_nil, e_cons, gateK_go, gateK_skip, gateK_ask, pickK_some, exK_some, x_pick, x_move, x_assign, x_alloc, x_box, x_build, x_buildSlice, x_load, x_store, x_binOp, x_unOp, x_convert, x_makeSlice, x_slice, x_fieldAddr, x_field, x_indexAddr, x_extract, x_nilCheck, x_call, x_len, x_append, x_min, oMin, x_copy, oCopy, eqAVs, callK_some, done_ret, done_normal, doneO_ret, doneO_normal, endsO_one, endsO_nil, endsO_more, ownAbs, frzAbs, leafs, leafs.leafsL, uniq, idxOf, bk, zipB, Blk.liveB, gate_none, gate_some, gateS_none, gateS_some, gateV_bool, gateV_undef, boolOf, evA, putT, refn, fpD, oBin, oUn, upsl, upl, up, ups, lk, dstsOf, resL, resA, packA, oLoadQ, oLoadKid, oStoreQ, oStoreTree, oBuildSliceQ, oBuildTree, oAppendQ, oAppendTree, isTr, isTrP, tkd, tkds, tkRows, ownOf, nodupB, deadL, treeOf, kidAbs, kidBlk, kidRows, TK.isCell, D.toL, oLoad, oStore, oAlloc, oBox, oBuild, oBuildSlice, oMake, oAppend, oIndexAddr, oFieldAddr, oField, oExtract, oNil, oSlice, oLen, oConvert, rowLoad, fillA, fillR, slB, dk, dks, dkRows, frz, loOf, hiOf, lenOf, rowsOf, nilV, lenV, putAt, views, viewsOk, CK.av, CK.ok, AV.cells, AV.one, Value.oneCell', Value.cells, pureAbs, nrm, nrm.nrmL, hpAt, sh, AV.ren, AV.ren.renL, Blk.ren, fpOf, footO, foot, blkIds, AV.ids, AV.ids.idsL, Op.operands, Call.operands, List.find?_cons, List.find?_nil, Nat.reduceBEq, beq_self_eq_true, List.map_cons, List.map_nil, List.getD_cons_zero, List.getD_cons_succ, List.getD_nil, List.set_cons_zero, List.set_cons_succ, List.length_cons, List.length_nil, List.replicate, List.cons_append, List.nil_append, List.append_nil, List.getElem?_cons_zero, List.getElem?_cons_succ, List.getElem?_toArray, List.getElem?_nil, List.take_zero, List.take_succ_cons, List.take_nil, List.drop_zero, List.drop_succ_cons, List.drop_nil, List.headD_cons, List.tail_cons, List.flatten_cons, List.flatten_nil, List.flatMap_cons, List.flatMap_nil, List.toList_toArray, Array.toList_append, Option.bind_some, Option.map_some, Option.map_none, Option.isSome_some, List.all_nil, List.all_cons, Bool.and_self, Bool.and_true, Bool.true_and, true_and, and_true, ↓reduceIte, List.size_toArray, Bool.false_eq_true, Bool.true_eq_false, false_implies, true_implies, Bool.not_true, Bool.not_false, and_self, implies_true, decide_true, decide_false, Nat.reduceAdd, Nat.reduceMul, Nat.reduceLT, Nat.reduceSub, Nat.reduceLeDiff, Nat.reduceEqDiff, eq_self, ne_eq, not_false_eq_true, false_and, and_false, reduceCtorEq, List.filter_nil, List.filter_cons, List.isEmpty_nil, List.isEmpty_cons, bne_self_eq_false, Nat.reduceBneDiff, Nat.lt_add_one, Nat.zero_lt_succ, List.append_assoc, Nat.zero_le, and_self_iff, Int.reduceToNat, List.any_nil, List.any_cons, List.filterMap_nil, List.filterMap_cons, List.contains_nil, List.contains_cons, Bool.or_false, Bool.false_or, Bool.or_true, Bool.true_or, Bool.false_and, Bool.and_false, decide_eq_true_eq, decide_eq_false_iff_not, beq_iff_eq, Int.toNat_natCast, loopK_normal, loopK_exit, loopK_ret]
      refine ⟨by omega, ?_⟩
      rw [dpE, hg0] at hVV
      by_cases ho : (decide (0 < n) && pickV xs w n == n - 1) = true
      · rw [if_pos ho]
        rw [if_pos ho] at hVV
        refine ⟨by omega, ?_⟩
        by_cases g0 : pickV xs (w + e) 4 = 0
        · rw [if_pos g0]
          rw [if_pos g0] at hVV
          subst hVV
          repeat' first
            | refine And.intro (by omega) ?_
            | refine And.intro hS0 ?_
            | refine And.intro ⟨by omega, by omega, by simp⟩ ?_
            | refine And.intro (by kernel_rfl) ?_
          exact ⟨_, rfl, rfl, rfl⟩
        · rw [if_neg g0]
          rw [if_neg g0] at hVV
          by_cases g1 : pickV xs (w + e) 4 = 1
          · rw [if_pos g1]
            rw [if_pos g1] at hVV
            subst hVV
            repeat' first
              | refine And.intro (by omega) ?_
              | refine And.intro hS0 ?_
              | refine And.intro ⟨by omega, by omega, by simp⟩ ?_
              | refine And.intro (by kernel_rfl) ?_
            exact ⟨_, rfl, rfl, rfl⟩
          · rw [if_neg g1]
            rw [if_neg g1] at hVV
            by_cases g2 : pickV xs (w + e) 4 = 2
            · rw [if_pos g2]
              rw [if_pos g2] at hVV
              subst hVV
              repeat' first
                | refine And.intro (by omega) ?_
                | refine And.intro hS0 ?_
                | refine And.intro ⟨by omega, by omega, by simp⟩ ?_
                | refine And.intro (by kernel_rfl) ?_
              exact ⟨_, rfl, rfl, rfl⟩
            · rw [if_neg g2]
              rw [if_neg g2] at hVV
              subst hVV
              repeat' first
                | refine And.intro (by omega) ?_
                | refine And.intro hS0 ?_
                | refine And.intro ⟨by omega, by omega, by simp⟩ ?_
                | refine And.intro (by kernel_rfl) ?_
              exact ⟨_, rfl, rfl, rfl⟩
      · rw [if_neg ho]
        rw [if_neg ho] at hVV
        subst hVV
        exact ⟨_, rfl, rfl, rfl⟩
  · cases hg
end Go.Proofs.Ytdeldmagmljacaa
