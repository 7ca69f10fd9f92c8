import Derived.Test.YtheikjkfffepnaaNe
namespace Go.Proofs.Ytheikjkfffepnaa
open Go.RowKit
set_option linter.unusedSimpArgs false
set_option linter.unusedVariables false

/-! the program's NearHear with memory of its own -/
def hearKs (ok want : Bool) (ks : List KE) (e : KE) : List KE := if ok = true then (if want = true then kOut ks e.a ++ [e] else ks) else []
def hearHs (ok want : Bool) (hs : List HE) (a : Int) : List HE := if ok = true then (if want = true then hOut hs a else hs) else []
def hearSs (ok want : Bool) (hs : List HE) (a : Int) : List (List UInt8) := if ok = true then (if want = true then sentOf hs a else []) else []
def hearSl (ok want : Bool) (n : Nat) : AV := if ok = true then (if want = true then (if n < 4 then .own 0 else .sub 0 1 5) else .own 0) else .own 0
theorem hearSl_flat (ok want : Bool) (n : Nat) : flatA (.tup [.agg [hearSl ok want n, .own 1], .own 2]) = true := by
  unfold hearSl
  repeat' split
  all_goals rfl
theorem hearSl_ids (ok want : Bool) (n : Nat) : ∀ k ∈ (hearSl ok want n).ids, k < 3 := by
  intro k hk
  unfold hearSl at hk
  repeat' split at hk
  all_goals (simp [AV.ids] at hk; omega)
def g_hearT : PC := fun args => match args with
  | [.agg [.l _ rows, .l _ rows'], .v (.int .i64 own), .agg [.v (.int .i64 qk), .v (.int .i64 ql), .v (.int .i64 qa), .v (.int .i64 qw)], .v (.int .i64 now)] => some ((∃ ks, rows = kRows ks ∧ ks.length ≤ 1048576) ∧ (∃ hs, rows' = hRows hs ∧ hMid hs),
      .tup [.agg [hearSl (rOk (ksOf rows) (hsOf rows') qk ql qa qw now) (wantB (ksOf rows) (hsOf rows') own qa qw) (kOut (ksOf rows) qa).length, .own 1], .own 2],
      [.sl 50 3 (kRows (hearKs (rOk (ksOf rows) (hsOf rows') qk ql qa qw now) (wantB (ksOf rows) (hsOf rows') own qa qw) (ksOf rows) ⟨qa, ql, now + 20⟩)),
       .tr .whole 53 2 [.cell, .sl 5 1 [.cell]] (hRows (hearHs (rOk (ksOf rows) (hsOf rows') qk ql qa qw now) (wantB (ksOf rows) (hsOf rows') own qa qw) (hsOf rows') qa)),
       .tr .whole 51 1 [.sl 5 1 [.cell]] (sRows (hearSs (rOk (ksOf rows) (hsOf rows') qk ql qa qw now) (wantB (ksOf rows) (hsOf rows') own qa qw) (hsOf rows') qa))])
  | _ => none
def nfe : List (FuncId × Abs) := [(23, pureAbs g_nearOk), (24, pureAbs g_queryOk), (25, pureAbs g_isNearTime), (27, pureAbs g_knownAt), (28, pureAbs g_nearCopiedT), (26, pureAbs g_heldForT), (30, pureAbs g_heldWithoutT), (29, pureAbs g_knownWith)]
theorem nfe_ok : ∀ p ∈ nfe, CallOk Try.prog p.1 p.2 := by
  intro p hp
  simp only [nfe, List.mem_cons, List.not_mem_nil, or_false] at hp
  rcases hp with rfl | rfl | rfl | rfl | rfl | rfl | rfl | rfl
  · exact implNearOk_ok.call
  · exact implQueryOk_ok.call
  · exact isNearTime_ok.call
  · exact knownAt_ok.call
  · exact nearCopiedT_ok.call
  · exact heldForT_ok.call
  · exact heldWithoutT_ok.call
  · exact knownWithP_ok.call
set_option maxHeartbeats 4000000 in
set_option maxRecDepth 100000 in
theorem implNearHearT_ok : PureOk Try.prog 8 g_hearT := by
  refine PureOk.of_vc (G := nfe) nfe_ok mixed Try.func8 (by kernel_rfl) rfl ?_
  intro args cnd r bs hg hc
  unfold g_hearT at hg
  split at hg
  · rename_i sz rows sz' rows' own qk ql qa qw now
    cases hg
    obtain ⟨⟨ks, rfl, hk⟩, hs, rfl, hh, hd⟩ := hc
    rw [ksOf_rows, hsOf_rows]
    refine ⟨⟨hearSl_flat _ _ _, by simpa [flatB] using kRows_flat _, fun k hk' => by
      simp [AV.ids, AV.ids.idsL] at hk'
      rcases hk' with h | rfl | rfl
      · exact hearSl_ids _ _ _ k h
      · simp
      · simp⟩, [.agg [.l 3 (kRows ks), .l 2 (hRows hs)], .v (.int .i64 own), .agg [.v (.int .i64 qk), .v (.int .i64 ql), .v (.int .i64 qa), .v (.int .i64 qw)], .v (.int .i64 now)], rfl, fun w vs h => CvL.ok (.cons (.cons (.l _ _ _ (kRows_w ks)) (.cons (.l _ _ _ (hRows_w hs)) .nil)) (.cons (.refl _) (.cons (.refl _) (.cons (.refl _) .nil)))) h, ?_⟩
    have hdum : ((7 : Int) = 11) = False := eq_false (by omega)
    have k1 : ∃ ks', kRows ks = kRows ks' ∧ ks'.length ≤ 1099511627776 := ⟨_, rfl, by omega⟩
    have k2 : ∃ hs', hRows hs = hRows hs' ∧ hs'.length ≤ 1099511627776 := ⟨_, rfl, by omega⟩
    by_cases hs1 : rOk ks hs qk ql qa qw now = true
    · have hok' := hs1
      simp only [rOk, Bool.and_eq_true, decide_eq_true_eq] at hok'
      obtain ⟨h1, h2, h4⟩ := hok'
      have e2 : inZ now 0 999980 = true := by unfold inZ; exact decide_eq_true h4
      have w20 : IntKind.i64.wrap (now + 20) = now + 20 := wrap_id (by omega) (by omega)
      have hk4 := (nOkB_k h1).1
      have hcs : ((kAt ks qa < 0) = False ∧ ((7 : Int) = 11) = False ∧ ((7 : Int) = 11) = False ∧ wantB ks hs own qa qw = true ∧ ((kOut ks qa).length < 4) = True ∧ heldWithR (kOut ks qa).length = .own 0) ∨ ((kAt ks qa < 0) = False ∧ ((7 : Int) = 11) = False ∧ ((7 : Int) = 11) = False ∧ wantB ks hs own qa qw = true ∧ ((kOut ks qa).length < 4) = False ∧ heldWithR (kOut ks qa).length = .sub 0 1 5) ∨ ((kAt ks qa < 0) = True ∧ (qw != own) = false ∧ ((7 : Int) = 11) = False ∧ wantB ks hs own qa qw = true ∧ ((kOut ks qa).length < 4) = True ∧ heldWithR (kOut ks qa).length = .own 0) ∨ ((kAt ks qa < 0) = True ∧ (qw != own) = false ∧ ((7 : Int) = 11) = False ∧ wantB ks hs own qa qw = true ∧ ((kOut ks qa).length < 4) = False ∧ heldWithR (kOut ks qa).length = .sub 0 1 5) ∨ ((kAt ks qa < 0) = True ∧ (qw != own) = true ∧ (((sentOf hs qa).length : Int) = 0) = False ∧ wantB ks hs own qa qw = true ∧ ((kOut ks qa).length < 4) = True ∧ heldWithR (kOut ks qa).length = .own 0) ∨ ((kAt ks qa < 0) = True ∧ (qw != own) = true ∧ (((sentOf hs qa).length : Int) = 0) = False ∧ wantB ks hs own qa qw = true ∧ ((kOut ks qa).length < 4) = False ∧ heldWithR (kOut ks qa).length = .sub 0 1 5) ∨ ((kAt ks qa < 0) = True ∧ (qw != own) = true ∧ (((sentOf hs qa).length : Int) = 0) = True ∧ wantB ks hs own qa qw = false ∧ ((7 : Int) = 11) = False ∧ ((7 : Int) = 11) = False) := by
        have hF : (((kOut ks qa).length < 4) = True ∧ heldWithR (kOut ks qa).length = .own 0) ∨ (((kOut ks qa).length < 4) = False ∧ heldWithR (kOut ks qa).length = .sub 0 1 5) := by
          by_cases hf : (kOut ks qa).length < 4
          · exact .inl ⟨eq_true hf, by rw [heldWithR, if_pos hf]⟩
          · exact .inr ⟨eq_false hf, by rw [heldWithR, if_neg hf]⟩
        by_cases hkl : (kAt ks qa < 0)
        · have hka : (ks.any fun e => e.a == qa) = false := Bool.eq_false_iff.2 fun h => (kAny_iff ks qa).1 h hkl
          by_cases hq : qw = own
          · have hw : wantB ks hs own qa qw = true := by simp [wantB, hq]
            rcases hF with ⟨f1, f2⟩ | ⟨f1, f2⟩
            · exact .inr (.inr (.inl ⟨eq_true hkl, by simp [hq], hdum, hw, f1, f2⟩))
            · exact .inr (.inr (.inr (.inl ⟨eq_true hkl, by simp [hq], hdum, hw, f1, f2⟩)))
          · have hq' : (qw == own) = false := by simpa using hq
            by_cases hsn : (sentOf hs qa).length = 0
            · have hha : (hs.any fun h => h.a == qa) = false := Bool.eq_false_iff.2 fun h => (hAny_iff hs qa).1 h hsn
              exact .inr (.inr (.inr (.inr (.inr (.inr (⟨eq_true hkl, by simp [hq], eq_true (by omega), by rw [wantB, hka, hha, hq']; rfl, hdum, hdum⟩))))))
            · have hw : wantB ks hs own qa qw = true := by rw [wantB, (hAny_iff hs qa).2 hsn, Bool.or_true]
              rcases hF with ⟨f1, f2⟩ | ⟨f1, f2⟩
              · exact .inr (.inr (.inr (.inr (.inl ⟨eq_true hkl, by simp [hq], eq_false (by omega), hw, f1, f2⟩))))
              · exact .inr (.inr (.inr (.inr (.inr (.inl ⟨eq_true hkl, by simp [hq], eq_false (by omega), hw, f1, f2⟩)))))
        · have hw : wantB ks hs own qa qw = true := by rw [wantB, (kAny_iff ks qa).2 hkl]; simp
          rcases hF with ⟨f1, f2⟩ | ⟨f1, f2⟩
          · exact .inl ⟨eq_false hkl, hdum, hdum, hw, f1, f2⟩
          · exact .inr (.inl ⟨eq_false hkl, hdum, hdum, hw, f1, f2⟩)
      rcases hcs with ⟨c1, c2, c3, c4, c5, c6⟩ | ⟨c1, c2, c3, c4, c5, c6⟩ | ⟨c1, c2, c3, c4, c5, c6⟩ | ⟨c1, c2, c3, c4, c5, c6⟩ | ⟨c1, c2, c3, c4, c5, c6⟩ | ⟨c1, c2, c3, c4, c5, c6⟩ | ⟨c1, c2, c3, c4, c5, c6⟩ <;> simp (maxSteps := 3000000) only [Try.f8, nfe, g_nearOk, g_queryOk, g_isNearTime, g_knownAt, g_nearCopiedT, g_heldForT, g_heldWithoutT, g_knownWith, ksOf_rows, hsOf_rows, kRows_len, hRows_len, sRows_len, hearKs, hearHs, hearSs, hearSl, hdum, hs1, h1, h2, e2, w20, c1, c2, c3, c4, c5, c6, tY2, tY3, tY4, tY5, tY9, tY12, tY21, tY22, tY23, tY24, tY25, tY26, tY27, tY29, tY30, tY31, tY32, tY33, tY37, tY49, tY50, tY51, tY52, tY53, tY68, tY70, tY87, tY96, Try.underlying2, Try.underlying3, Try.underlying4, Try.underlying5, Try.underlying9, Try.underlying12, Try.underlying21, Try.underlying22, Try.underlying23, Try.underlying24, Try.underlying25, Try.underlying26, Try.underlying27, Try.underlying29, Try.underlying30, Try.underlying31, Try.underlying32, Try.underlying33, Try.underlying37, Try.underlying49, Try.underlying50, Try.underlying51, Try.underlying52, Try.underlying53, Try.underlying68, Try.underlying70, Try.underlying87, Try.underlying96, e_skip, e_label, e_ret, e_exit, e_seq, e_cond, e_block, e_region, seqK_normal, seqK_ret, seqK_exit, blkK_normal, blkK_ret, blkK_exit, condK_some, regK_true, regK_false, e_nil, e_cons, gateK_go, gateK_skip, gateK_ask, pickK_some, exK_some, x_pick, x_move, x_assign, x_alloc, x_box, x_build, x_buildSlice, x_load, x_store, x_binOp, x_unOp, x_convert, x_makeSlice, x_slice, x_fieldAddr, x_field, x_indexAddr, x_extract, x_nilCheck, x_call, x_len, x_append, x_min, oMin, x_copy, oCopy, eqAVs, callK_some, done_ret, done_normal, doneO_ret, doneO_normal, endsO_one, endsO_nil, endsO_more, ownAbs, frzAbs, leafs, leafs.leafsL, uniq, idxOf, bk, zipB, Blk.liveB, gate_none, gate_some, gateS_none, gateS_some, gateV_bool, gateV_undef, boolOf, evA, putT, refn, fpD, oBin, oUn, upsl, upl, up, ups, lk, dstsOf, resL, resA, packA, oLoadQ, oLoadKid, oStoreQ, oStoreTree, oBuildSliceQ, oBuildTree, oAppendQ, oAppendTree, isTr, isTrP, tkd, tkds, tkRows, ownOf, nodupB, deadL, treeOf, kidAbs, kidBlk, kidRows, TK.isCell, D.toL, oLoad, oStore, oAlloc, oBox, oBuild, oBuildSlice, oMake, oAppend, oIndexAddr, oFieldAddr, oField, oExtract, oNil, oSlice, oLen, oConvert, rowLoad, fillA, fillR, slB, dk, dks, dkRows, frz, loOf, hiOf, lenOf, rowsOf, nilV, lenV, putAt, views, viewsOk, CK.av, CK.ok, AV.cells, AV.one, Value.oneCell', Value.cells, pureAbs, nrm, nrm.nrmL, hpAt, sh, AV.ren, AV.ren.renL, Blk.ren, fpOf, footO, foot, blkIds, AV.ids, AV.ids.idsL, Op.operands, Call.operands, List.find?_cons, List.find?_nil, Nat.reduceBEq, beq_self_eq_true, List.map_cons, List.map_nil, List.getD_cons_zero, List.getD_cons_succ, List.getD_nil, List.set_cons_zero, List.set_cons_succ, List.length_cons, List.length_nil, List.replicate, List.cons_append, List.nil_append, List.append_nil, List.getElem?_cons_zero, List.getElem?_cons_succ, List.getElem?_toArray, List.getElem?_nil, List.take_zero, List.take_succ_cons, List.take_nil, List.drop_zero, List.drop_succ_cons, List.drop_nil, List.headD_cons, List.tail_cons, List.flatten_cons, List.flatten_nil, List.flatMap_cons, List.flatMap_nil, List.toList_toArray, Array.toList_append, Option.bind_some, Option.map_some, Option.map_none, Option.isSome_some, List.all_nil, List.all_cons, Bool.and_self, Bool.and_true, Bool.true_and, true_and, and_true, ↓reduceIte, List.size_toArray, Bool.false_eq_true, Bool.true_eq_false, false_implies, true_implies, Bool.not_true, Bool.not_false, and_self, implies_true, decide_true, decide_false, Nat.reduceAdd, Nat.reduceMul, Nat.reduceLT, Nat.reduceSub, Nat.reduceLeDiff, Nat.reduceEqDiff, eq_self, ne_eq, not_false_eq_true, false_and, and_false, reduceCtorEq, List.filter_nil, List.filter_cons, List.isEmpty_nil, List.isEmpty_cons, bne_self_eq_false, Nat.reduceBneDiff, Nat.lt_add_one, Nat.zero_lt_succ, List.append_assoc, Nat.zero_le, and_self_iff, Int.reduceToNat, List.any_nil, List.any_cons, List.filterMap_nil, List.filterMap_cons, List.contains_nil, List.contains_cons, Bool.or_false, Bool.false_or, Bool.or_true, Bool.true_or, Bool.false_and, Bool.and_false, decide_eq_true_eq, decide_eq_false_iff_not, beq_iff_eq, Int.toNat_natCast]
      · skip
        repeat' first
          | refine And.intro ⟨k1, k2⟩ ?_
          | refine And.intro k1 ?_
          | refine And.intro ⟨⟨_, rfl, hk⟩, _, rfl, hh, hd⟩ ?_
          | refine And.intro ⟨_, rfl, hk4⟩ ?_
          | refine And.intro ⟨_, rfl, hh, hd⟩ ?_
          | refine And.intro (by kernel_rfl) ?_
        exact ⟨_, [(0, some _), (1, some _), (2, some _)], rfl, ⟨⟨⟨rfl, rfl, rfl⟩, trivial⟩, ⟨.inl rfl, rfl, rfl, rfl, .inl rfl, rfl, rfl, rfl, .inl rfl, rfl, rfl, rfl, trivial⟩, by simp [rn, hpAt]⟩⟩
      · skip
        repeat' first
          | refine And.intro ⟨k1, k2⟩ ?_
          | refine And.intro k1 ?_
          | refine And.intro ⟨⟨_, rfl, hk⟩, _, rfl, hh, hd⟩ ?_
          | refine And.intro ⟨_, rfl, hk4⟩ ?_
          | refine And.intro ⟨_, rfl, hh, hd⟩ ?_
          | refine And.intro (by kernel_rfl) ?_
        exact ⟨_, [(0, some _), (1, some _), (2, some _)], rfl, ⟨⟨⟨rfl, rfl, rfl⟩, trivial⟩, ⟨.inl rfl, rfl, rfl, rfl, .inl rfl, rfl, rfl, rfl, .inl rfl, rfl, rfl, rfl, trivial⟩, by simp [rn, hpAt]⟩⟩
      · skip
        repeat' first
          | refine And.intro ⟨k1, k2⟩ ?_
          | refine And.intro k1 ?_
          | refine And.intro ⟨⟨_, rfl, hk⟩, _, rfl, hh, hd⟩ ?_
          | refine And.intro ⟨_, rfl, hk4⟩ ?_
          | refine And.intro ⟨_, rfl, hh, hd⟩ ?_
          | refine And.intro (by kernel_rfl) ?_
        exact ⟨_, [(0, some _), (1, some _), (2, some _)], rfl, ⟨⟨⟨rfl, rfl, rfl⟩, trivial⟩, ⟨.inl rfl, rfl, rfl, rfl, .inl rfl, rfl, rfl, rfl, .inl rfl, rfl, rfl, rfl, trivial⟩, by simp [rn, hpAt]⟩⟩
      · skip
        repeat' first
          | refine And.intro ⟨k1, k2⟩ ?_
          | refine And.intro k1 ?_
          | refine And.intro ⟨⟨_, rfl, hk⟩, _, rfl, hh, hd⟩ ?_
          | refine And.intro ⟨_, rfl, hk4⟩ ?_
          | refine And.intro ⟨_, rfl, hh, hd⟩ ?_
          | refine And.intro (by kernel_rfl) ?_
        exact ⟨_, [(0, some _), (1, some _), (2, some _)], rfl, ⟨⟨⟨rfl, rfl, rfl⟩, trivial⟩, ⟨.inl rfl, rfl, rfl, rfl, .inl rfl, rfl, rfl, rfl, .inl rfl, rfl, rfl, rfl, trivial⟩, by simp [rn, hpAt]⟩⟩
      · skip
        repeat' first
          | refine And.intro ⟨k1, k2⟩ ?_
          | refine And.intro k1 ?_
          | refine And.intro ⟨⟨_, rfl, hk⟩, _, rfl, hh, hd⟩ ?_
          | refine And.intro ⟨_, rfl, hk4⟩ ?_
          | refine And.intro ⟨_, rfl, hh, hd⟩ ?_
          | refine And.intro (by kernel_rfl) ?_
        exact ⟨_, [(0, some _), (1, some _), (2, some _)], rfl, ⟨⟨⟨rfl, rfl, rfl⟩, trivial⟩, ⟨.inl rfl, rfl, rfl, rfl, .inl rfl, rfl, rfl, rfl, .inl rfl, rfl, rfl, rfl, trivial⟩, by simp [rn, hpAt]⟩⟩
      · skip
        repeat' first
          | refine And.intro ⟨k1, k2⟩ ?_
          | refine And.intro k1 ?_
          | refine And.intro ⟨⟨_, rfl, hk⟩, _, rfl, hh, hd⟩ ?_
          | refine And.intro ⟨_, rfl, hk4⟩ ?_
          | refine And.intro ⟨_, rfl, hh, hd⟩ ?_
          | refine And.intro (by kernel_rfl) ?_
        exact ⟨_, [(0, some _), (1, some _), (2, some _)], rfl, ⟨⟨⟨rfl, rfl, rfl⟩, trivial⟩, ⟨.inl rfl, rfl, rfl, rfl, .inl rfl, rfl, rfl, rfl, .inl rfl, rfl, rfl, rfl, trivial⟩, by simp [rn, hpAt]⟩⟩
      · skip
        repeat' first
          | refine And.intro ⟨k1, k2⟩ ?_
          | refine And.intro k1 ?_
          | refine And.intro ⟨⟨_, rfl, hk⟩, _, rfl, hh, hd⟩ ?_
          | refine And.intro ⟨_, rfl, hk4⟩ ?_
          | refine And.intro ⟨_, rfl, hh, hd⟩ ?_
          | refine And.intro (by kernel_rfl) ?_
        exact ⟨_, [(0, some _), (1, some _), (2, none)], rfl, ⟨⟨⟨rfl, rfl, rfl⟩, trivial⟩, ⟨.inl rfl, rfl, rfl, rfl, .inl rfl, rfl, rfl, rfl, ⟨by omega, rfl, rfl⟩, rfl, rfl, rfl, trivial⟩, by simp [rn, hpAt]⟩⟩
    · have hs2 : rOk ks hs qk ql qa qw now = false := Bool.eq_false_iff.2 hs1
      have hcs : (nOkB ks hs = false ∧ ((7 : Int) = 11) = False ∧ ((7 : Int) = 11) = False) ∨ (nOkB ks hs = true ∧ qB qk ql qa qw = false ∧ ((7 : Int) = 11) = False) ∨ (nOkB ks hs = true ∧ qB qk ql qa qw = true ∧ inZ now 0 999980 = false) := by
        by_cases h1 : nOkB ks hs = true
        · by_cases h2 : qB qk ql qa qw = true
          · refine .inr (.inr ⟨h1, h2, Bool.eq_false_iff.2 fun h4 => hs1 ?_⟩)
            simp only [inZ, decide_eq_true_eq] at h4
            simp only [rOk, h1, h2, Bool.true_and, decide_eq_true_eq]
            omega
          · exact .inr (.inl ⟨h1, Bool.eq_false_iff.2 h2, hdum⟩)
        · exact .inl ⟨Bool.eq_false_iff.2 h1, hdum, hdum⟩
      rcases hcs with ⟨h1, h2, h3⟩ | ⟨h1, h2, h3⟩ | ⟨h1, h2, h3⟩ <;> simp (maxSteps := 3000000) only [Try.f8, nfe, g_nearOk, g_queryOk, g_isNearTime, g_knownAt, g_nearCopiedT, g_heldForT, g_heldWithoutT, g_knownWith, ksOf_rows, hsOf_rows, kRows_len, hRows_len, sRows_len, hearKs, hearHs, hearSs, hearSl, hdum, hs2, h1, h2, h3, Bool.false_eq_true, ↓reduceIte, tY2, tY3, tY4, tY5, tY9, tY12, tY21, tY22, tY23, tY24, tY25, tY26, tY27, tY29, tY30, tY31, tY32, tY33, tY37, tY49, tY50, tY51, tY52, tY53, tY68, tY70, tY87, tY96, Try.underlying2, Try.underlying3, Try.underlying4, Try.underlying5, Try.underlying9, Try.underlying12, Try.underlying21, Try.underlying22, Try.underlying23, Try.underlying24, Try.underlying25, Try.underlying26, Try.underlying27, Try.underlying29, Try.underlying30, Try.underlying31, Try.underlying32, Try.underlying33, Try.underlying37, Try.underlying49, Try.underlying50, Try.underlying51, Try.underlying52, Try.underlying53, Try.underlying68, Try.underlying70, Try.underlying87, Try.underlying96, e_skip, e_label, e_ret, e_exit, e_seq, e_cond, e_block, e_region, seqK_normal, seqK_ret, seqK_exit, blkK_normal, blkK_ret, blkK_exit, condK_some, regK_true, regK_false, e_nil, e_cons, gateK_go, gateK_skip, gateK_ask, pickK_some, exK_some, x_pick, x_move, x_assign, x_alloc, x_box, x_build, x_buildSlice, x_load, x_store, x_binOp, x_unOp, x_convert, x_makeSlice, x_slice, x_fieldAddr, x_field, x_indexAddr, x_extract, x_nilCheck, x_call, x_len, x_append, x_min, oMin, x_copy, oCopy, eqAVs, callK_some, done_ret, done_normal, doneO_ret, doneO_normal, endsO_one, endsO_nil, endsO_more, ownAbs, frzAbs, leafs, leafs.leafsL, uniq, idxOf, bk, zipB, Blk.liveB, gate_none, gate_some, gateS_none, gateS_some, gateV_bool, gateV_undef, boolOf, evA, putT, refn, fpD, oBin, oUn, upsl, upl, up, ups, lk, dstsOf, resL, resA, packA, oLoadQ, oLoadKid, oStoreQ, oStoreTree, oBuildSliceQ, oBuildTree, oAppendQ, oAppendTree, isTr, isTrP, tkd, tkds, tkRows, ownOf, nodupB, deadL, treeOf, kidAbs, kidBlk, kidRows, TK.isCell, D.toL, oLoad, oStore, oAlloc, oBox, oBuild, oBuildSlice, oMake, oAppend, oIndexAddr, oFieldAddr, oField, oExtract, oNil, oSlice, oLen, oConvert, rowLoad, fillA, fillR, slB, dk, dks, dkRows, frz, loOf, hiOf, lenOf, rowsOf, nilV, lenV, putAt, views, viewsOk, CK.av, CK.ok, AV.cells, AV.one, Value.oneCell', Value.cells, pureAbs, nrm, nrm.nrmL, hpAt, sh, AV.ren, AV.ren.renL, Blk.ren, fpOf, footO, foot, blkIds, AV.ids, AV.ids.idsL, Op.operands, Call.operands, List.find?_cons, List.find?_nil, Nat.reduceBEq, beq_self_eq_true, List.map_cons, List.map_nil, List.getD_cons_zero, List.getD_cons_succ, List.getD_nil, List.set_cons_zero, List.set_cons_succ, List.length_cons, List.length_nil, List.replicate, List.cons_append, List.nil_append, List.append_nil, List.getElem?_cons_zero, List.getElem?_cons_succ, List.getElem?_toArray, List.getElem?_nil, List.take_zero, List.take_succ_cons, List.take_nil, List.drop_zero, List.drop_succ_cons, List.drop_nil, List.headD_cons, List.tail_cons, List.flatten_cons, List.flatten_nil, List.flatMap_cons, List.flatMap_nil, List.toList_toArray, Array.toList_append, Option.bind_some, Option.map_some, Option.map_none, Option.isSome_some, List.all_nil, List.all_cons, Bool.and_self, Bool.and_true, Bool.true_and, true_and, and_true, ↓reduceIte, List.size_toArray, Bool.false_eq_true, Bool.true_eq_false, false_implies, true_implies, Bool.not_true, Bool.not_false, and_self, implies_true, decide_true, decide_false, Nat.reduceAdd, Nat.reduceMul, Nat.reduceLT, Nat.reduceSub, Nat.reduceLeDiff, Nat.reduceEqDiff, eq_self, ne_eq, not_false_eq_true, false_and, and_false, reduceCtorEq, List.filter_nil, List.filter_cons, List.isEmpty_nil, List.isEmpty_cons, bne_self_eq_false, Nat.reduceBneDiff, Nat.lt_add_one, Nat.zero_lt_succ, List.append_assoc, Nat.zero_le, and_self_iff, Int.reduceToNat, List.any_nil, List.any_cons, List.filterMap_nil, List.filterMap_cons, List.contains_nil, List.contains_cons, Bool.or_false, Bool.false_or, Bool.or_true, Bool.true_or, Bool.false_and, Bool.and_false, decide_eq_true_eq, decide_eq_false_iff_not, beq_iff_eq, Int.toNat_natCast]
      all_goals
        repeat' first
          | refine And.intro ⟨k1, k2⟩ ?_
          | refine And.intro (by kernel_rfl) ?_
        exact ⟨_, [(0, none), (1, none), (2, none)], rfl, ⟨⟨⟨rfl, rfl, rfl⟩, trivial⟩, ⟨⟨by omega, rfl⟩, rfl, rfl, rfl, ⟨by omega, rfl, rfl⟩, rfl, rfl, rfl, ⟨by omega, rfl, rfl⟩, rfl, rfl, rfl, trivial⟩, by simp [rn, hpAt]⟩⟩
  · cases hg
end Go.Proofs.Ytheikjkfffepnaa
