import Derived.Test.YtdanjfnobanehaaTz
import Derived.Test.YtdanjfnobanehaaTo
namespace Go.Proofs.Ytdanjfnobanehaa
open Go.RowKit
set_option linter.unusedSimpArgs false
set_option linter.unusedVariables false

/-! NearSend and NearHear with data for answers; the laws' comparing functions -/
theorem OwnOk.sub {P : Program} {f : FuncId} {g g' : OC} (C : OwnOk P f g) (h : ∀ args B0 c r B1 bs, g' args B0 = some (c, r, B1, bs) → c → ∃ c0, g args B0 = some (c0, r, B1, bs) ∧ c0) : OwnOk P f g' :=
  ⟨C.there, fun w F Z0 s0 args vs B0 c r B1 bs hH hargs hlive hg hc => by
    obtain ⟨c0, h1, h2⟩ := h args B0 c r B1 bs hg hc
    exact C.does w F Z0 s0 args vs B0 c0 r B1 bs hH hargs hlive h1 h2⟩
def szA (ok : Bool) (n : Nat) : Nat := if ok = true then n else 1
def sendK (ok : Bool) (ks : List KE) : List KE := if ok = true then ks else []
def sendH (ok : Bool) (link : Int) (hs : List HE) (e : HE) : List HE := if ok = true then (if 0 ≤ link then hs else if hs.length < 4 then hs ++ [e] else ((hs ++ [e]).take 5).drop 1) else []
def sendL (ok : Bool) (link : Int) : Int := if ok = true then (if 0 ≤ link then link else -1) else -1
def g_sendD : PC := fun args => match args with
  | [.agg [.l _ rows, .l _ rows'], .v (.int .i64 a), .l _ rows2, .v (.int .i64 now)] => some ((∃ ks, rows = kRows ks ∧ ks.length ≤ 1048576) ∧ (∃ hs, rows' = hRows hs ∧ hMid hs) ∧ (∃ xs, rows2 = rowsOfBytes xs ∧ xs.length ≤ 1048576),
      .tup [.agg [.l (szA (sOk (ksOf rows) (hsOf rows') a rows2.length now) 3) (kRows (sendK (sOk (ksOf rows) (hsOf rows') a rows2.length now) (ksOf rows))),
        .l (szA (sOk (ksOf rows) (hsOf rows') a rows2.length now) 2) (hRows (sendH (sOk (ksOf rows) (hsOf rows') a rows2.length now) (nfV (ksOf rows) (hsOf rows') a now) (hsOf rows') ⟨a, bytesOfRows rows2⟩))],
        .v (.int .i64 (sendL (sOk (ksOf rows) (hsOf rows') a rows2.length now) (nfV (ksOf rows) (hsOf rows') a now)))], [])
  | _ => none
theorem sendD_of {f : FuncId} (C : OwnOk Try.prog f (ocOf g_sendM)) : OwnOk Try.prog f (ocOf g_sendD) := by
  refine C.toData.sub fun args B0 c r B1 bs hg hc => ?_
  unfold ocOf g_sendD at hg
  split at hg
  · split at hg
    · rename_i c' r' bs' hg'
      cases hg
      split at hg'
      · rename_i sz rows sz' rows' a sz2 rows2 now
        cases hg'
        obtain ⟨⟨ks, rfl, hk⟩, ⟨hs, rfl, hh⟩, xs, rfl, hx⟩ := hc
        refine ⟨(∃ k, kRows ks = kRows k ∧ k.length ≤ 1048576) ∧ (∃ h, hRows hs = hRows h ∧ hMid h) ∧ (∃ x, rowsOfBytes xs = rowsOfBytes x ∧ x.length ≤ 1048576), ?_, ⟨ks, rfl, hk⟩, ⟨hs, rfl, hh⟩, xs, rfl, hx⟩
        simp only [ocOf, dataOf, g_sendM, ksOf_rows, hsOf_rows, rowsOf_len, hRows_len, bytesOf_rows]
        generalize sOk ks hs a xs.length now = ok
        generalize nfV ks hs a now = link
        refine congrArg some (Prod.ext rfl (Prod.ext ?_ rfl))
        dsimp only
        have e1 : hRows hs ++ [[D.v (Value.int IntKind.i64 a), D.l 1 (rowsOfBytes xs)]] = hRows (hs ++ [⟨a, xs⟩]) := hRows_app hs [⟨a, xs⟩]
        cases ok
        · simp only [sendR, sendB, szA, sendK, sendH, sendL, Bool.false_eq_true, ↓reduceIte]
          rfl
        · by_cases hl : 0 ≤ link
          · simp only [sendR, sendB, szA, sendK, sendH, sendL, hl, ↓reduceIte]
            rfl
          · by_cases h4 : hs.length < 4
            · simp only [sendR, sendB, szA, sendK, sendH, sendL, hl, h4, ↓reduceIte, e1]
              rfl
            · simp only [sendR, sendB, szA, sendK, sendH, sendL, hl, h4, ↓reduceIte, e1]
              rw [← hRows_drop, ← hRows_take]
              rfl
      · cases hg'
    · cases hg
  · cases hg
theorem implNearSendD_ok : OwnOk Try.prog 16 (ocOf g_sendD) := sendD_of implNearSendM_ok
theorem specNearSendD_ok : OwnOk Try.prog 17 (ocOf g_sendD) := sendD_of specNearSendM_ok

def hearK (ok want : Bool) (ks : List KE) (e : KE) : List KE := if ok = true then (if want = true then (if (kOut ks e.a).length < 4 then kOut ks e.a ++ [e] else ((kOut ks e.a ++ [e]).take 5).drop 1) else ks) else []
def hearH (ok want : Bool) (hs : List HE) (a : Int) : List HE := if ok = true then (if want = true then hOut hs a else hs) else []
def hearL (ok want : Bool) (hs : List HE) (a : Int) : List (List UInt8) := if ok = true then (if want = true then sentOf hs a else []) else []
def g_hearD : PC := fun args => match args with
  | [.agg [.l _ rows, .l _ rows'], .v (.int .i64 own), .agg [.v (.int .i64 qk), .v (.int .i64 ql), .v (.int .i64 qa), .v (.int .i64 qw)], .v (.int .i64 now)] => some ((∃ ks, rows = kRows ks ∧ ks.length ≤ 1048576) ∧ (∃ hs, rows' = hRows hs ∧ hMid hs),
      .tup [.agg [.l (szA (rOk (ksOf rows) (hsOf rows') qk ql qa qw now) 3) (kRows (hearK (rOk (ksOf rows) (hsOf rows') qk ql qa qw now) (wantB (ksOf rows) (hsOf rows') own qa qw) (ksOf rows) ⟨qa, ql, now + 20⟩)),
        .l (szA (rOk (ksOf rows) (hsOf rows') qk ql qa qw now) 2) (hRows (hearH (rOk (ksOf rows) (hsOf rows') qk ql qa qw now) (wantB (ksOf rows) (hsOf rows') own qa qw) (hsOf rows') qa))],
        .l 1 (sRows (hearL (rOk (ksOf rows) (hsOf rows') qk ql qa qw now) (wantB (ksOf rows) (hsOf rows') own qa qw) (hsOf rows') qa))], [])
  | _ => none
theorem hearD_ofM {f : FuncId} (C : OwnOk Try.prog f (ocOf g_hearM)) : OwnOk Try.prog f (ocOf g_hearD) := by
  refine C.toData.sub fun args B0 c r B1 bs hg hc => ?_
  unfold ocOf g_hearD at hg
  split at hg
  · split at hg
    · rename_i c' r' bs' hg'
      cases hg
      split at hg'
      · rename_i sz rows sz' rows' own qk ql qa qw now
        cases hg'
        obtain ⟨⟨ks, rfl, hk⟩, hs, rfl, hh⟩ := hc
        refine ⟨(∃ k, kRows ks = kRows k ∧ k.length ≤ 1048576) ∧ (∃ h, hRows hs = hRows h ∧ hMid h), ?_, ⟨ks, rfl, hk⟩, hs, rfl, hh⟩
        simp only [ocOf, dataOf, g_hearM, ksOf_rows, hsOf_rows, rowsOf_len, hRows_len, bytesOf_rows]
        generalize rOk ks hs qk ql qa qw now = ok
        generalize wantB ks hs own qa qw = want
        refine congrArg some (Prod.ext rfl (Prod.ext ?_ rfl))
        dsimp only
        cases ok
        · simp only [hearR, hearB, szA, hearK, hearH, hearL, Bool.false_eq_true, ↓reduceIte]
          rfl
        · cases want
          · simp only [hearR, hearB, szA, hearK, hearH, hearL, Bool.false_eq_true, ↓reduceIte]
            rfl
          · by_cases h4 : (kOut ks qa).length < 4
            · simp only [hearR, hearB, szA, hearK, hearH, hearL, h4, ↓reduceIte]
              rfl
            · simp only [hearR, hearB, szA, hearK, hearH, hearL, h4, ↓reduceIte]
              rw [← kRows_drop, ← kRows_take]
              rfl
      · cases hg'
    · cases hg
  · cases hg
theorem hearD_ofI {f : FuncId} (C : OwnOk Try.prog f (ocOf g_hearI)) : OwnOk Try.prog f (ocOf g_hearD) := by
  refine C.toData.sub fun args B0 c r B1 bs hg hc => ?_
  unfold ocOf g_hearD at hg
  split at hg
  · split at hg
    · rename_i c' r' bs' hg'
      cases hg
      split at hg'
      · rename_i sz rows sz' rows' own qk ql qa qw now
        cases hg'
        obtain ⟨⟨ks, rfl, hk⟩, hs, rfl, hh⟩ := hc
        refine ⟨(∃ k, kRows ks = kRows k ∧ k.length ≤ 1048576) ∧ (∃ h, hRows hs = hRows h ∧ hMid h), ?_, ⟨ks, rfl, hk⟩, hs, rfl, hh⟩
        simp only [ocOf, dataOf, g_hearI, ksOf_rows, hsOf_rows, rowsOf_len, hRows_len, bytesOf_rows]
        generalize rOk ks hs qk ql qa qw now = ok
        generalize wantB ks hs own qa qw = want
        refine congrArg some (Prod.ext rfl (Prod.ext ?_ rfl))
        dsimp only
        cases ok
        · simp only [hearRI, hearBI, szA, hearK, hearH, hearL, Bool.false_eq_true, ↓reduceIte]
          rfl
        · cases want
          · simp only [hearRI, hearBI, szA, hearK, hearH, hearL, Bool.false_eq_true, ↓reduceIte]
            rfl
          · by_cases h4 : (kOut ks qa).length < 4
            · simp only [hearRI, hearBI, szA, hearK, hearH, hearL, h4, ↓reduceIte]
              rfl
            · simp only [hearRI, hearBI, szA, hearK, hearH, hearL, h4, ↓reduceIte]
              rw [← kRows_drop, ← kRows_take]
              rfl
      · cases hg'
    · cases hg
  · cases hg
theorem specNearHearD_ok : OwnOk Try.prog 25 (ocOf g_hearD) := hearD_ofM specNearHearM_ok
theorem implNearHearD_ok : OwnOk Try.prog 24 (ocOf g_hearD) := hearD_ofI implNearHearM_ok

def dsOf (rows : List (List D)) : List (List UInt8) := rows.map fun r => bytesOfRows (r.getD 0 (.v undef)).toL
theorem dsOf_rows (ds : List (List UInt8)) : dsOf (sRows ds) = ds := by
  unfold dsOf sRows
  rw [List.map_map]
  have : ((fun r : List D => bytesOfRows (r.getD 0 (.v undef)).toL) ∘ fun d : List UInt8 => [D.l 1 (rowsOfBytes d)]) = id := by
    funext d
    exact bytesOf_rows d
  rw [this, List.map_id]
theorem sRows_get (ds : List (List UInt8)) (k : Nat) (h : k < ds.length) : (sRows ds).getD k [] = [D.l 1 (rowsOfBytes ds[k])] := by
  unfold sRows
  rw [List.getD_eq_getElem?_getD, List.getElem?_map, List.getElem?_eq_getElem h]; rfl
def dEq : List (List UInt8) → List (List UInt8) → Bool
  | [], [] => true
  | e :: t, e' :: t' => (e == e') && dEq t t'
  | _, _ => false
theorem dEq_refl : ∀ ds, dEq ds ds = true
  | [] => rfl
  | e :: t => by simp [dEq, dEq_refl t]
theorem dEq_len : ∀ {ds ds' : List (List UInt8)}, ds.length ≠ ds'.length → dEq ds ds' = false
  | [], [], h => absurd rfl h
  | [], _ :: _, _ => rfl
  | _ :: _, [], _ => rfl
  | e :: t, e' :: t', h => by rw [dEq, dEq_len (ds := t) (ds' := t') (by simpa using h), Bool.and_false]
def g_sameL : PC := fun args => match args with
  | [.l _ rows, .l _ rows'] => some ((∃ ds, rows = sRows ds ∧ ds.length ≤ 1048576) ∧ ∃ ds, rows' = sRows ds ∧ ds.length ≤ 1048576, .v (.bool (dEq (dsOf rows) (dsOf rows'))), [])
  | _ => none
def sb0 : List (FuncId × Abs) := [(22, pureAbs g_sameBytes)]
theorem sb0_ok : ∀ p ∈ sb0, CallOk Try.prog p.1 p.2 := by
  intro p hp
  simp only [sb0, List.mem_cons, List.not_mem_nil, or_false] at hp
  rcases hp with rfl
  · exact sameBytes_ok.call
set_option maxHeartbeats 0 in
set_option maxRecDepth 100000 in
theorem sameLists_ok : PureOk Try.prog 26 g_sameL := by
  refine PureOk.of_vc (G := sb0) sb0_ok mixed Try.func26 (by kernel_rfl) rfl ?_
  intro args cnd r bs hg hc
  unfold g_sameL at hg
  split at hg
  · rename_i sz rows sz' rows'
    cases hg
    obtain ⟨⟨ks, rfl, hl⟩, ks', rfl, hl'⟩ := hc
    rw [dsOf_rows, dsOf_rows]
    refine ⟨⟨rfl, by simp, by simp [AV.ids]⟩, [.l 1 (sRows ks), .l 1 (sRows ks')], rfl, fun w vs h => CvL.ok (.cons (.l _ _ _ (sRows_w ks)) (.cons (.l _ _ _ (sRows_w ks')) .nil)) h, ?_⟩
    simp (maxSteps := 3000000) only [Try.f26, sb0, sRows_len, tY2, tY3, tY4, tY5, tY9, tY12, tY21, tY22, tY23, tY24, tY25, tY26, tY35, tY36, tY39, tY40, tY43, tY49, tY50, tY60, tY61, tY62, tY63, tY69, tY73, tY88, tY89, tY112, tY113, tY119, tY121, tY132, tY141, Try.underlying2, Try.underlying3, Try.underlying4, Try.underlying5, Try.underlying9, Try.underlying12, Try.underlying21, Try.underlying22, Try.underlying23, Try.underlying24, Try.underlying25, Try.underlying26, Try.underlying35, Try.underlying36, Try.underlying39, Try.underlying40, Try.underlying43, Try.underlying49, Try.underlying50, Try.underlying60, Try.underlying61, Try.underlying62, Try.underlying63, Try.underlying69, Try.underlying73, Try.underlying88, Try.underlying89, Try.underlying112, Try.underlying113, Try.underlying119, Try.underlying121, Try.underlying132, Try.underlying141, e_skip, e_label, e_ret, e_exit, e_seq, e_cond, e_block, e_region, seqK_normal, seqK_ret, seqK_exit, blkK_normal, blkK_ret, blkK_exit, condK_some, regK_true, regK_false, e_nil, e_cons, gateK_go, gateK_skip, gateK_ask, pickK_some, exK_some, x_pick, x_move, x_assign, x_alloc, x_box, x_build, x_buildSlice, x_load, x_store, x_binOp, x_unOp, x_convert, x_makeSlice, x_slice, x_fieldAddr, x_field, x_indexAddr, x_extract, x_nilCheck, x_call, x_len, x_append, x_min, oMin, x_copy, oCopy, eqAVs, callK_some, done_ret, done_normal, doneO_ret, doneO_normal, endsO_one, endsO_nil, endsO_more, ownAbs, frzAbs, leafs, leafs.leafsL, uniq, idxOf, bk, zipB, Blk.liveB, gate_none, gate_some, gateS_none, gateS_some, gateV_bool, gateV_undef, boolOf, evA, putT, refn, fpD, oBin, oUn, upsl, upl, up, ups, lk, dstsOf, resL, resA, packA, oLoad, oStore, oAlloc, oBox, oBuild, oBuildSlice, oMake, oAppend, oIndexAddr, oFieldAddr, oField, oExtract, oNil, oSlice, oLen, oConvert, rowLoad, fillA, fillR, dk, dks, dkRows, frz, loOf, hiOf, lenOf, rowsOf, nilV, lenV, putAt, views, viewsOk, CK.av, CK.ok, AV.cells, AV.one, Value.oneCell', Value.cells, pureAbs, nrm, nrm.nrmL, hpAt, sh, AV.ren, AV.ren.renL, Blk.ren, fpOf, footO, foot, blkIds, AV.ids, AV.ids.idsL, Op.operands, Call.operands, List.find?_cons, List.find?_nil, Nat.reduceBEq, beq_self_eq_true, List.map_cons, List.map_nil, List.getD_cons_zero, List.getD_cons_succ, List.getD_nil, List.set_cons_zero, List.set_cons_succ, List.length_cons, List.length_nil, List.replicate, List.cons_append, List.nil_append, List.append_nil, List.getElem?_cons_zero, List.getElem?_cons_succ, List.getElem?_toArray, List.getElem?_nil, List.take_zero, List.take_succ_cons, List.take_nil, List.drop_zero, List.drop_succ_cons, List.drop_nil, List.headD_cons, List.tail_cons, List.flatten_cons, List.flatten_nil, List.flatMap_cons, List.flatMap_nil, List.toList_toArray, Array.toList_append, Option.bind_some, Option.map_some, Option.map_none, Option.isSome_some, List.all_nil, List.all_cons, Bool.and_self, Bool.and_true, Bool.true_and, true_and, and_true, ↓reduceIte, List.size_toArray, Bool.false_eq_true, Bool.true_eq_false, false_implies, true_implies, Bool.not_true, Bool.not_false, and_self, implies_true, decide_true, decide_false, Nat.reduceAdd, Nat.reduceMul, Nat.reduceLT, Nat.reduceSub, Nat.reduceLeDiff, Nat.reduceEqDiff, eq_self, ne_eq, not_false_eq_true, false_and, and_false, reduceCtorEq, List.filter_nil, List.filter_cons, List.isEmpty_nil, List.isEmpty_cons, bne_self_eq_false, Nat.reduceBneDiff, Nat.lt_add_one, Nat.zero_lt_succ, List.append_assoc, Nat.zero_le, and_self_iff, Int.reduceToNat, decide_eq_true_eq, decide_eq_false_iff_not, beq_iff_eq, Int.toNat_natCast]
    by_cases hne : ks.length = ks'.length
    · rw [if_neg (by simp [hne])]
      refine e_loop _ _ _ _ _ _ _ _ (fun k : Nat => [.l 1 (sRows ks), .l 1 (sRows ks'), .any, .any, .any, .v (.int .i64 (k : Int))] ++ List.replicate (Try.f26.ntmps - 6) .any) (fun _ => []) (fun k => k ≤ ks.length ∧ dEq ks ks' = dEq (ks.drop k) (ks'.drop k)) (fun k => ks.length - k) 0 (fun k => by simp) ⟨0, [], ⟨by omega, rfl⟩, ?_, by simp [keepIds]⟩ fun k ⟨hk, hinv⟩ => ?_
      · simp only [Try.f26]
        (refine ⟨?_, ?_, ?_⟩ <;> simp [fitT, fit1, fitH, fitB, emptyB, rn, lk, AV.ren, AV.ren.renL, Blk.ren, blkIds, blkPids, AV.ids, AV.ids.idsL, AV.pids, AV.pids.pidsL, Blk.there])
      · have w2 : IntKind.i64.wrap ((k : Int) + 1) = ((k + 1 : Nat) : Int) := by rw [wrap_id] <;> omega
        by_cases h : k < ks.length
        · have h' : k < ks'.length := by omega
          have hrow := sRows_get ks k h
          have hrow' := sRows_get ks' k h'
          have hlt : ((k : Int) < (ks.length : Int)) = True := eq_true (by omega)
          have hlt' : ((k : Int) < (ks'.length : Int)) = True := eq_true (by omega)
          have h0 : (0 ≤ (k : Int)) = True := eq_true (by omega)
          rw [drop_at _ _ h, drop_at _ _ h', dEq] at hinv
          simp (maxSteps := 3000000) only [Try.f26, sb0, g_sameBytes, sRows_len, hrow, hrow', hlt, hlt', h0, D.toI, D.toL, bytesOf_rows, tY2, tY3, tY4, tY5, tY9, tY12, tY21, tY22, tY23, tY24, tY25, tY26, tY35, tY36, tY39, tY40, tY43, tY49, tY50, tY60, tY61, tY62, tY63, tY69, tY73, tY88, tY89, tY112, tY113, tY119, tY121, tY132, tY141, Try.underlying2, Try.underlying3, Try.underlying4, Try.underlying5, Try.underlying9, Try.underlying12, Try.underlying21, Try.underlying22, Try.underlying23, Try.underlying24, Try.underlying25, Try.underlying26, Try.underlying35, Try.underlying36, Try.underlying39, Try.underlying40, Try.underlying43, Try.underlying49, Try.underlying50, Try.underlying60, Try.underlying61, Try.underlying62, Try.underlying63, Try.underlying69, Try.underlying73, Try.underlying88, Try.underlying89, Try.underlying112, Try.underlying113, Try.underlying119, Try.underlying121, Try.underlying132, Try.underlying141, e_skip, e_label, e_ret, e_exit, e_seq, e_cond, e_block, e_region, seqK_normal, seqK_ret, seqK_exit, blkK_normal, blkK_ret, blkK_exit, condK_some, regK_true, regK_false, e_nil, e_cons, gateK_go, gateK_skip, gateK_ask, pickK_some, exK_some, x_pick, x_move, x_assign, x_alloc, x_box, x_build, x_buildSlice, x_load, x_store, x_binOp, x_unOp, x_convert, x_makeSlice, x_slice, x_fieldAddr, x_field, x_indexAddr, x_extract, x_nilCheck, x_call, x_len, x_append, x_min, oMin, x_copy, oCopy, eqAVs, callK_some, done_ret, done_normal, doneO_ret, doneO_normal, endsO_one, endsO_nil, endsO_more, ownAbs, frzAbs, leafs, leafs.leafsL, uniq, idxOf, bk, zipB, Blk.liveB, gate_none, gate_some, gateS_none, gateS_some, gateV_bool, gateV_undef, boolOf, evA, putT, refn, fpD, oBin, oUn, upsl, upl, up, ups, lk, dstsOf, resL, resA, packA, oLoad, oStore, oAlloc, oBox, oBuild, oBuildSlice, oMake, oAppend, oIndexAddr, oFieldAddr, oField, oExtract, oNil, oSlice, oLen, oConvert, rowLoad, fillA, fillR, dk, dks, dkRows, frz, loOf, hiOf, lenOf, rowsOf, nilV, lenV, putAt, views, viewsOk, CK.av, CK.ok, AV.cells, AV.one, Value.oneCell', Value.cells, pureAbs, nrm, nrm.nrmL, hpAt, sh, AV.ren, AV.ren.renL, Blk.ren, fpOf, footO, foot, blkIds, AV.ids, AV.ids.idsL, Op.operands, Call.operands, List.find?_cons, List.find?_nil, Nat.reduceBEq, beq_self_eq_true, List.map_cons, List.map_nil, List.getD_cons_zero, List.getD_cons_succ, List.getD_nil, List.set_cons_zero, List.set_cons_succ, List.length_cons, List.length_nil, List.replicate, List.cons_append, List.nil_append, List.append_nil, List.getElem?_cons_zero, List.getElem?_cons_succ, List.getElem?_toArray, List.getElem?_nil, List.take_zero, List.take_succ_cons, List.take_nil, List.drop_zero, List.drop_succ_cons, List.drop_nil, List.headD_cons, List.tail_cons, List.flatten_cons, List.flatten_nil, List.flatMap_cons, List.flatMap_nil, List.toList_toArray, Array.toList_append, Option.bind_some, Option.map_some, Option.map_none, Option.isSome_some, List.all_nil, List.all_cons, Bool.and_self, Bool.and_true, Bool.true_and, true_and, and_true, ↓reduceIte, List.size_toArray, Bool.false_eq_true, Bool.true_eq_false, false_implies, true_implies, Bool.not_true, Bool.not_false, and_self, implies_true, decide_true, decide_false, Nat.reduceAdd, Nat.reduceMul, Nat.reduceLT, Nat.reduceSub, Nat.reduceLeDiff, Nat.reduceEqDiff, eq_self, ne_eq, not_false_eq_true, false_and, and_false, reduceCtorEq, List.filter_nil, List.filter_cons, List.isEmpty_nil, List.isEmpty_cons, bne_self_eq_false, Nat.reduceBneDiff, Nat.lt_add_one, Nat.zero_lt_succ, List.append_assoc, Nat.zero_le, and_self_iff, Int.reduceToNat, decide_eq_true_eq, decide_eq_false_iff_not, beq_iff_eq, Int.toNat_natCast, loopK_normal, loopK_exit, loopK_ret, w2]
          (repeat (refine And.intro ?_ ?_; focus (((repeat' apply And.intro) <;> first | exact rowsOf_w _ | omega | (simp only [List.length_append, rowsOf_len, List.length_cons, List.length_nil, marks_len, List.length_take, List.length_drop, List.length_set]; omega) | exact ⟨_, rfl⟩ | (refine ⟨_, rfl, ?_⟩; omega) | (refine ⟨_, rfl, ?_⟩; simp only [List.length_append, rowsOf_len, List.length_cons, List.length_nil, marks_len, List.length_take, List.length_drop, List.length_set]; omega) | kernel_rfl | (simp; done)); done)))
          by_cases he : (ks[k] == ks'[k]) = true
          · rw [he, Bool.true_and] at hinv
            rw [if_neg (by rw [he]; decide)]
            refine ⟨k + 1, [], ⟨by omega, hinv⟩, by omega, ?_, by simp [keepIds]⟩
            (refine ⟨?_, ?_, ?_⟩ <;> simp [fitT, fit1, fitH, fitB, emptyB, rn, lk, AV.ren, AV.ren.renL, Blk.ren, blkIds, blkPids, AV.ids, AV.ids.idsL, AV.pids, AV.pids.pidsL, Blk.there])
          · rw [Bool.not_eq_true] at he
            rw [if_pos (by rw [he]; rfl)]
            rw [he, Bool.false_and] at hinv
            rw [hinv]
            (refine ⟨_, [], rfl, ⟨⟨⟨?_, rfl, rfl⟩, trivial⟩, by simp [hpAt, fitH], by simp [hpAt]⟩⟩; refine congrArg (fun b => AV.v (Value.bool b)) ?_; first | rfl | (rw [Bool.eq_iff_iff]; simp only [decide_eq_true_eq, frB, inZ, Bool.false_eq_true, beq_eq_false_iff_ne, beq_iff_eq, ne_eq, decide_eq_false_iff_not, Bool.not_eq_eq_eq_not, Bool.not_true, Bool.not_false, false_iff, iff_false, true_iff, iff_true] at *; omega))
        · have hlt : ((k : Int) < (ks.length : Int)) = False := eq_false (by omega)
          simp (maxSteps := 3000000) only [Try.f26, sRows_len, hlt, tY2, tY3, tY4, tY5, tY9, tY12, tY21, tY22, tY23, tY24, tY25, tY26, tY35, tY36, tY39, tY40, tY43, tY49, tY50, tY60, tY61, tY62, tY63, tY69, tY73, tY88, tY89, tY112, tY113, tY119, tY121, tY132, tY141, Try.underlying2, Try.underlying3, Try.underlying4, Try.underlying5, Try.underlying9, Try.underlying12, Try.underlying21, Try.underlying22, Try.underlying23, Try.underlying24, Try.underlying25, Try.underlying26, Try.underlying35, Try.underlying36, Try.underlying39, Try.underlying40, Try.underlying43, Try.underlying49, Try.underlying50, Try.underlying60, Try.underlying61, Try.underlying62, Try.underlying63, Try.underlying69, Try.underlying73, Try.underlying88, Try.underlying89, Try.underlying112, Try.underlying113, Try.underlying119, Try.underlying121, Try.underlying132, Try.underlying141, e_skip, e_label, e_ret, e_exit, e_seq, e_cond, e_block, e_region, seqK_normal, seqK_ret, seqK_exit, blkK_normal, blkK_ret, blkK_exit, condK_some, regK_true, regK_false, e_nil, e_cons, gateK_go, gateK_skip, gateK_ask, pickK_some, exK_some, x_pick, x_move, x_assign, x_alloc, x_box, x_build, x_buildSlice, x_load, x_store, x_binOp, x_unOp, x_convert, x_makeSlice, x_slice, x_fieldAddr, x_field, x_indexAddr, x_extract, x_nilCheck, x_call, x_len, x_append, x_min, oMin, x_copy, oCopy, eqAVs, callK_some, done_ret, done_normal, doneO_ret, doneO_normal, endsO_one, endsO_nil, endsO_more, ownAbs, frzAbs, leafs, leafs.leafsL, uniq, idxOf, bk, zipB, Blk.liveB, gate_none, gate_some, gateS_none, gateS_some, gateV_bool, gateV_undef, boolOf, evA, putT, refn, fpD, oBin, oUn, upsl, upl, up, ups, lk, dstsOf, resL, resA, packA, oLoad, oStore, oAlloc, oBox, oBuild, oBuildSlice, oMake, oAppend, oIndexAddr, oFieldAddr, oField, oExtract, oNil, oSlice, oLen, oConvert, rowLoad, fillA, fillR, dk, dks, dkRows, frz, loOf, hiOf, lenOf, rowsOf, nilV, lenV, putAt, views, viewsOk, CK.av, CK.ok, AV.cells, AV.one, Value.oneCell', Value.cells, pureAbs, nrm, nrm.nrmL, hpAt, sh, AV.ren, AV.ren.renL, Blk.ren, fpOf, footO, foot, blkIds, AV.ids, AV.ids.idsL, Op.operands, Call.operands, List.find?_cons, List.find?_nil, Nat.reduceBEq, beq_self_eq_true, List.map_cons, List.map_nil, List.getD_cons_zero, List.getD_cons_succ, List.getD_nil, List.set_cons_zero, List.set_cons_succ, List.length_cons, List.length_nil, List.replicate, List.cons_append, List.nil_append, List.append_nil, List.getElem?_cons_zero, List.getElem?_cons_succ, List.getElem?_toArray, List.getElem?_nil, List.take_zero, List.take_succ_cons, List.take_nil, List.drop_zero, List.drop_succ_cons, List.drop_nil, List.headD_cons, List.tail_cons, List.flatten_cons, List.flatten_nil, List.flatMap_cons, List.flatMap_nil, List.toList_toArray, Array.toList_append, Option.bind_some, Option.map_some, Option.map_none, Option.isSome_some, List.all_nil, List.all_cons, Bool.and_self, Bool.and_true, Bool.true_and, true_and, and_true, ↓reduceIte, List.size_toArray, Bool.false_eq_true, Bool.true_eq_false, false_implies, true_implies, Bool.not_true, Bool.not_false, and_self, implies_true, decide_true, decide_false, Nat.reduceAdd, Nat.reduceMul, Nat.reduceLT, Nat.reduceSub, Nat.reduceLeDiff, Nat.reduceEqDiff, eq_self, ne_eq, not_false_eq_true, false_and, and_false, reduceCtorEq, List.filter_nil, List.filter_cons, List.isEmpty_nil, List.isEmpty_cons, bne_self_eq_false, Nat.reduceBneDiff, Nat.lt_add_one, Nat.zero_lt_succ, List.append_assoc, Nat.zero_le, and_self_iff, Int.reduceToNat, decide_eq_true_eq, decide_eq_false_iff_not, beq_iff_eq, Int.toNat_natCast, loopK_normal, loopK_exit, loopK_ret, w2]
          rw [List.drop_eq_nil_of_le (by omega), List.drop_eq_nil_of_le (by omega), dEq] at hinv
          rw [hinv]
          (refine ⟨_, [], rfl, ⟨⟨⟨?_, rfl, rfl⟩, trivial⟩, by simp [hpAt, fitH], by simp [hpAt]⟩⟩; refine congrArg (fun b => AV.v (Value.bool b)) ?_; first | rfl | (rw [Bool.eq_iff_iff]; simp only [decide_eq_true_eq, frB, inZ, Bool.false_eq_true, beq_eq_false_iff_ne, beq_iff_eq, ne_eq, decide_eq_false_iff_not, Bool.not_eq_eq_eq_not, Bool.not_true, Bool.not_false, false_iff, iff_false, true_iff, iff_true] at *; omega))
    · rw [if_pos (by simp; omega), dEq_len hne]
      (refine ⟨_, [], rfl, ⟨⟨⟨?_, rfl, rfl⟩, trivial⟩, by simp [hpAt, fitH], by simp [hpAt]⟩⟩; refine congrArg (fun b => AV.v (Value.bool b)) ?_; first | rfl | (rw [Bool.eq_iff_iff]; simp only [decide_eq_true_eq, frB, inZ, Bool.false_eq_true, beq_eq_false_iff_ne, beq_iff_eq, ne_eq, decide_eq_false_iff_not, Bool.not_eq_eq_eq_not, Bool.not_true, Bool.not_false, false_iff, iff_false, true_iff, iff_true] at *; omega))
  · cases hg
def g_sameN : PC := fun args => match args with
  | [.agg [.l _ rows, .l _ rows'], .agg [.l _ rows2, .l _ rows2']] => some ((∃ ks, rows = kRows ks ∧ ks.length ≤ 1048576) ∧ (∃ hs, rows' = hRows hs ∧ hMid hs) ∧ (∃ ks, rows2 = kRows ks ∧ ks.length ≤ 1048576) ∧ ∃ hs, rows2' = hRows hs ∧ hMid hs, .v (.bool (kEq (ksOf rows) (ksOf rows2) && hEq (hsOf rows') (hsOf rows2'))), [])
  | _ => none
set_option maxHeartbeats 0 in
set_option maxRecDepth 100000 in
theorem sameNear_ok : PureOk Try.prog 18 g_sameN := by
  refine PureOk.of_vc (G := sb0) sb0_ok mixed Try.func18 (by kernel_rfl) rfl ?_
  intro args cnd r bs hg hc
  unfold g_sameN at hg
  split at hg
  · rename_i sz rows sz' rows' sz2 rows2 sz2' rows2'
    cases hg
    obtain ⟨⟨ks, rfl, hk⟩, ⟨hs, rfl, hh⟩, ⟨ks2, rfl, hk2⟩, hs2, rfl, hh2⟩ := hc
    rw [ksOf_rows, hsOf_rows, ksOf_rows, hsOf_rows]
    refine ⟨⟨rfl, by simp, by simp [AV.ids, AV.ids.idsL]⟩, [.agg [.l 3 (kRows ks), .l 2 (hRows hs)], .agg [.l 3 (kRows ks2), .l 2 (hRows hs2)]], rfl, fun w vs h => CvL.ok (.cons (.cons (.l _ _ _ (kRows_w ks)) (.cons (.l _ _ _ (hRows_w hs)) .nil)) (.cons (.cons (.l _ _ _ (kRows_w ks2)) (.cons (.l _ _ _ (hRows_w hs2)) .nil)) .nil)) h, ?_⟩
    simp (maxSteps := 3000000) only [Try.f18, sb0, kRows_len, hRows_len, tY2, tY3, tY4, tY5, tY9, tY12, tY21, tY22, tY23, tY24, tY25, tY26, tY35, tY36, tY39, tY40, tY43, tY49, tY50, tY60, tY61, tY62, tY63, tY69, tY73, tY88, tY89, tY112, tY113, tY119, tY121, tY132, tY141, Try.underlying2, Try.underlying3, Try.underlying4, Try.underlying5, Try.underlying9, Try.underlying12, Try.underlying21, Try.underlying22, Try.underlying23, Try.underlying24, Try.underlying25, Try.underlying26, Try.underlying35, Try.underlying36, Try.underlying39, Try.underlying40, Try.underlying43, Try.underlying49, Try.underlying50, Try.underlying60, Try.underlying61, Try.underlying62, Try.underlying63, Try.underlying69, Try.underlying73, Try.underlying88, Try.underlying89, Try.underlying112, Try.underlying113, Try.underlying119, Try.underlying121, Try.underlying132, Try.underlying141, e_skip, e_label, e_ret, e_exit, e_seq, e_cond, e_block, e_region, seqK_normal, seqK_ret, seqK_exit, blkK_normal, blkK_ret, blkK_exit, condK_some, regK_true, regK_false, e_nil, e_cons, gateK_go, gateK_skip, gateK_ask, pickK_some, exK_some, x_pick, x_move, x_assign, x_alloc, x_box, x_build, x_buildSlice, x_load, x_store, x_binOp, x_unOp, x_convert, x_makeSlice, x_slice, x_fieldAddr, x_field, x_indexAddr, x_extract, x_nilCheck, x_call, x_len, x_append, x_min, oMin, x_copy, oCopy, eqAVs, callK_some, done_ret, done_normal, doneO_ret, doneO_normal, endsO_one, endsO_nil, endsO_more, ownAbs, frzAbs, leafs, leafs.leafsL, uniq, idxOf, bk, zipB, Blk.liveB, gate_none, gate_some, gateS_none, gateS_some, gateV_bool, gateV_undef, boolOf, evA, putT, refn, fpD, oBin, oUn, upsl, upl, up, ups, lk, dstsOf, resL, resA, packA, oLoad, oStore, oAlloc, oBox, oBuild, oBuildSlice, oMake, oAppend, oIndexAddr, oFieldAddr, oField, oExtract, oNil, oSlice, oLen, oConvert, rowLoad, fillA, fillR, dk, dks, dkRows, frz, loOf, hiOf, lenOf, rowsOf, nilV, lenV, putAt, views, viewsOk, CK.av, CK.ok, AV.cells, AV.one, Value.oneCell', Value.cells, pureAbs, nrm, nrm.nrmL, hpAt, sh, AV.ren, AV.ren.renL, Blk.ren, fpOf, footO, foot, blkIds, AV.ids, AV.ids.idsL, Op.operands, Call.operands, List.find?_cons, List.find?_nil, Nat.reduceBEq, beq_self_eq_true, List.map_cons, List.map_nil, List.getD_cons_zero, List.getD_cons_succ, List.getD_nil, List.set_cons_zero, List.set_cons_succ, List.length_cons, List.length_nil, List.replicate, List.cons_append, List.nil_append, List.append_nil, List.getElem?_cons_zero, List.getElem?_cons_succ, List.getElem?_toArray, List.getElem?_nil, List.take_zero, List.take_succ_cons, List.take_nil, List.drop_zero, List.drop_succ_cons, List.drop_nil, List.headD_cons, List.tail_cons, List.flatten_cons, List.flatten_nil, List.flatMap_cons, List.flatMap_nil, List.toList_toArray, Array.toList_append, Option.bind_some, Option.map_some, Option.map_none, Option.isSome_some, List.all_nil, List.all_cons, Bool.and_self, Bool.and_true, Bool.true_and, true_and, and_true, ↓reduceIte, List.size_toArray, Bool.false_eq_true, Bool.true_eq_false, false_implies, true_implies, Bool.not_true, Bool.not_false, and_self, implies_true, decide_true, decide_false, Nat.reduceAdd, Nat.reduceMul, Nat.reduceLT, Nat.reduceSub, Nat.reduceLeDiff, Nat.reduceEqDiff, eq_self, ne_eq, not_false_eq_true, false_and, and_false, reduceCtorEq, List.filter_nil, List.filter_cons, List.isEmpty_nil, List.isEmpty_cons, bne_self_eq_false, Nat.reduceBneDiff, Nat.lt_add_one, Nat.zero_lt_succ, List.append_assoc, Nat.zero_le, and_self_iff, Int.reduceToNat, decide_eq_true_eq, decide_eq_false_iff_not, beq_iff_eq, Int.toNat_natCast]
    by_cases hne : ks.length = ks2.length
    · by_cases hne2 : hs.length = hs2.length
      · rw [if_pos (by simp [hne]), if_neg (by simp [hne2])]
        refine e_loop _ _ _ _ _ _ _ _ (fun k : Nat => [.any, .any, .ptr 0 0, .ptr 1 0, .any, .v (.int .i64 (k : Int))] ++ List.replicate (Try.f18.ntmps - 6) .any) (fun _ => [(0, .var 26 [.l 3 (kRows ks), .l 2 (hRows hs)]), (1, .var 26 [.l 3 (kRows ks2), .l 2 (hRows hs2)])]) (fun k => k ≤ ks.length ∧ kEq ks ks2 = kEq (ks.drop k) (ks2.drop k)) (fun k => ks.length - k) 2 (fun k => by simp) ⟨0, [(0, some 0), (1, some 16)], ⟨by omega, rfl⟩, ?_, by simp [keepIds]⟩ fun k ⟨hk', hinv⟩ => ?_
        · simp only [Try.f18]
          (refine ⟨?_, ?_, ?_⟩ <;> simp [fitT, fit1, fitH, fitB, emptyB, rn, lk, AV.ren, AV.ren.renL, Blk.ren, blkIds, blkPids, AV.ids, AV.ids.idsL, AV.pids, AV.pids.pidsL, Blk.there])
        · have w2 : IntKind.i64.wrap ((k : Int) + 1) = ((k + 1 : Nat) : Int) := by rw [wrap_id] <;> omega
          by_cases h : k < ks.length
          · have h' : k < ks2.length := by omega
            have hrow := kRows_get ks k h
            have hrow' := kRows_get ks2 k h'
            have hlt : ((k : Int) < (ks.length : Int)) = True := eq_true (by omega)
            have hlt' : ((k : Int) < (ks2.length : Int)) = True := eq_true (by omega)
            have h0 : (0 ≤ (k : Int)) = True := eq_true (by omega)
            rw [drop_at _ _ h, drop_at _ _ h', kEq] at hinv
            simp (maxSteps := 3000000) only [Try.f18, sb0, g_sameBytes, kRows_len, hRows_len, hrow, hrow', hlt, hlt', h0, D.toI, D.toL, bytesOf_rows, tY2, tY3, tY4, tY5, tY9, tY12, tY21, tY22, tY23, tY24, tY25, tY26, tY35, tY36, tY39, tY40, tY43, tY49, tY50, tY60, tY61, tY62, tY63, tY69, tY73, tY88, tY89, tY112, tY113, tY119, tY121, tY132, tY141, Try.underlying2, Try.underlying3, Try.underlying4, Try.underlying5, Try.underlying9, Try.underlying12, Try.underlying21, Try.underlying22, Try.underlying23, Try.underlying24, Try.underlying25, Try.underlying26, Try.underlying35, Try.underlying36, Try.underlying39, Try.underlying40, Try.underlying43, Try.underlying49, Try.underlying50, Try.underlying60, Try.underlying61, Try.underlying62, Try.underlying63, Try.underlying69, Try.underlying73, Try.underlying88, Try.underlying89, Try.underlying112, Try.underlying113, Try.underlying119, Try.underlying121, Try.underlying132, Try.underlying141, e_skip, e_label, e_ret, e_exit, e_seq, e_cond, e_block, e_region, seqK_normal, seqK_ret, seqK_exit, blkK_normal, blkK_ret, blkK_exit, condK_some, regK_true, regK_false, e_nil, e_cons, gateK_go, gateK_skip, gateK_ask, pickK_some, exK_some, x_pick, x_move, x_assign, x_alloc, x_box, x_build, x_buildSlice, x_load, x_store, x_binOp, x_unOp, x_convert, x_makeSlice, x_slice, x_fieldAddr, x_field, x_indexAddr, x_extract, x_nilCheck, x_call, x_len, x_append, x_min, oMin, x_copy, oCopy, eqAVs, callK_some, done_ret, done_normal, doneO_ret, doneO_normal, endsO_one, endsO_nil, endsO_more, ownAbs, frzAbs, leafs, leafs.leafsL, uniq, idxOf, bk, zipB, Blk.liveB, gate_none, gate_some, gateS_none, gateS_some, gateV_bool, gateV_undef, boolOf, evA, putT, refn, fpD, oBin, oUn, upsl, upl, up, ups, lk, dstsOf, resL, resA, packA, oLoad, oStore, oAlloc, oBox, oBuild, oBuildSlice, oMake, oAppend, oIndexAddr, oFieldAddr, oField, oExtract, oNil, oSlice, oLen, oConvert, rowLoad, fillA, fillR, dk, dks, dkRows, frz, loOf, hiOf, lenOf, rowsOf, nilV, lenV, putAt, views, viewsOk, CK.av, CK.ok, AV.cells, AV.one, Value.oneCell', Value.cells, pureAbs, nrm, nrm.nrmL, hpAt, sh, AV.ren, AV.ren.renL, Blk.ren, fpOf, footO, foot, blkIds, AV.ids, AV.ids.idsL, Op.operands, Call.operands, List.find?_cons, List.find?_nil, Nat.reduceBEq, beq_self_eq_true, List.map_cons, List.map_nil, List.getD_cons_zero, List.getD_cons_succ, List.getD_nil, List.set_cons_zero, List.set_cons_succ, List.length_cons, List.length_nil, List.replicate, List.cons_append, List.nil_append, List.append_nil, List.getElem?_cons_zero, List.getElem?_cons_succ, List.getElem?_toArray, List.getElem?_nil, List.take_zero, List.take_succ_cons, List.take_nil, List.drop_zero, List.drop_succ_cons, List.drop_nil, List.headD_cons, List.tail_cons, List.flatten_cons, List.flatten_nil, List.flatMap_cons, List.flatMap_nil, List.toList_toArray, Array.toList_append, Option.bind_some, Option.map_some, Option.map_none, Option.isSome_some, List.all_nil, List.all_cons, Bool.and_self, Bool.and_true, Bool.true_and, true_and, and_true, ↓reduceIte, List.size_toArray, Bool.false_eq_true, Bool.true_eq_false, false_implies, true_implies, Bool.not_true, Bool.not_false, and_self, implies_true, decide_true, decide_false, Nat.reduceAdd, Nat.reduceMul, Nat.reduceLT, Nat.reduceSub, Nat.reduceLeDiff, Nat.reduceEqDiff, eq_self, ne_eq, not_false_eq_true, false_and, and_false, reduceCtorEq, List.filter_nil, List.filter_cons, List.isEmpty_nil, List.isEmpty_cons, bne_self_eq_false, Nat.reduceBneDiff, Nat.lt_add_one, Nat.zero_lt_succ, List.append_assoc, Nat.zero_le, and_self_iff, Int.reduceToNat, decide_eq_true_eq, decide_eq_false_iff_not, beq_iff_eq, Int.toNat_natCast, loopK_normal, loopK_exit, loopK_ret, w2]
            (repeat (refine And.intro ?_ ?_; focus (((repeat' apply And.intro) <;> first | exact rowsOf_w _ | omega | (simp only [List.length_append, rowsOf_len, List.length_cons, List.length_nil, marks_len, List.length_take, List.length_drop, List.length_set]; omega) | exact ⟨_, rfl⟩ | (refine ⟨_, rfl, ?_⟩; omega) | (refine ⟨_, rfl, ?_⟩; simp only [List.length_append, rowsOf_len, List.length_cons, List.length_nil, marks_len, List.length_take, List.length_drop, List.length_set]; omega) | kernel_rfl | (simp; done)); done)))
            rw [Bool.and_assoc (ks[k].a == ks2[k].a)] at hinv
            by_cases he : (ks[k].a == ks2[k].a && (ks[k].l == ks2[k].l && ks[k].u == ks2[k].u)) = true
            · rw [if_neg (by rw [he]; decide)]
              rw [he, Bool.true_and] at hinv
              refine ⟨k + 1, [], ⟨by omega, hinv⟩, by omega, ?_, by simp [keepIds]⟩
              (refine ⟨?_, ?_, ?_⟩ <;> simp [fitT, fit1, fitH, fitB, emptyB, rn, lk, AV.ren, AV.ren.renL, Blk.ren, blkIds, blkPids, AV.ids, AV.ids.idsL, AV.pids, AV.pids.pidsL, Blk.there])
            · rw [Bool.not_eq_true] at he
              rw [if_pos (by rw [he]; rfl)]
              rw [he, Bool.false_and] at hinv
              rw [hinv, Bool.false_and]
              (refine ⟨_, [], rfl, ⟨⟨⟨?_, rfl, rfl⟩, trivial⟩, by simp [hpAt, fitH], by simp [hpAt]⟩⟩; refine congrArg (fun b => AV.v (Value.bool b)) ?_; first | rfl | (rw [Bool.eq_iff_iff]; simp only [decide_eq_true_eq, frB, inZ, Bool.false_eq_true, beq_eq_false_iff_ne, beq_iff_eq, ne_eq, decide_eq_false_iff_not, Bool.not_eq_eq_eq_not, Bool.not_true, Bool.not_false, false_iff, iff_false, true_iff, iff_true] at *; omega))
          · have hlt : ((k : Int) < (ks.length : Int)) = False := eq_false (by omega)
            simp (maxSteps := 3000000) only [Try.f18, sb0, kRows_len, hRows_len, hlt, tY2, tY3, tY4, tY5, tY9, tY12, tY21, tY22, tY23, tY24, tY25, tY26, tY35, tY36, tY39, tY40, tY43, tY49, tY50, tY60, tY61, tY62, tY63, tY69, tY73, tY88, tY89, tY112, tY113, tY119, tY121, tY132, tY141, Try.underlying2, Try.underlying3, Try.underlying4, Try.underlying5, Try.underlying9, Try.underlying12, Try.underlying21, Try.underlying22, Try.underlying23, Try.underlying24, Try.underlying25, Try.underlying26, Try.underlying35, Try.underlying36, Try.underlying39, Try.underlying40, Try.underlying43, Try.underlying49, Try.underlying50, Try.underlying60, Try.underlying61, Try.underlying62, Try.underlying63, Try.underlying69, Try.underlying73, Try.underlying88, Try.underlying89, Try.underlying112, Try.underlying113, Try.underlying119, Try.underlying121, Try.underlying132, Try.underlying141, e_skip, e_label, e_ret, e_exit, e_seq, e_cond, e_block, e_region, seqK_normal, seqK_ret, seqK_exit, blkK_normal, blkK_ret, blkK_exit, condK_some, regK_true, regK_false, e_nil, e_cons, gateK_go, gateK_skip, gateK_ask, pickK_some, exK_some, x_pick, x_move, x_assign, x_alloc, x_box, x_build, x_buildSlice, x_load, x_store, x_binOp, x_unOp, x_convert, x_makeSlice, x_slice, x_fieldAddr, x_field, x_indexAddr, x_extract, x_nilCheck, x_call, x_len, x_append, x_min, oMin, x_copy, oCopy, eqAVs, callK_some, done_ret, done_normal, doneO_ret, doneO_normal, endsO_one, endsO_nil, endsO_more, ownAbs, frzAbs, leafs, leafs.leafsL, uniq, idxOf, bk, zipB, Blk.liveB, gate_none, gate_some, gateS_none, gateS_some, gateV_bool, gateV_undef, boolOf, evA, putT, refn, fpD, oBin, oUn, upsl, upl, up, ups, lk, dstsOf, resL, resA, packA, oLoad, oStore, oAlloc, oBox, oBuild, oBuildSlice, oMake, oAppend, oIndexAddr, oFieldAddr, oField, oExtract, oNil, oSlice, oLen, oConvert, rowLoad, fillA, fillR, dk, dks, dkRows, frz, loOf, hiOf, lenOf, rowsOf, nilV, lenV, putAt, views, viewsOk, CK.av, CK.ok, AV.cells, AV.one, Value.oneCell', Value.cells, pureAbs, nrm, nrm.nrmL, hpAt, sh, AV.ren, AV.ren.renL, Blk.ren, fpOf, footO, foot, blkIds, AV.ids, AV.ids.idsL, Op.operands, Call.operands, List.find?_cons, List.find?_nil, Nat.reduceBEq, beq_self_eq_true, List.map_cons, List.map_nil, List.getD_cons_zero, List.getD_cons_succ, List.getD_nil, List.set_cons_zero, List.set_cons_succ, List.length_cons, List.length_nil, List.replicate, List.cons_append, List.nil_append, List.append_nil, List.getElem?_cons_zero, List.getElem?_cons_succ, List.getElem?_toArray, List.getElem?_nil, List.take_zero, List.take_succ_cons, List.take_nil, List.drop_zero, List.drop_succ_cons, List.drop_nil, List.headD_cons, List.tail_cons, List.flatten_cons, List.flatten_nil, List.flatMap_cons, List.flatMap_nil, List.toList_toArray, Array.toList_append, Option.bind_some, Option.map_some, Option.map_none, Option.isSome_some, List.all_nil, List.all_cons, Bool.and_self, Bool.and_true, Bool.true_and, true_and, and_true, ↓reduceIte, List.size_toArray, Bool.false_eq_true, Bool.true_eq_false, false_implies, true_implies, Bool.not_true, Bool.not_false, and_self, implies_true, decide_true, decide_false, Nat.reduceAdd, Nat.reduceMul, Nat.reduceLT, Nat.reduceSub, Nat.reduceLeDiff, Nat.reduceEqDiff, eq_self, ne_eq, not_false_eq_true, false_and, and_false, reduceCtorEq, List.filter_nil, List.filter_cons, List.isEmpty_nil, List.isEmpty_cons, bne_self_eq_false, Nat.reduceBneDiff, Nat.lt_add_one, Nat.zero_lt_succ, List.append_assoc, Nat.zero_le, and_self_iff, Int.reduceToNat, decide_eq_true_eq, decide_eq_false_iff_not, beq_iff_eq, Int.toNat_natCast, loopK_normal, loopK_exit, loopK_ret, w2]
            rw [List.drop_eq_nil_of_le (by omega), List.drop_eq_nil_of_le (by omega), kEq] at hinv
            rw [hinv, Bool.true_and]
            clear hinv hk' w2 hlt
            have hh1 := hh.1
            obtain rfl : k = ks.length := by omega
            refine e_loop _ _ _ _ _ _ _ _ (fun k : Nat => [.any, .any, .ptr 0 0, .ptr 1 0, .any, .any, .v (.int .i64 (k : Int))] ++ List.replicate (Try.f18.ntmps - 7) .any) (fun _ => [(0, .var 26 [.l 3 (kRows ks), .l 2 (hRows hs)]), (1, .var 26 [.l 3 (kRows ks2), .l 2 (hRows hs2)])]) (fun k => k ≤ hs.length ∧ hEq hs hs2 = hEq (hs.drop k) (hs2.drop k)) (fun k => hs.length - k) 2 (fun k => by simp) ⟨0, [], ⟨by omega, rfl⟩, ?_, by simp [keepIds]⟩ fun k ⟨hk', hinv⟩ => ?_
            · simp only [Try.f18]
              (refine ⟨?_, ?_, ?_⟩ <;> simp [fitT, fit1, fitH, fitB, emptyB, rn, lk, AV.ren, AV.ren.renL, Blk.ren, blkIds, blkPids, AV.ids, AV.ids.idsL, AV.pids, AV.pids.pidsL, Blk.there])
            · have w2 : IntKind.i64.wrap ((k : Int) + 1) = ((k + 1 : Nat) : Int) := by rw [wrap_id] <;> omega
              by_cases h : k < hs.length
              · have h' : k < hs2.length := by omega
                have hrow := hRows_get hs k h
                have hrow' := hRows_get hs2 k h'
                have hlt : ((k : Int) < (hs.length : Int)) = True := eq_true (by omega)
                have hlt' : ((k : Int) < (hs2.length : Int)) = True := eq_true (by omega)
                have h0 : (0 ≤ (k : Int)) = True := eq_true (by omega)
                rw [drop_at _ _ h, drop_at _ _ h', hEq] at hinv
                simp (maxSteps := 3000000) only [Try.f18, sb0, g_sameBytes, kRows_len, hRows_len, hrow, hrow', hlt, hlt', h0, D.toI, D.toL, bytesOf_rows, tY2, tY3, tY4, tY5, tY9, tY12, tY21, tY22, tY23, tY24, tY25, tY26, tY35, tY36, tY39, tY40, tY43, tY49, tY50, tY60, tY61, tY62, tY63, tY69, tY73, tY88, tY89, tY112, tY113, tY119, tY121, tY132, tY141, Try.underlying2, Try.underlying3, Try.underlying4, Try.underlying5, Try.underlying9, Try.underlying12, Try.underlying21, Try.underlying22, Try.underlying23, Try.underlying24, Try.underlying25, Try.underlying26, Try.underlying35, Try.underlying36, Try.underlying39, Try.underlying40, Try.underlying43, Try.underlying49, Try.underlying50, Try.underlying60, Try.underlying61, Try.underlying62, Try.underlying63, Try.underlying69, Try.underlying73, Try.underlying88, Try.underlying89, Try.underlying112, Try.underlying113, Try.underlying119, Try.underlying121, Try.underlying132, Try.underlying141, e_skip, e_label, e_ret, e_exit, e_seq, e_cond, e_block, e_region, seqK_normal, seqK_ret, seqK_exit, blkK_normal, blkK_ret, blkK_exit, condK_some, regK_true, regK_false, e_nil, e_cons, gateK_go, gateK_skip, gateK_ask, pickK_some, exK_some, x_pick, x_move, x_assign, x_alloc, x_box, x_build, x_buildSlice, x_load, x_store, x_binOp, x_unOp, x_convert, x_makeSlice, x_slice, x_fieldAddr, x_field, x_indexAddr, x_extract, x_nilCheck, x_call, x_len, x_append, x_min, oMin, x_copy, oCopy, eqAVs, callK_some, done_ret, done_normal, doneO_ret, doneO_normal, endsO_one, endsO_nil, endsO_more, ownAbs, frzAbs, leafs, leafs.leafsL, uniq, idxOf, bk, zipB, Blk.liveB, gate_none, gate_some, gateS_none, gateS_some, gateV_bool, gateV_undef, boolOf, evA, putT, refn, fpD, oBin, oUn, upsl, upl, up, ups, lk, dstsOf, resL, resA, packA, oLoad, oStore, oAlloc, oBox, oBuild, oBuildSlice, oMake, oAppend, oIndexAddr, oFieldAddr, oField, oExtract, oNil, oSlice, oLen, oConvert, rowLoad, fillA, fillR, dk, dks, dkRows, frz, loOf, hiOf, lenOf, rowsOf, nilV, lenV, putAt, views, viewsOk, CK.av, CK.ok, AV.cells, AV.one, Value.oneCell', Value.cells, pureAbs, nrm, nrm.nrmL, hpAt, sh, AV.ren, AV.ren.renL, Blk.ren, fpOf, footO, foot, blkIds, AV.ids, AV.ids.idsL, Op.operands, Call.operands, List.find?_cons, List.find?_nil, Nat.reduceBEq, beq_self_eq_true, List.map_cons, List.map_nil, List.getD_cons_zero, List.getD_cons_succ, List.getD_nil, List.set_cons_zero, List.set_cons_succ, List.length_cons, List.length_nil, List.replicate, List.cons_append, List.nil_append, List.append_nil, List.getElem?_cons_zero, List.getElem?_cons_succ, List.getElem?_toArray, List.getElem?_nil, List.take_zero, List.take_succ_cons, List.take_nil, List.drop_zero, List.drop_succ_cons, List.drop_nil, List.headD_cons, List.tail_cons, List.flatten_cons, List.flatten_nil, List.flatMap_cons, List.flatMap_nil, List.toList_toArray, Array.toList_append, Option.bind_some, Option.map_some, Option.map_none, Option.isSome_some, List.all_nil, List.all_cons, Bool.and_self, Bool.and_true, Bool.true_and, true_and, and_true, ↓reduceIte, List.size_toArray, Bool.false_eq_true, Bool.true_eq_false, false_implies, true_implies, Bool.not_true, Bool.not_false, and_self, implies_true, decide_true, decide_false, Nat.reduceAdd, Nat.reduceMul, Nat.reduceLT, Nat.reduceSub, Nat.reduceLeDiff, Nat.reduceEqDiff, eq_self, ne_eq, not_false_eq_true, false_and, and_false, reduceCtorEq, List.filter_nil, List.filter_cons, List.isEmpty_nil, List.isEmpty_cons, bne_self_eq_false, Nat.reduceBneDiff, Nat.lt_add_one, Nat.zero_lt_succ, List.append_assoc, Nat.zero_le, and_self_iff, Int.reduceToNat, decide_eq_true_eq, decide_eq_false_iff_not, beq_iff_eq, Int.toNat_natCast, loopK_normal, loopK_exit, loopK_ret, w2]
                by_cases he1 : hs[k].a = hs2[k].a
                · rw [if_pos (by simp [he1])]
                  have e1 : (hs[k].a == hs2[k].a) = true := by simp [he1]
                  rw [e1, Bool.true_and] at hinv
                  (repeat (refine And.intro ?_ ?_; focus (((repeat' apply And.intro) <;> first | exact rowsOf_w _ | omega | (simp only [List.length_append, rowsOf_len, List.length_cons, List.length_nil, marks_len, List.length_take, List.length_drop, List.length_set]; omega) | exact ⟨_, rfl⟩ | (refine ⟨_, rfl, ?_⟩; omega) | (refine ⟨_, rfl, ?_⟩; simp only [List.length_append, rowsOf_len, List.length_cons, List.length_nil, marks_len, List.length_take, List.length_drop, List.length_set]; omega) | kernel_rfl | (simp; done)); done)))
                  by_cases he : (hs[k].d == hs2[k].d) = true
                  · rw [if_neg (by rw [he]; decide)]
                    rw [he, Bool.true_and] at hinv
                    refine ⟨k + 1, [], ⟨by omega, hinv⟩, by omega, ?_, by simp [keepIds]⟩
                    (refine ⟨?_, ?_, ?_⟩ <;> simp [fitT, fit1, fitH, fitB, emptyB, rn, lk, AV.ren, AV.ren.renL, Blk.ren, blkIds, blkPids, AV.ids, AV.ids.idsL, AV.pids, AV.pids.pidsL, Blk.there])
                  · rw [Bool.not_eq_true] at he
                    rw [if_pos (by rw [he]; rfl)]
                    rw [he, Bool.false_and] at hinv
                    rw [hinv]
                    (refine ⟨_, [], rfl, ⟨⟨⟨?_, rfl, rfl⟩, trivial⟩, by simp [hpAt, fitH], by simp [hpAt]⟩⟩; refine congrArg (fun b => AV.v (Value.bool b)) ?_; first | rfl | (rw [Bool.eq_iff_iff]; simp only [decide_eq_true_eq, frB, inZ, Bool.false_eq_true, beq_eq_false_iff_ne, beq_iff_eq, ne_eq, decide_eq_false_iff_not, Bool.not_eq_eq_eq_not, Bool.not_true, Bool.not_false, false_iff, iff_false, true_iff, iff_true] at *; omega))
                · rw [if_neg (by simp [he1])]
                  have e1 : (hs[k].a == hs2[k].a) = false := by simp [he1]
                  rw [e1, Bool.false_and, Bool.false_and] at hinv
                  (repeat (refine And.intro ?_ ?_; focus (((repeat' apply And.intro) <;> first | exact rowsOf_w _ | omega | (simp only [List.length_append, rowsOf_len, List.length_cons, List.length_nil, marks_len, List.length_take, List.length_drop, List.length_set]; omega) | exact ⟨_, rfl⟩ | (refine ⟨_, rfl, ?_⟩; omega) | (refine ⟨_, rfl, ?_⟩; simp only [List.length_append, rowsOf_len, List.length_cons, List.length_nil, marks_len, List.length_take, List.length_drop, List.length_set]; omega) | kernel_rfl | (simp; done)); done)))
                  rw [hinv]
                  (refine ⟨_, [], rfl, ⟨⟨⟨?_, rfl, rfl⟩, trivial⟩, by simp [hpAt, fitH], by simp [hpAt]⟩⟩; refine congrArg (fun b => AV.v (Value.bool b)) ?_; first | rfl | (rw [Bool.eq_iff_iff]; simp only [decide_eq_true_eq, frB, inZ, Bool.false_eq_true, beq_eq_false_iff_ne, beq_iff_eq, ne_eq, decide_eq_false_iff_not, Bool.not_eq_eq_eq_not, Bool.not_true, Bool.not_false, false_iff, iff_false, true_iff, iff_true] at *; omega))
              · have hlt : ((k : Int) < (hs.length : Int)) = False := eq_false (by omega)
                simp (maxSteps := 3000000) only [Try.f18, sb0, kRows_len, hRows_len, hlt, tY2, tY3, tY4, tY5, tY9, tY12, tY21, tY22, tY23, tY24, tY25, tY26, tY35, tY36, tY39, tY40, tY43, tY49, tY50, tY60, tY61, tY62, tY63, tY69, tY73, tY88, tY89, tY112, tY113, tY119, tY121, tY132, tY141, Try.underlying2, Try.underlying3, Try.underlying4, Try.underlying5, Try.underlying9, Try.underlying12, Try.underlying21, Try.underlying22, Try.underlying23, Try.underlying24, Try.underlying25, Try.underlying26, Try.underlying35, Try.underlying36, Try.underlying39, Try.underlying40, Try.underlying43, Try.underlying49, Try.underlying50, Try.underlying60, Try.underlying61, Try.underlying62, Try.underlying63, Try.underlying69, Try.underlying73, Try.underlying88, Try.underlying89, Try.underlying112, Try.underlying113, Try.underlying119, Try.underlying121, Try.underlying132, Try.underlying141, e_skip, e_label, e_ret, e_exit, e_seq, e_cond, e_block, e_region, seqK_normal, seqK_ret, seqK_exit, blkK_normal, blkK_ret, blkK_exit, condK_some, regK_true, regK_false, e_nil, e_cons, gateK_go, gateK_skip, gateK_ask, pickK_some, exK_some, x_pick, x_move, x_assign, x_alloc, x_box, x_build, x_buildSlice, x_load, x_store, x_binOp, x_unOp, x_convert, x_makeSlice, x_slice, x_fieldAddr, x_field, x_indexAddr, x_extract, x_nilCheck, x_call, x_len, x_append, x_min, oMin, x_copy, oCopy, eqAVs, callK_some, done_ret, done_normal, doneO_ret, doneO_normal, endsO_one, endsO_nil, endsO_more, ownAbs, frzAbs, leafs, leafs.leafsL, uniq, idxOf, bk, zipB, Blk.liveB, gate_none, gate_some, gateS_none, gateS_some, gateV_bool, gateV_undef, boolOf, evA, putT, refn, fpD, oBin, oUn, upsl, upl, up, ups, lk, dstsOf, resL, resA, packA, oLoad, oStore, oAlloc, oBox, oBuild, oBuildSlice, oMake, oAppend, oIndexAddr, oFieldAddr, oField, oExtract, oNil, oSlice, oLen, oConvert, rowLoad, fillA, fillR, dk, dks, dkRows, frz, loOf, hiOf, lenOf, rowsOf, nilV, lenV, putAt, views, viewsOk, CK.av, CK.ok, AV.cells, AV.one, Value.oneCell', Value.cells, pureAbs, nrm, nrm.nrmL, hpAt, sh, AV.ren, AV.ren.renL, Blk.ren, fpOf, footO, foot, blkIds, AV.ids, AV.ids.idsL, Op.operands, Call.operands, List.find?_cons, List.find?_nil, Nat.reduceBEq, beq_self_eq_true, List.map_cons, List.map_nil, List.getD_cons_zero, List.getD_cons_succ, List.getD_nil, List.set_cons_zero, List.set_cons_succ, List.length_cons, List.length_nil, List.replicate, List.cons_append, List.nil_append, List.append_nil, List.getElem?_cons_zero, List.getElem?_cons_succ, List.getElem?_toArray, List.getElem?_nil, List.take_zero, List.take_succ_cons, List.take_nil, List.drop_zero, List.drop_succ_cons, List.drop_nil, List.headD_cons, List.tail_cons, List.flatten_cons, List.flatten_nil, List.flatMap_cons, List.flatMap_nil, List.toList_toArray, Array.toList_append, Option.bind_some, Option.map_some, Option.map_none, Option.isSome_some, List.all_nil, List.all_cons, Bool.and_self, Bool.and_true, Bool.true_and, true_and, and_true, ↓reduceIte, List.size_toArray, Bool.false_eq_true, Bool.true_eq_false, false_implies, true_implies, Bool.not_true, Bool.not_false, and_self, implies_true, decide_true, decide_false, Nat.reduceAdd, Nat.reduceMul, Nat.reduceLT, Nat.reduceSub, Nat.reduceLeDiff, Nat.reduceEqDiff, eq_self, ne_eq, not_false_eq_true, false_and, and_false, reduceCtorEq, List.filter_nil, List.filter_cons, List.isEmpty_nil, List.isEmpty_cons, bne_self_eq_false, Nat.reduceBneDiff, Nat.lt_add_one, Nat.zero_lt_succ, List.append_assoc, Nat.zero_le, and_self_iff, Int.reduceToNat, decide_eq_true_eq, decide_eq_false_iff_not, beq_iff_eq, Int.toNat_natCast, loopK_normal, loopK_exit, loopK_ret, w2]
                rw [List.drop_eq_nil_of_le (by omega), List.drop_eq_nil_of_le (by omega), hEq] at hinv
                rw [hinv]
                (refine ⟨_, [], rfl, ⟨⟨⟨?_, rfl, rfl⟩, trivial⟩, by simp [hpAt, fitH], by simp [hpAt]⟩⟩; refine congrArg (fun b => AV.v (Value.bool b)) ?_; first | rfl | (rw [Bool.eq_iff_iff]; simp only [decide_eq_true_eq, frB, inZ, Bool.false_eq_true, beq_eq_false_iff_ne, beq_iff_eq, ne_eq, decide_eq_false_iff_not, Bool.not_eq_eq_eq_not, Bool.not_true, Bool.not_false, false_iff, iff_false, true_iff, iff_true] at *; omega))
      · rw [hEq_len hne2, Bool.and_false]
        by_cases hne1 : ks.length = ks2.length
        · rw [if_pos (by simp [hne1]), if_pos (by simp; omega)]
          (refine ⟨_, [], rfl, ⟨⟨⟨?_, rfl, rfl⟩, trivial⟩, by simp [hpAt, fitH], by simp [hpAt]⟩⟩; refine congrArg (fun b => AV.v (Value.bool b)) ?_; first | rfl | (rw [Bool.eq_iff_iff]; simp only [decide_eq_true_eq, frB, inZ, Bool.false_eq_true, beq_eq_false_iff_ne, beq_iff_eq, ne_eq, decide_eq_false_iff_not, Bool.not_eq_eq_eq_not, Bool.not_true, Bool.not_false, false_iff, iff_false, true_iff, iff_true] at *; omega))
        · rw [if_neg (by simp; omega)]
          (refine ⟨_, [], rfl, ⟨⟨⟨?_, rfl, rfl⟩, trivial⟩, by simp [hpAt, fitH], by simp [hpAt]⟩⟩; refine congrArg (fun b => AV.v (Value.bool b)) ?_; first | rfl | (rw [Bool.eq_iff_iff]; simp only [decide_eq_true_eq, frB, inZ, Bool.false_eq_true, beq_eq_false_iff_ne, beq_iff_eq, ne_eq, decide_eq_false_iff_not, Bool.not_eq_eq_eq_not, Bool.not_true, Bool.not_false, false_iff, iff_false, true_iff, iff_true] at *; omega))
    · rw [kEq_len hne, Bool.false_and]
      rw [if_neg (by simp; omega)]
      (refine ⟨_, [], rfl, ⟨⟨⟨?_, rfl, rfl⟩, trivial⟩, by simp [hpAt, fitH], by simp [hpAt]⟩⟩; refine congrArg (fun b => AV.v (Value.bool b)) ?_; first | rfl | (rw [Bool.eq_iff_iff]; simp only [decide_eq_true_eq, frB, inZ, Bool.false_eq_true, beq_eq_false_iff_ne, beq_iff_eq, ne_eq, decide_eq_false_iff_not, Bool.not_eq_eq_eq_not, Bool.not_true, Bool.not_false, false_iff, iff_false, true_iff, iff_true] at *; omega))
  · cases hg
def g_hfD : PC := fun args => match args with
  | [.agg [.l _ rows, .l _ rows'], .v (.int .i64 a)] => some (∃ hs, rows' = hRows hs ∧ hMid hs, .l 1 (sRows (sentOf (hsOf rows') a)), [])
  | _ => none
set_option maxHeartbeats 0 in
set_option maxRecDepth 100000 in
theorem lawHeldFor_ok : OwnOk Try.prog 28 (ocOf g_hfD) := by
  refine OwnOk.of_vcD (G := []) (by simp) mixed Try.func28 (by kernel_rfl) rfl ?_
  intro args cnd r bs hg hc
  unfold g_hfD at hg
  split at hg
  · rename_i sz rows sz' rows' a
    cases hg
    obtain ⟨hs, rfl, hh, hd⟩ := hc
    rw [hsOf_rows]
    refine ⟨⟨rfl, by simp [AV.ids, AV.ids.idsL]⟩, [.agg [.l sz rows, .l 2 (hRows hs)], .v (.int .i64 a)], rfl, fun w Z s vs h => CvL.ok (.cons (.cons (.refl _) (.cons (.l _ _ _ (hRows_w hs)) .nil)) (.cons (.refl _) .nil)) h, ?_⟩
    simp (maxSteps := 3000000) only [Try.f28, hRows_len, tY2, tY3, tY4, tY5, tY9, tY12, tY21, tY22, tY23, tY24, tY25, tY26, tY35, tY36, tY39, tY40, tY43, tY49, tY50, tY60, tY61, tY62, tY63, tY69, tY73, tY88, tY89, tY112, tY113, tY119, tY121, tY132, tY141, Try.underlying2, Try.underlying3, Try.underlying4, Try.underlying5, Try.underlying9, Try.underlying12, Try.underlying21, Try.underlying22, Try.underlying23, Try.underlying24, Try.underlying25, Try.underlying26, Try.underlying35, Try.underlying36, Try.underlying39, Try.underlying40, Try.underlying43, Try.underlying49, Try.underlying50, Try.underlying60, Try.underlying61, Try.underlying62, Try.underlying63, Try.underlying69, Try.underlying73, Try.underlying88, Try.underlying89, Try.underlying112, Try.underlying113, Try.underlying119, Try.underlying121, Try.underlying132, Try.underlying141, e_skip, e_label, e_ret, e_exit, e_seq, e_cond, e_block, e_region, seqK_normal, seqK_ret, seqK_exit, blkK_normal, blkK_ret, blkK_exit, condK_some, regK_true, regK_false, e_nil, e_cons, gateK_go, gateK_skip, gateK_ask, pickK_some, exK_some, x_pick, x_move, x_assign, x_alloc, x_box, x_build, x_buildSlice, x_load, x_store, x_binOp, x_unOp, x_convert, x_makeSlice, x_slice, x_fieldAddr, x_field, x_indexAddr, x_extract, x_nilCheck, x_call, x_len, x_append, x_min, oMin, x_copy, oCopy, eqAVs, callK_some, done_ret, done_normal, doneO_ret, doneO_normal, endsO_one, endsO_nil, endsO_more, ownAbs, frzAbs, leafs, leafs.leafsL, uniq, idxOf, bk, zipB, Blk.liveB, gate_none, gate_some, gateS_none, gateS_some, gateV_bool, gateV_undef, boolOf, evA, putT, refn, fpD, oBin, oUn, upsl, upl, up, ups, lk, dstsOf, resL, resA, packA, oLoad, oStore, oAlloc, oBox, oBuild, oBuildSlice, oMake, oAppend, oIndexAddr, oFieldAddr, oField, oExtract, oNil, oSlice, oLen, oConvert, rowLoad, fillA, fillR, dk, dks, dkRows, frz, loOf, hiOf, lenOf, rowsOf, nilV, lenV, putAt, views, viewsOk, CK.av, CK.ok, AV.cells, AV.one, Value.oneCell', Value.cells, pureAbs, nrm, nrm.nrmL, hpAt, sh, AV.ren, AV.ren.renL, Blk.ren, fpOf, footO, foot, blkIds, AV.ids, AV.ids.idsL, Op.operands, Call.operands, List.find?_cons, List.find?_nil, Nat.reduceBEq, beq_self_eq_true, List.map_cons, List.map_nil, List.getD_cons_zero, List.getD_cons_succ, List.getD_nil, List.set_cons_zero, List.set_cons_succ, List.length_cons, List.length_nil, List.replicate, List.cons_append, List.nil_append, List.append_nil, List.getElem?_cons_zero, List.getElem?_cons_succ, List.getElem?_toArray, List.getElem?_nil, List.take_zero, List.take_succ_cons, List.take_nil, List.drop_zero, List.drop_succ_cons, List.drop_nil, List.headD_cons, List.tail_cons, List.flatten_cons, List.flatten_nil, List.flatMap_cons, List.flatMap_nil, List.toList_toArray, Array.toList_append, Option.bind_some, Option.map_some, Option.map_none, Option.isSome_some, List.all_nil, List.all_cons, Bool.and_self, Bool.and_true, Bool.true_and, true_and, and_true, ↓reduceIte, List.size_toArray, Bool.false_eq_true, Bool.true_eq_false, false_implies, true_implies, Bool.not_true, Bool.not_false, and_self, implies_true, decide_true, decide_false, Nat.reduceAdd, Nat.reduceMul, Nat.reduceLT, Nat.reduceSub, Nat.reduceLeDiff, Nat.reduceEqDiff, eq_self, ne_eq, not_false_eq_true, false_and, and_false, reduceCtorEq, List.filter_nil, List.filter_cons, List.isEmpty_nil, List.isEmpty_cons, bne_self_eq_false, Nat.reduceBneDiff, Nat.lt_add_one, Nat.zero_lt_succ, List.append_assoc, Nat.zero_le, and_self_iff, Int.reduceToNat, decide_eq_true_eq, decide_eq_false_iff_not, beq_iff_eq, Int.toNat_natCast, doneD_ret, doneD_normal]
    refine e_loop _ _ _ _ _ _ _ _ (fun k : Nat => [.any, .v (.int .i64 a), .ptr 0 0, .any, .any, .own 1, .v (.int .i64 (k : Int))] ++ List.replicate (Try.f28.ntmps - 7) .any) (fun k => [(0, .var 26 [.l sz rows, .l 2 (hRows hs)]), (1, .sl 22 1 (sRows (sentOf (hs.take k) a)))]) (fun k => k ≤ hs.length) (fun k => hs.length - k) 2 (fun k => by simp) ⟨0, [(0, some 0), (1, some 32)], by omega, ?_, by simp [keepIds]⟩ fun k hk' => ?_
    · simp only [Try.f28, List.take_zero, sentOf, List.filter_nil, List.map_nil, show sRows [] = [] from rfl]
      (refine ⟨?_, ?_, ?_⟩ <;> simp [fitT, fit1, fitH, fitB, emptyB, rn, lk, AV.ren, AV.ren.renL, Blk.ren, blkIds, blkPids, AV.ids, AV.ids.idsL, AV.pids, AV.pids.pidsL, Blk.there])
    · have w2 : IntKind.i64.wrap ((k : Int) + 1) = ((k + 1 : Nat) : Int) := by rw [wrap_id] <;> omega
      by_cases h : k < hs.length
      · have hrow := hRows_get hs k h
        have hlt : ((k : Int) < (hs.length : Int)) = True := eq_true (by omega)
        have h0 : (0 ≤ (k : Int)) = True := eq_true (by omega)
        have hdk := hd hs[k] (List.getElem_mem h)
        by_cases he : hs[k].a = a
        · have he' : (hs[k].a = a) = True := eq_true he
          simp (maxSteps := 3000000) only [Try.f28, hRows_len, sRows_len, hrow, hlt, h0, he', D.toI, D.toL, rowsOf_len, tY2, tY3, tY4, tY5, tY9, tY12, tY21, tY22, tY23, tY24, tY25, tY26, tY35, tY36, tY39, tY40, tY43, tY49, tY50, tY60, tY61, tY62, tY63, tY69, tY73, tY88, tY89, tY112, tY113, tY119, tY121, tY132, tY141, Try.underlying2, Try.underlying3, Try.underlying4, Try.underlying5, Try.underlying9, Try.underlying12, Try.underlying21, Try.underlying22, Try.underlying23, Try.underlying24, Try.underlying25, Try.underlying26, Try.underlying35, Try.underlying36, Try.underlying39, Try.underlying40, Try.underlying43, Try.underlying49, Try.underlying50, Try.underlying60, Try.underlying61, Try.underlying62, Try.underlying63, Try.underlying69, Try.underlying73, Try.underlying88, Try.underlying89, Try.underlying112, Try.underlying113, Try.underlying119, Try.underlying121, Try.underlying132, Try.underlying141, e_skip, e_label, e_ret, e_exit, e_seq, e_cond, e_block, e_region, seqK_normal, seqK_ret, seqK_exit, blkK_normal, blkK_ret, blkK_exit, condK_some, regK_true, regK_false, e_nil, e_cons, gateK_go, gateK_skip, gateK_ask, pickK_some, exK_some, x_pick, x_move, x_assign, x_alloc, x_box, x_build, x_buildSlice, x_load, x_store, x_binOp, x_unOp, x_convert, x_makeSlice, x_slice, x_fieldAddr, x_field, x_indexAddr, x_extract, x_nilCheck, x_call, x_len, x_append, x_min, oMin, x_copy, oCopy, eqAVs, callK_some, done_ret, done_normal, doneO_ret, doneO_normal, endsO_one, endsO_nil, endsO_more, ownAbs, frzAbs, leafs, leafs.leafsL, uniq, idxOf, bk, zipB, Blk.liveB, gate_none, gate_some, gateS_none, gateS_some, gateV_bool, gateV_undef, boolOf, evA, putT, refn, fpD, oBin, oUn, upsl, upl, up, ups, lk, dstsOf, resL, resA, packA, oLoad, oStore, oAlloc, oBox, oBuild, oBuildSlice, oMake, oAppend, oIndexAddr, oFieldAddr, oField, oExtract, oNil, oSlice, oLen, oConvert, rowLoad, fillA, fillR, dk, dks, dkRows, frz, loOf, hiOf, lenOf, rowsOf, nilV, lenV, putAt, views, viewsOk, CK.av, CK.ok, AV.cells, AV.one, Value.oneCell', Value.cells, pureAbs, nrm, nrm.nrmL, hpAt, sh, AV.ren, AV.ren.renL, Blk.ren, fpOf, footO, foot, blkIds, AV.ids, AV.ids.idsL, Op.operands, Call.operands, List.find?_cons, List.find?_nil, Nat.reduceBEq, beq_self_eq_true, List.map_cons, List.map_nil, List.getD_cons_zero, List.getD_cons_succ, List.getD_nil, List.set_cons_zero, List.set_cons_succ, List.length_cons, List.length_nil, List.replicate, List.cons_append, List.nil_append, List.append_nil, List.getElem?_cons_zero, List.getElem?_cons_succ, List.getElem?_toArray, List.getElem?_nil, List.take_zero, List.take_succ_cons, List.take_nil, List.drop_zero, List.drop_succ_cons, List.drop_nil, List.headD_cons, List.tail_cons, List.flatten_cons, List.flatten_nil, List.flatMap_cons, List.flatMap_nil, List.toList_toArray, Array.toList_append, Option.bind_some, Option.map_some, Option.map_none, Option.isSome_some, List.all_nil, List.all_cons, Bool.and_self, Bool.and_true, Bool.true_and, true_and, and_true, ↓reduceIte, List.size_toArray, Bool.false_eq_true, Bool.true_eq_false, false_implies, true_implies, Bool.not_true, Bool.not_false, and_self, implies_true, decide_true, decide_false, Nat.reduceAdd, Nat.reduceMul, Nat.reduceLT, Nat.reduceSub, Nat.reduceLeDiff, Nat.reduceEqDiff, eq_self, ne_eq, not_false_eq_true, false_and, and_false, reduceCtorEq, List.filter_nil, List.filter_cons, List.isEmpty_nil, List.isEmpty_cons, bne_self_eq_false, Nat.reduceBneDiff, Nat.lt_add_one, Nat.zero_lt_succ, List.append_assoc, Nat.zero_le, and_self_iff, Int.reduceToNat, decide_eq_true_eq, decide_eq_false_iff_not, beq_iff_eq, Int.toNat_natCast, doneD_ret, doneD_normal, loopK_normal, loopK_exit, loopK_ret, w2]
          have hlen : (sentOf (hs.take k) a).length ≤ 1048576 := by have := filter_le (fun h : HE => h.a == a) hs k; unfold sentOf; rw [List.length_map]; omega
          have e1 : sRows (sentOf (hs.take k) a) ++ [[D.l 1 (rowsOfBytes hs[k].d)]] = sRows (sentOf (hs.take (k + 1)) a) := by
            rw [sentOf, sentOf, filter_take _ _ _ h, if_pos (by simp [he]), List.map_append, ← sRows_app]; rfl
          rw [e1]
          refine ⟨⟨by omega, by omega, by simp⟩, k + 1, [(1, some 338)], by omega, by omega, ?_, by simp [keepIds]⟩
          clear e1 hrow hlt h0 w2 he' hdk hlen
          (refine ⟨?_, ?_, ?_⟩ <;> simp [fitT, fit1, fitH, fitB, emptyB, rn, lk, AV.ren, AV.ren.renL, Blk.ren, blkIds, blkPids, AV.ids, AV.ids.idsL, AV.pids, AV.pids.pidsL, Blk.there])
        · have he' : (hs[k].a = a) = False := eq_false he
          simp (maxSteps := 3000000) only [Try.f28, hRows_len, sRows_len, hrow, hlt, h0, he', D.toI, D.toL, rowsOf_len, tY2, tY3, tY4, tY5, tY9, tY12, tY21, tY22, tY23, tY24, tY25, tY26, tY35, tY36, tY39, tY40, tY43, tY49, tY50, tY60, tY61, tY62, tY63, tY69, tY73, tY88, tY89, tY112, tY113, tY119, tY121, tY132, tY141, Try.underlying2, Try.underlying3, Try.underlying4, Try.underlying5, Try.underlying9, Try.underlying12, Try.underlying21, Try.underlying22, Try.underlying23, Try.underlying24, Try.underlying25, Try.underlying26, Try.underlying35, Try.underlying36, Try.underlying39, Try.underlying40, Try.underlying43, Try.underlying49, Try.underlying50, Try.underlying60, Try.underlying61, Try.underlying62, Try.underlying63, Try.underlying69, Try.underlying73, Try.underlying88, Try.underlying89, Try.underlying112, Try.underlying113, Try.underlying119, Try.underlying121, Try.underlying132, Try.underlying141, e_skip, e_label, e_ret, e_exit, e_seq, e_cond, e_block, e_region, seqK_normal, seqK_ret, seqK_exit, blkK_normal, blkK_ret, blkK_exit, condK_some, regK_true, regK_false, e_nil, e_cons, gateK_go, gateK_skip, gateK_ask, pickK_some, exK_some, x_pick, x_move, x_assign, x_alloc, x_box, x_build, x_buildSlice, x_load, x_store, x_binOp, x_unOp, x_convert, x_makeSlice, x_slice, x_fieldAddr, x_field, x_indexAddr, x_extract, x_nilCheck, x_call, x_len, x_append, x_min, oMin, x_copy, oCopy, eqAVs, callK_some, done_ret, done_normal, doneO_ret, doneO_normal, endsO_one, endsO_nil, endsO_more, ownAbs, frzAbs, leafs, leafs.leafsL, uniq, idxOf, bk, zipB, Blk.liveB, gate_none, gate_some, gateS_none, gateS_some, gateV_bool, gateV_undef, boolOf, evA, putT, refn, fpD, oBin, oUn, upsl, upl, up, ups, lk, dstsOf, resL, resA, packA, oLoad, oStore, oAlloc, oBox, oBuild, oBuildSlice, oMake, oAppend, oIndexAddr, oFieldAddr, oField, oExtract, oNil, oSlice, oLen, oConvert, rowLoad, fillA, fillR, dk, dks, dkRows, frz, loOf, hiOf, lenOf, rowsOf, nilV, lenV, putAt, views, viewsOk, CK.av, CK.ok, AV.cells, AV.one, Value.oneCell', Value.cells, pureAbs, nrm, nrm.nrmL, hpAt, sh, AV.ren, AV.ren.renL, Blk.ren, fpOf, footO, foot, blkIds, AV.ids, AV.ids.idsL, Op.operands, Call.operands, List.find?_cons, List.find?_nil, Nat.reduceBEq, beq_self_eq_true, List.map_cons, List.map_nil, List.getD_cons_zero, List.getD_cons_succ, List.getD_nil, List.set_cons_zero, List.set_cons_succ, List.length_cons, List.length_nil, List.replicate, List.cons_append, List.nil_append, List.append_nil, List.getElem?_cons_zero, List.getElem?_cons_succ, List.getElem?_toArray, List.getElem?_nil, List.take_zero, List.take_succ_cons, List.take_nil, List.drop_zero, List.drop_succ_cons, List.drop_nil, List.headD_cons, List.tail_cons, List.flatten_cons, List.flatten_nil, List.flatMap_cons, List.flatMap_nil, List.toList_toArray, Array.toList_append, Option.bind_some, Option.map_some, Option.map_none, Option.isSome_some, List.all_nil, List.all_cons, Bool.and_self, Bool.and_true, Bool.true_and, true_and, and_true, ↓reduceIte, List.size_toArray, Bool.false_eq_true, Bool.true_eq_false, false_implies, true_implies, Bool.not_true, Bool.not_false, and_self, implies_true, decide_true, decide_false, Nat.reduceAdd, Nat.reduceMul, Nat.reduceLT, Nat.reduceSub, Nat.reduceLeDiff, Nat.reduceEqDiff, eq_self, ne_eq, not_false_eq_true, false_and, and_false, reduceCtorEq, List.filter_nil, List.filter_cons, List.isEmpty_nil, List.isEmpty_cons, bne_self_eq_false, Nat.reduceBneDiff, Nat.lt_add_one, Nat.zero_lt_succ, List.append_assoc, Nat.zero_le, and_self_iff, Int.reduceToNat, decide_eq_true_eq, decide_eq_false_iff_not, beq_iff_eq, Int.toNat_natCast, doneD_ret, doneD_normal, loopK_normal, loopK_exit, loopK_ret, w2]
          have e1 : sentOf (hs.take (k + 1)) a = sentOf (hs.take k) a := by rw [sentOf, sentOf, filter_take _ _ _ h, if_neg (by simp [he]), List.append_nil]
          refine ⟨k + 1, [], by omega, by omega, ?_, by simp [keepIds]⟩
          rw [e1]
          clear e1 hrow hlt h0 w2 he' hdk
          (refine ⟨?_, ?_, ?_⟩ <;> simp [fitT, fit1, fitH, fitB, emptyB, rn, lk, AV.ren, AV.ren.renL, Blk.ren, blkIds, blkPids, AV.ids, AV.ids.idsL, AV.pids, AV.pids.pidsL, Blk.there])
      · have hlt : ((k : Int) < (hs.length : Int)) = False := eq_false (by omega)
        simp (maxSteps := 3000000) only [Try.f28, hRows_len, hlt, tY2, tY3, tY4, tY5, tY9, tY12, tY21, tY22, tY23, tY24, tY25, tY26, tY35, tY36, tY39, tY40, tY43, tY49, tY50, tY60, tY61, tY62, tY63, tY69, tY73, tY88, tY89, tY112, tY113, tY119, tY121, tY132, tY141, Try.underlying2, Try.underlying3, Try.underlying4, Try.underlying5, Try.underlying9, Try.underlying12, Try.underlying21, Try.underlying22, Try.underlying23, Try.underlying24, Try.underlying25, Try.underlying26, Try.underlying35, Try.underlying36, Try.underlying39, Try.underlying40, Try.underlying43, Try.underlying49, Try.underlying50, Try.underlying60, Try.underlying61, Try.underlying62, Try.underlying63, Try.underlying69, Try.underlying73, Try.underlying88, Try.underlying89, Try.underlying112, Try.underlying113, Try.underlying119, Try.underlying121, Try.underlying132, Try.underlying141, e_skip, e_label, e_ret, e_exit, e_seq, e_cond, e_block, e_region, seqK_normal, seqK_ret, seqK_exit, blkK_normal, blkK_ret, blkK_exit, condK_some, regK_true, regK_false, e_nil, e_cons, gateK_go, gateK_skip, gateK_ask, pickK_some, exK_some, x_pick, x_move, x_assign, x_alloc, x_box, x_build, x_buildSlice, x_load, x_store, x_binOp, x_unOp, x_convert, x_makeSlice, x_slice, x_fieldAddr, x_field, x_indexAddr, x_extract, x_nilCheck, x_call, x_len, x_append, x_min, oMin, x_copy, oCopy, eqAVs, callK_some, done_ret, done_normal, doneO_ret, doneO_normal, endsO_one, endsO_nil, endsO_more, ownAbs, frzAbs, leafs, leafs.leafsL, uniq, idxOf, bk, zipB, Blk.liveB, gate_none, gate_some, gateS_none, gateS_some, gateV_bool, gateV_undef, boolOf, evA, putT, refn, fpD, oBin, oUn, upsl, upl, up, ups, lk, dstsOf, resL, resA, packA, oLoad, oStore, oAlloc, oBox, oBuild, oBuildSlice, oMake, oAppend, oIndexAddr, oFieldAddr, oField, oExtract, oNil, oSlice, oLen, oConvert, rowLoad, fillA, fillR, dk, dks, dkRows, frz, loOf, hiOf, lenOf, rowsOf, nilV, lenV, putAt, views, viewsOk, CK.av, CK.ok, AV.cells, AV.one, Value.oneCell', Value.cells, pureAbs, nrm, nrm.nrmL, hpAt, sh, AV.ren, AV.ren.renL, Blk.ren, fpOf, footO, foot, blkIds, AV.ids, AV.ids.idsL, Op.operands, Call.operands, List.find?_cons, List.find?_nil, Nat.reduceBEq, beq_self_eq_true, List.map_cons, List.map_nil, List.getD_cons_zero, List.getD_cons_succ, List.getD_nil, List.set_cons_zero, List.set_cons_succ, List.length_cons, List.length_nil, List.replicate, List.cons_append, List.nil_append, List.append_nil, List.getElem?_cons_zero, List.getElem?_cons_succ, List.getElem?_toArray, List.getElem?_nil, List.take_zero, List.take_succ_cons, List.take_nil, List.drop_zero, List.drop_succ_cons, List.drop_nil, List.headD_cons, List.tail_cons, List.flatten_cons, List.flatten_nil, List.flatMap_cons, List.flatMap_nil, List.toList_toArray, Array.toList_append, Option.bind_some, Option.map_some, Option.map_none, Option.isSome_some, List.all_nil, List.all_cons, Bool.and_self, Bool.and_true, Bool.true_and, true_and, and_true, ↓reduceIte, List.size_toArray, Bool.false_eq_true, Bool.true_eq_false, false_implies, true_implies, Bool.not_true, Bool.not_false, and_self, implies_true, decide_true, decide_false, Nat.reduceAdd, Nat.reduceMul, Nat.reduceLT, Nat.reduceSub, Nat.reduceLeDiff, Nat.reduceEqDiff, eq_self, ne_eq, not_false_eq_true, false_and, and_false, reduceCtorEq, List.filter_nil, List.filter_cons, List.isEmpty_nil, List.isEmpty_cons, bne_self_eq_false, Nat.reduceBneDiff, Nat.lt_add_one, Nat.zero_lt_succ, List.append_assoc, Nat.zero_le, and_self_iff, Int.reduceToNat, decide_eq_true_eq, decide_eq_false_iff_not, beq_iff_eq, Int.toNat_natCast, doneD_ret, doneD_normal, loopK_normal, loopK_exit, loopK_ret, w2]
        obtain rfl : k = hs.length := by omega
        rw [List.take_length]
        exact ⟨_, rfl, rfl⟩
  · cases hg
end Go.Proofs.Ytdanjfnobanehaa
