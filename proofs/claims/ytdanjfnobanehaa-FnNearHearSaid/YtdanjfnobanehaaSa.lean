import Derived.Test.YtdanjfnobanehaaRz
namespace Go.Proofs.Ytdanjfnobanehaa
open Go.RowKit
set_option linter.unusedSimpArgs false

def loopK {α : Type} (S0 : List Nat) (T : α → List AV) (H : α → HP) (φ : α → Prop) (μ : α → Nat) (x : α) (K : Post) : Post := fun e tm' hp' n' => match e with | .normal => ∃ y p, φ y ∧ μ y < μ x ∧ Fits tm' hp' (T y) (H y) p ∧ keepIds S0 (H y) p = true | e => K e tm' hp' n'
section
variable (P : Program) (G : List (FuncId × Abs)) (S0 : List Nat) (K : Post) (tm : List AV) (hp : HP) (n : Nat) (a : Code)
theorem e_loop {α : Type} (T : α → List AV) (H : α → HP) (φ : α → Prop) (μ : α → Nat) (n1 : Nat) (h1 : ∀ x, ((H x).all fun p => decide (p.1 < n1)) = true) (h2 : ∃ x p, φ x ∧ Fits tm hp (T x) (H x) p ∧ keepIds S0 (H x) p = true)
    (h3 : ∀ x, φ x → vc P G S0 a (loopK S0 T H φ μ x K) (T x) (H x) n1) : vc P G S0 (.loop a) K tm hp n := by
  rw [vc]
  exact ⟨α, T, H, φ, μ, n1, h1, h2, h3⟩
variable {α : Type} (T : α → List AV) (H : α → HP) (φ : α → Prop) (μ : α → Nat) (x : α)
theorem loopK_normal : loopK S0 T H φ μ x K .normal tm hp n = ∃ y p, φ y ∧ μ y < μ x ∧ Fits tm hp (T y) (H y) p ∧ keepIds S0 (H y) p = true := rfl
theorem loopK_ret : loopK S0 T H φ μ x K .ret tm hp n = K .ret tm hp n := rfl
theorem loopK_exit (id : Nat) : loopK S0 T H φ μ x K (.exit id) tm hp n = K (.exit id) tm hp n := rfl
end

/-! odd -/
def g_odd : OC := fun args B0 => match args, B0 with
  | [.ptr r o, .v (.int .i64 n)], [.var T [.l 1 rows, .v (.int .i64 p)]] => some (T = 113 ∧ r = 0 ∧ o = 0 ∧ (∃ xs, rows = rowsOfBytes xs ∧ xs.length ≤ 2000) ∧ 0 ≤ p ∧ p < 1099511627776 ∧ -1000000 ≤ n ∧ n ≤ 1000000,
      .v (.bool (decide (0 < n) && (pickV (bytesOfRows rows) p n == n - 1))), [.var T [.l 1 rows, .v (.int .i64 (p + if 0 < n then 1 else 0))]], [])
  | _, _ => none
def picks : List (FuncId × Abs) := [(62, ownAbs g_pick)]
theorem picks_ok : ∀ p ∈ picks, CallOk Try.prog p.1 p.2 := by
  intro p hp
  simp only [picks, List.mem_singleton] at hp
  subst hp
  exact pick_ok.call
set_option maxRecDepth 100000 in
theorem odd_ok : OwnOk Try.prog 111 g_odd := by
  refine OwnOk.of_vc (G := picks) picks_ok mixed Try.func111 (by kernel_rfl) rfl ?_
  intro args B0 cnd r B1 bs hg hc hlive
  unfold g_odd at hg
  split at hg
  · rename_i r o n T rows p
    cases hg
    obtain ⟨rfl, rfl, rfl, ⟨xs, rfl, hl⟩, hp0, hp1, hn, hn'⟩ := hc
    rw [bytesOf_rows]
    refine ⟨⟨by simp [likeBs, likeB], by simp [Blk.liveB, blkIds, AV.ids.idsL, AV.ids], by simp [AV.ids]⟩, _, rfl, fun w Z s vs h => h, ?_⟩
    clear hlive
    have wn : IntKind.i64.wrap (n - 1) = n - 1 := wrap_id (by omega) (by omega)
    simp (maxSteps := 3000000) only [Try.f111, picks, g_pick, bytesOf_rows, tY2, tY3, tY4, tY5, tY9, tY12, tY21, tY22, tY23, tY24, tY25, tY26, tY35, tY36, tY39, tY40, tY43, tY49, tY50, tY60, tY61, tY62, tY63, tY69, tY73, tY88, tY89, tY112, tY113, tY119, tY121, tY132, tY141, Try.underlying2, Try.underlying3, Try.underlying4, Try.underlying5, Try.underlying9, Try.underlying12, Try.underlying21, Try.underlying22, Try.underlying23, Try.underlying24, Try.underlying25, Try.underlying26, Try.underlying35, Try.underlying36, Try.underlying39, Try.underlying40, Try.underlying43, Try.underlying49, Try.underlying50, Try.underlying60, Try.underlying61, Try.underlying62, Try.underlying63, Try.underlying69, Try.underlying73, Try.underlying88, Try.underlying89, Try.underlying112, Try.underlying113, Try.underlying119, Try.underlying121, Try.underlying132, Try.underlying141, e_skip, e_label, e_ret, e_exit, e_seq, e_cond, e_block, e_region, seqK_normal, seqK_ret, seqK_exit, blkK_normal, blkK_ret, blkK_exit, condK_some, regK_true, regK_false, e_nil, e_cons, gateK_go, gateK_skip, gateK_ask, pickK_some, exK_some, x_pick, x_move, x_assign, x_alloc, x_box, x_build, x_buildSlice, x_load, x_store, x_binOp, x_unOp, x_convert, x_makeSlice, x_slice, x_fieldAddr, x_field, x_indexAddr, x_extract, x_nilCheck, x_call, x_len, x_append, x_min, oMin, x_copy, oCopy, eqAVs, callK_some, done_ret, done_normal, doneO_ret, doneO_normal, endsO_one, endsO_nil, endsO_more, ownAbs, frzAbs, leafs, leafs.leafsL, uniq, idxOf, bk, zipB, Blk.liveB, gate_none, gate_some, gateS_none, gateS_some, gateV_bool, gateV_undef, boolOf, evA, putT, refn, fpD, oBin, oUn, upsl, upl, up, ups, lk, dstsOf, resL, resA, packA, oLoad, oStore, oAlloc, oBox, oBuild, oBuildSlice, oMake, oAppend, oIndexAddr, oFieldAddr, oField, oExtract, oNil, oSlice, oLen, oConvert, rowLoad, fillA, fillR, dk, dks, dkRows, frz, loOf, hiOf, lenOf, rowsOf, nilV, lenV, putAt, views, viewsOk, CK.av, CK.ok, AV.cells, AV.one, Value.oneCell', Value.cells, pureAbs, nrm, nrm.nrmL, hpAt, sh, AV.ren, AV.ren.renL, Blk.ren, fpOf, footO, foot, blkIds, AV.ids, AV.ids.idsL, Op.operands, Call.operands, List.find?_cons, List.find?_nil, Nat.reduceBEq, beq_self_eq_true, List.map_cons, List.map_nil, List.getD_cons_zero, List.getD_cons_succ, List.getD_nil, List.set_cons_zero, List.set_cons_succ, List.length_cons, List.length_nil, List.replicate, List.cons_append, List.nil_append, List.append_nil, List.getElem?_cons_zero, List.getElem?_cons_succ, List.getElem?_toArray, List.getElem?_nil, List.take_zero, List.take_succ_cons, List.take_nil, List.drop_zero, List.drop_succ_cons, List.drop_nil, List.headD_cons, List.tail_cons, List.flatten_cons, List.flatten_nil, List.flatMap_cons, List.flatMap_nil, List.toList_toArray, Array.toList_append, Option.bind_some, Option.map_some, Option.map_none, Option.isSome_some, List.all_nil, List.all_cons, Bool.and_self, Bool.and_true, Bool.true_and, true_and, and_true, ↓reduceIte, List.size_toArray, Bool.false_eq_true, Bool.true_eq_false, false_implies, true_implies, Bool.not_true, Bool.not_false, and_self, implies_true, decide_true, decide_false, Nat.reduceAdd, Nat.reduceMul, Nat.reduceLT, Nat.reduceSub, Nat.reduceLeDiff, Nat.reduceEqDiff, eq_self, ne_eq, not_false_eq_true, false_and, and_false, reduceCtorEq, List.filter_nil, List.filter_cons, List.isEmpty_nil, List.isEmpty_cons, bne_self_eq_false, Nat.reduceBneDiff, Nat.lt_add_one, Nat.zero_lt_succ, List.append_assoc, Nat.zero_le, and_self_iff, Int.reduceToNat, rowsOf_len, row_toI, row_nil, row_head, decide_eq_true_eq, decide_eq_false_iff_not, beq_iff_eq, Int.toNat_natCast]
    by_cases h : 0 < n
    · rw [if_pos h]
      simp only [h, if_true, decide_true, Bool.true_and]
      rw [wn]
      exact ⟨⟨⟨xs, rfl, hl⟩, hp0, hp1⟩, [], by (refine ⟨?_, ?_, ?_⟩ <;> simp [fitT, fit1, fitH, fitB, emptyB, rn, lk, AV.ren, AV.ren.renL, Blk.ren, blkIds, blkPids, AV.ids, AV.ids.idsL, AV.pids, AV.pids.pidsL, Blk.there]), by simp [keepIds, rn, List.range, List.range.loop]⟩
    · rw [if_neg h]
      simp only [h, if_false, decide_false, Bool.false_and, Int.add_zero]
      exact ⟨[], by (refine ⟨?_, ?_, ?_⟩ <;> simp [fitT, fit1, fitH, fitB, emptyB, rn, lk, AV.ren, AV.ren.renL, Blk.ren, blkIds, blkPids, AV.ids, AV.ids.idsL, AV.pids, AV.pids.pidsL, Blk.there]), by simp [keepIds, rn, List.range, List.range.loop]⟩
  · cases hg

/-! bytes -/
def toU8 (v : Int) : UInt8 := UInt8.ofNat (IntKind.u8.wrap v).toNat
theorem toU8_val (v : Int) : ((toU8 v).toNat : Int) = IntKind.u8.wrap v := by
  rw [toU8, IntKind.wrap_u8, UInt8.toNat_ofNat']
  omega
def byteV (xs : List UInt8) (p : Int) : UInt8 := if pickV xs p 3 = 0 then toU8 (pickV xs (p + 1) 256) else toU8 (IntKind.i64.wrap (pickV xs (p + 1) 3 + 97))
def bytesV (xs : List UInt8) (p : Int) (k : Nat) : List UInt8 := (List.range k).map fun i : Nat => byteV xs (p + 2 * (i : Int))
theorem bytesV_len (xs : List UInt8) (p : Int) (k : Nat) : (bytesV xs p k).length = k := by simp [bytesV]
theorem bytesV_zero (xs : List UInt8) (p : Int) : bytesV xs p 0 = [] := rfl
theorem bytesV_rows (xs : List UInt8) (p : Int) (k : Nat) : rowsOfBytes (bytesV xs p (k + 1)) = rowsOfBytes (bytesV xs p k) ++ [[.v (.int .u8 ((byteV xs (p + 2 * (k : Int))).toNat : Int))]] := by
  simp [bytesV, List.range_succ, rowsOfBytes]
def g_bytes : OC := fun args B0 => match args, B0 with
  | [.ptr r o, .v (.int .i64 n)], [.var T [.l 1 rows, .v (.int .i64 p)]] => some (T = 113 ∧ r = 0 ∧ o = 0 ∧ (∃ xs, rows = rowsOfBytes xs ∧ xs.length ≤ 2000) ∧ 0 ≤ p ∧ p < 1000000000000 ∧ -1000000 ≤ n ∧ n ≤ 1000000,
      .own 1, [.var T [.l 1 rows, .v (.int .i64 (p + 2 * n.toNat))]], [.sl 5 1 (rowsOfBytes (bytesV (bytesOfRows rows) p n.toNat))])
  | _, _ => none
set_option maxRecDepth 100000 in
theorem bytes_ok : OwnOk Try.prog 63 g_bytes := by
  refine OwnOk.of_vc (G := picks) picks_ok mixed Try.func63 (by kernel_rfl) rfl ?_
  intro args B0 cnd r B1 bs hg hc hlive
  unfold g_bytes at hg
  split at hg
  · rename_i r o n T rows p
    cases hg
    obtain ⟨rfl, rfl, rfl, ⟨xs, rfl, hl⟩, hp0, hp1, hn0, hn1⟩ := hc
    rw [bytesOf_rows]
    refine ⟨⟨by simp [likeBs, likeB], by simp [Blk.liveB, blkIds, AV.ids.idsL, AV.ids], by simp [AV.ids]⟩, _, rfl, fun w Z s vs h => h, ?_⟩
    clear hlive
    simp (maxSteps := 3000000) only [Try.f63, picks, g_pick, bytesOf_rows, tY2, tY3, tY4, tY5, tY9, tY12, tY21, tY22, tY23, tY24, tY25, tY26, tY35, tY36, tY39, tY40, tY43, tY49, tY50, tY60, tY61, tY62, tY63, tY69, tY73, tY88, tY89, tY112, tY113, tY119, tY121, tY132, tY141, Try.underlying2, Try.underlying3, Try.underlying4, Try.underlying5, Try.underlying9, Try.underlying12, Try.underlying21, Try.underlying22, Try.underlying23, Try.underlying24, Try.underlying25, Try.underlying26, Try.underlying35, Try.underlying36, Try.underlying39, Try.underlying40, Try.underlying43, Try.underlying49, Try.underlying50, Try.underlying60, Try.underlying61, Try.underlying62, Try.underlying63, Try.underlying69, Try.underlying73, Try.underlying88, Try.underlying89, Try.underlying112, Try.underlying113, Try.underlying119, Try.underlying121, Try.underlying132, Try.underlying141, e_skip, e_label, e_ret, e_exit, e_seq, e_cond, e_block, e_region, seqK_normal, seqK_ret, seqK_exit, blkK_normal, blkK_ret, blkK_exit, condK_some, regK_true, regK_false, e_nil, e_cons, gateK_go, gateK_skip, gateK_ask, pickK_some, exK_some, x_pick, x_move, x_assign, x_alloc, x_box, x_build, x_buildSlice, x_load, x_store, x_binOp, x_unOp, x_convert, x_makeSlice, x_slice, x_fieldAddr, x_field, x_indexAddr, x_extract, x_nilCheck, x_call, x_len, x_append, x_min, oMin, x_copy, oCopy, eqAVs, callK_some, done_ret, done_normal, doneO_ret, doneO_normal, endsO_one, endsO_nil, endsO_more, ownAbs, frzAbs, leafs, leafs.leafsL, uniq, idxOf, bk, zipB, Blk.liveB, gate_none, gate_some, gateS_none, gateS_some, gateV_bool, gateV_undef, boolOf, evA, putT, refn, fpD, oBin, oUn, upsl, upl, up, ups, lk, dstsOf, resL, resA, packA, oLoad, oStore, oAlloc, oBox, oBuild, oBuildSlice, oMake, oAppend, oIndexAddr, oFieldAddr, oField, oExtract, oNil, oSlice, oLen, oConvert, rowLoad, fillA, fillR, dk, dks, dkRows, frz, loOf, hiOf, lenOf, rowsOf, nilV, lenV, putAt, views, viewsOk, CK.av, CK.ok, AV.cells, AV.one, Value.oneCell', Value.cells, pureAbs, nrm, nrm.nrmL, hpAt, sh, AV.ren, AV.ren.renL, Blk.ren, fpOf, footO, foot, blkIds, AV.ids, AV.ids.idsL, Op.operands, Call.operands, List.find?_cons, List.find?_nil, Nat.reduceBEq, beq_self_eq_true, List.map_cons, List.map_nil, List.getD_cons_zero, List.getD_cons_succ, List.getD_nil, List.set_cons_zero, List.set_cons_succ, List.length_cons, List.length_nil, List.replicate, List.cons_append, List.nil_append, List.append_nil, List.getElem?_cons_zero, List.getElem?_cons_succ, List.getElem?_toArray, List.getElem?_nil, List.take_zero, List.take_succ_cons, List.take_nil, List.drop_zero, List.drop_succ_cons, List.drop_nil, List.headD_cons, List.tail_cons, List.flatten_cons, List.flatten_nil, List.flatMap_cons, List.flatMap_nil, List.toList_toArray, Array.toList_append, Option.bind_some, Option.map_some, Option.map_none, Option.isSome_some, List.all_nil, List.all_cons, Bool.and_self, Bool.and_true, Bool.true_and, true_and, and_true, ↓reduceIte, List.size_toArray, Bool.false_eq_true, Bool.true_eq_false, false_implies, true_implies, Bool.not_true, Bool.not_false, and_self, implies_true, decide_true, decide_false, Nat.reduceAdd, Nat.reduceMul, Nat.reduceLT, Nat.reduceSub, Nat.reduceLeDiff, Nat.reduceEqDiff, eq_self, ne_eq, not_false_eq_true, false_and, and_false, reduceCtorEq, List.filter_nil, List.filter_cons, List.isEmpty_nil, List.isEmpty_cons, bne_self_eq_false, Nat.reduceBneDiff, Nat.lt_add_one, Nat.zero_lt_succ, List.append_assoc, Nat.zero_le, and_self_iff, Int.reduceToNat, rowsOf_len, row_toI, row_nil, row_head, decide_eq_true_eq, decide_eq_false_iff_not, beq_iff_eq, Int.toNat_natCast]
    refine e_loop _ _ _ _ _ _ _ _ (fun k : Nat => [.ptr 0 0, .v (.int .i64 (n - k)), .any, .any, .any, .own 1] ++ List.replicate 22 .any) (fun k => [(0, .var 113 [.l 1 (rowsOfBytes xs), .v (.int .i64 (p + 2 * (k : Int)))]), (1, .sl 5 1 (rowsOfBytes (bytesV xs p k)))]) (fun k => k ≤ n.toNat) (fun k => n.toNat - k) 2 (fun k => by simp) ⟨0, ?_⟩ fun k hk => ?_
    · rw [bytesV_zero, rowsOf_nil]
      exact ⟨[(1, some 17)], by omega, by (refine ⟨?_, ?_, ?_⟩ <;> simp [fitT, fit1, fitH, fitB, emptyB, rn, lk, AV.ren, AV.ren.renL, Blk.ren, blkIds, blkPids, AV.ids, AV.ids.idsL, AV.pids, AV.pids.pidsL, Blk.there]), by simp [keepIds, rn, List.range, List.range.loop]⟩
    · have wn : IntKind.i64.wrap (n - (k : Int) - 1) = n - ((k + 1 : Nat) : Int) := by rw [wrap_id] <;> omega
      have ep : p + 2 * (k : Int) + 1 + 1 = p + 2 * ((k + 1 : Nat) : Int) := by omega
      simp (maxSteps := 3000000) only [picks, g_pick, bytesOf_rows, tY2, tY3, tY4, tY5, tY9, tY12, tY21, tY22, tY23, tY24, tY25, tY26, tY35, tY36, tY39, tY40, tY43, tY49, tY50, tY60, tY61, tY62, tY63, tY69, tY73, tY88, tY89, tY112, tY113, tY119, tY121, tY132, tY141, Try.underlying2, Try.underlying3, Try.underlying4, Try.underlying5, Try.underlying9, Try.underlying12, Try.underlying21, Try.underlying22, Try.underlying23, Try.underlying24, Try.underlying25, Try.underlying26, Try.underlying35, Try.underlying36, Try.underlying39, Try.underlying40, Try.underlying43, Try.underlying49, Try.underlying50, Try.underlying60, Try.underlying61, Try.underlying62, Try.underlying63, Try.underlying69, Try.underlying73, Try.underlying88, Try.underlying89, Try.underlying112, Try.underlying113, Try.underlying119, Try.underlying121, Try.underlying132, Try.underlying141, e_skip, e_label, e_ret, e_exit, e_seq, e_cond, e_block, e_region, seqK_normal, seqK_ret, seqK_exit, blkK_normal, blkK_ret, blkK_exit, condK_some, regK_true, regK_false, e_nil, e_cons, gateK_go, gateK_skip, gateK_ask, pickK_some, exK_some, x_pick, x_move, x_assign, x_alloc, x_box, x_build, x_buildSlice, x_load, x_store, x_binOp, x_unOp, x_convert, x_makeSlice, x_slice, x_fieldAddr, x_field, x_indexAddr, x_extract, x_nilCheck, x_call, x_len, x_append, x_min, oMin, x_copy, oCopy, eqAVs, callK_some, done_ret, done_normal, doneO_ret, doneO_normal, endsO_one, endsO_nil, endsO_more, ownAbs, frzAbs, leafs, leafs.leafsL, uniq, idxOf, bk, zipB, Blk.liveB, gate_none, gate_some, gateS_none, gateS_some, gateV_bool, gateV_undef, boolOf, evA, putT, refn, fpD, oBin, oUn, upsl, upl, up, ups, lk, dstsOf, resL, resA, packA, oLoad, oStore, oAlloc, oBox, oBuild, oBuildSlice, oMake, oAppend, oIndexAddr, oFieldAddr, oField, oExtract, oNil, oSlice, oLen, oConvert, rowLoad, fillA, fillR, dk, dks, dkRows, frz, loOf, hiOf, lenOf, rowsOf, nilV, lenV, putAt, views, viewsOk, CK.av, CK.ok, AV.cells, AV.one, Value.oneCell', Value.cells, pureAbs, nrm, nrm.nrmL, hpAt, sh, AV.ren, AV.ren.renL, Blk.ren, fpOf, footO, foot, blkIds, AV.ids, AV.ids.idsL, Op.operands, Call.operands, List.find?_cons, List.find?_nil, Nat.reduceBEq, beq_self_eq_true, List.map_cons, List.map_nil, List.getD_cons_zero, List.getD_cons_succ, List.getD_nil, List.set_cons_zero, List.set_cons_succ, List.length_cons, List.length_nil, List.replicate, List.cons_append, List.nil_append, List.append_nil, List.getElem?_cons_zero, List.getElem?_cons_succ, List.getElem?_toArray, List.getElem?_nil, List.take_zero, List.take_succ_cons, List.take_nil, List.drop_zero, List.drop_succ_cons, List.drop_nil, List.headD_cons, List.tail_cons, List.flatten_cons, List.flatten_nil, List.flatMap_cons, List.flatMap_nil, List.toList_toArray, Array.toList_append, Option.bind_some, Option.map_some, Option.map_none, Option.isSome_some, List.all_nil, List.all_cons, Bool.and_self, Bool.and_true, Bool.true_and, true_and, and_true, ↓reduceIte, List.size_toArray, Bool.false_eq_true, Bool.true_eq_false, false_implies, true_implies, Bool.not_true, Bool.not_false, and_self, implies_true, decide_true, decide_false, Nat.reduceAdd, Nat.reduceMul, Nat.reduceLT, Nat.reduceSub, Nat.reduceLeDiff, Nat.reduceEqDiff, eq_self, ne_eq, not_false_eq_true, false_and, and_false, reduceCtorEq, List.filter_nil, List.filter_cons, List.isEmpty_nil, List.isEmpty_cons, bne_self_eq_false, Nat.reduceBneDiff, Nat.lt_add_one, Nat.zero_lt_succ, List.append_assoc, Nat.zero_le, and_self_iff, Int.reduceToNat, rowsOf_len, row_toI, row_nil, row_head, decide_eq_true_eq, decide_eq_false_iff_not, beq_iff_eq, Int.toNat_natCast, loopK_normal, loopK_exit, loopK_ret, wn, ep, bytesV_len]
      by_cases h : 0 < n - (k : Int)
      · rw [if_pos h]
        refine ⟨⟨⟨xs, rfl, hl⟩, by omega, by omega⟩, ?_⟩
        by_cases h3 : pickV xs (p + 2 * (k : Int)) 3 = 0
        · rw [if_pos h3]
          refine ⟨⟨⟨xs, rfl, hl⟩, by omega, by omega⟩, ⟨by omega, by omega, by simp⟩, k + 1, [(1, some 162)], by omega, by omega, ?_, by simp [keepIds, rn, List.range, List.range.loop]⟩
          have e : IntKind.u8.wrap (pickV xs (p + 2 * (k : Int) + 1) 256) = ((byteV xs (p + 2 * (k : Int))).toNat : Int) := by rw [byteV, if_pos h3, toU8_val]
          rw [e, bytesV_rows]
          (refine ⟨?_, ?_, ?_⟩ <;> simp [fitT, fit1, fitH, fitB, emptyB, rn, lk, AV.ren, AV.ren.renL, Blk.ren, blkIds, blkPids, AV.ids, AV.ids.idsL, AV.pids, AV.pids.pidsL, Blk.there])
        · rw [if_neg h3]
          refine ⟨⟨⟨xs, rfl, hl⟩, by omega, by omega⟩, ⟨by omega, by omega, by simp⟩, k + 1, [(1, some 178)], by omega, by omega, ?_, by simp [keepIds, rn, List.range, List.range.loop]⟩
          have e : IntKind.u8.wrap (IntKind.i64.wrap (pickV xs (p + 2 * (k : Int) + 1) 3 + 97)) = ((byteV xs (p + 2 * (k : Int))).toNat : Int) := by rw [byteV, if_neg h3, toU8_val]
          rw [e, bytesV_rows]
          (refine ⟨?_, ?_, ?_⟩ <;> simp [fitT, fit1, fitH, fitB, emptyB, rn, lk, AV.ren, AV.ren.renL, Blk.ren, blkIds, blkPids, AV.ids, AV.ids.idsL, AV.pids, AV.pids.pidsL, Blk.there])
      · rw [if_neg h]
        obtain rfl : k = n.toNat := by omega
        exact ⟨[], by (refine ⟨?_, ?_, ?_⟩ <;> simp [fitT, fit1, fitH, fitB, emptyB, rn, lk, AV.ren, AV.ren.renL, Blk.ren, blkIds, blkPids, AV.ids, AV.ids.idsL, AV.pids, AV.pids.pidsL, Blk.there]), by simp [keepIds, rn, List.range, List.range.loop]⟩
  · cases hg
end Go.Proofs.Ytdanjfnobanehaa
