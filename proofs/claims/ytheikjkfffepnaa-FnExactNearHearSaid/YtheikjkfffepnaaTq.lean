import Derived.Test.YtheikjkfffepnaaTc
import Derived.Test.YtheikjkfffepnaaR6
set_option linter.unusedVariables false
set_option linter.unusedSimpArgs false
namespace Go.Proofs.Ytheikjkfffepnaa
open Go.RowKit
set_option linter.unusedSimpArgs false

/-! the helpers of the exact laws: sizes, and what is handed in -/
theorem szLeft_eq {l : Int} {n : Nat} (hl : 0 ≤ l ∧ l ≤ 1048576) (hn : n ≤ 9223372036854775807) : szLeft l n = if IntKind.i64.wrap (l - (n : Int)) < 0 then -1 else IntKind.i64.wrap (l - (n : Int)) := by
  have w : IntKind.i64.wrap (l - (n : Int)) = l - (n : Int) := wrap_id (by omega) (by omega)
  rw [w]; rfl
theorem szLeft_bd {l : Int} {n : Nat} (hl : 0 ≤ l ∧ l ≤ 1048576) : -1 ≤ szLeft l n ∧ szLeft l n ≤ 1048576 ∧ (0 ≤ szLeft l n → n ≤ 1048576) := by
  unfold szLeft; split <;> omega
def g_szS : PC := fun args => match args with
  | [.l _ rows, .v (.int .i64 l)] => some ((0 ≤ l ∧ l ≤ 1048576) ∧ rows.length ≤ 9223372036854775807 ∧ ∃ sz, ∀ r ∈ rows, r.length = sz, .v (.int .i64 (szLeft l rows.length)), [])
  | _ => none
set_option maxRecDepth 100000 in
theorem szByteS_ok : PureOk Try.prog 52 g_szS := by
  refine PureOk.of_vc (G := []) (by simp) mixed Try.func52 (by kernel_rfl) rfl ?_
  intro args cnd r bs hg hc
  unfold g_szS at hg
  split at hg
  · rename_i sz rows l
    cases hg
    obtain ⟨hl, hn, s, hs⟩ := hc
    refine ⟨⟨rfl, by simp, by simp [AV.ids, AV.ids.idsL]⟩, [.l sz rows, .v (.int .i64 l)], rfl, fun w vs h => h, ?_⟩
    simp (maxSteps := 3000000) only [Try.f52, tY2, tY3, tY4, tY5, tY9, tY12, tY21, tY22, tY23, tY24, tY25, tY26, tY27, tY29, tY30, tY31, tY32, tY33, tY37, tY49, tY50, tY51, tY52, tY53, tY68, tY70, tY87, tY96, Try.underlying2, Try.underlying3, Try.underlying4, Try.underlying5, Try.underlying9, Try.underlying12, Try.underlying21, Try.underlying22, Try.underlying23, Try.underlying24, Try.underlying25, Try.underlying26, Try.underlying27, Try.underlying29, Try.underlying30, Try.underlying31, Try.underlying32, Try.underlying33, Try.underlying37, Try.underlying49, Try.underlying50, Try.underlying51, Try.underlying52, Try.underlying53, Try.underlying68, Try.underlying70, Try.underlying87, Try.underlying96, e_skip, e_label, e_ret, e_exit, e_seq, e_cond, e_block, e_region, seqK_normal, seqK_ret, seqK_exit, blkK_normal, blkK_ret, blkK_exit, condK_some, regK_true, regK_false, e_nil, e_cons, gateK_go, gateK_skip, gateK_ask, pickK_some, exK_some, x_pick, x_move, x_assign, x_alloc, x_box, x_build, x_buildSlice, x_load, x_store, x_binOp, x_unOp, x_convert, x_makeSlice, x_slice, x_fieldAddr, x_field, x_indexAddr, x_extract, x_nilCheck, x_call, x_len, x_append, x_min, oMin, x_copy, oCopy, eqAVs, callK_some, done_ret, done_normal, doneO_ret, doneO_normal, endsO_one, endsO_nil, endsO_more, ownAbs, frzAbs, leafs, leafs.leafsL, uniq, idxOf, bk, zipB, Blk.liveB, gate_none, gate_some, gateS_none, gateS_some, gateV_bool, gateV_undef, boolOf, evA, putT, refn, fpD, oBin, oUn, upsl, upl, up, ups, lk, dstsOf, resL, resA, packA, oLoadQ, oLoadKid, oStoreQ, oStoreTree, oBuildSliceQ, oBuildTree, oAppendQ, oAppendTree, isTr, isTrP, tkd, tkds, tkRows, ownOf, nodupB, deadL, treeOf, kidAbs, kidBlk, kidRows, TK.isCell, D.toL, oLoad, oStore, oAlloc, oBox, oBuild, oBuildSlice, oMake, oAppend, oIndexAddr, oFieldAddr, oField, oExtract, oNil, oSlice, oLen, oConvert, rowLoad, fillA, fillR, slB, dk, dks, dkRows, frz, loOf, hiOf, lenOf, rowsOf, nilV, lenV, putAt, views, viewsOk, CK.av, CK.ok, AV.cells, AV.one, Value.oneCell', Value.cells, pureAbs, nrm, nrm.nrmL, hpAt, sh, AV.ren, AV.ren.renL, Blk.ren, fpOf, footO, foot, blkIds, AV.ids, AV.ids.idsL, Op.operands, Call.operands, List.find?_cons, List.find?_nil, Nat.reduceBEq, beq_self_eq_true, List.map_cons, List.map_nil, List.getD_cons_zero, List.getD_cons_succ, List.getD_nil, List.set_cons_zero, List.set_cons_succ, List.length_cons, List.length_nil, List.replicate, List.cons_append, List.nil_append, List.append_nil, List.getElem?_cons_zero, List.getElem?_cons_succ, List.getElem?_toArray, List.getElem?_nil, List.take_zero, List.take_succ_cons, List.take_nil, List.drop_zero, List.drop_succ_cons, List.drop_nil, List.headD_cons, List.tail_cons, List.flatten_cons, List.flatten_nil, List.flatMap_cons, List.flatMap_nil, List.toList_toArray, Array.toList_append, Option.bind_some, Option.map_some, Option.map_none, Option.isSome_some, List.all_nil, List.all_cons, Bool.and_self, Bool.and_true, Bool.true_and, true_and, and_true, ↓reduceIte, List.size_toArray, Bool.false_eq_true, Bool.true_eq_false, false_implies, true_implies, Bool.not_true, Bool.not_false, and_self, implies_true, decide_true, decide_false, Nat.reduceAdd, Nat.reduceMul, Nat.reduceLT, Nat.reduceSub, Nat.reduceLeDiff, Nat.reduceEqDiff, eq_self, ne_eq, not_false_eq_true, false_and, and_false, reduceCtorEq, List.filter_nil, List.filter_cons, List.isEmpty_nil, List.isEmpty_cons, bne_self_eq_false, Nat.reduceBneDiff, Nat.lt_add_one, Nat.zero_lt_succ, List.append_assoc, Nat.zero_le, and_self_iff, Int.reduceToNat, List.any_nil, List.any_cons, List.filterMap_nil, List.filterMap_cons, List.contains_nil, List.contains_cons, Bool.or_false, Bool.false_or, Bool.or_true, Bool.true_or, Bool.false_and, Bool.and_false, decide_eq_true_eq, decide_eq_false_iff_not, beq_iff_eq, Int.toNat_natCast]
    rw [szLeft_eq hl hn]
    split
    · exact ⟨_, [], rfl, by (refine ⟨?_, ?_, ?_⟩ <;> simp [packA, hpAt, fitT, fit1, fitH, fitB, trE, emptyB, rn, lk, AV.ren, AV.ren.renL, Blk.ren, blkIds, blkPids, AV.ids, AV.ids.idsL, AV.pids, AV.pids.pidsL, Blk.there])⟩
    · exact ⟨_, [], rfl, by (refine ⟨?_, ?_, ?_⟩ <;> simp [packA, hpAt, fitT, fit1, fitH, fitB, trE, emptyB, rn, lk, AV.ren, AV.ren.renL, Blk.ren, blkIds, blkPids, AV.ids, AV.ids.idsL, AV.pids, AV.pids.pidsL, Blk.there])⟩
  · cases hg
theorem map_of {α β : Type} (F : α → β) (p : α → Prop) : ∀ l : List β, (∀ b ∈ l, ∃ a, b = F a ∧ p a) → ∃ xa : List α, l = xa.map F ∧ ∀ a ∈ xa, p a
  | [], _ => ⟨[], rfl, fun a h => by cases h⟩
  | b :: l, h => by
    obtain ⟨a, ha, hp⟩ := h b (by simp)
    obtain ⟨xa, h1, h2⟩ := map_of F p l fun c hc => h c (by simp [hc])
    exact ⟨a :: xa, by rw [ha, h1]; rfl, fun c hc => by
      rcases List.mem_cons.1 hc with rfl | hc
      · exact hp
      · exact h2 c hc⟩
theorem wt_row {row : List KD} {d : D} (h : WT (.sl row) d) : ∃ rows, d = .l row.length rows ∧ rows.length ≤ maxLen ∧ ∀ r ∈ rows, r.length = row.length ∧ ∀ (j : Nat) k x, row[j]? = some k → r[j]? = some x → WT k x := by
  cases h with
  | sl row rows hn hl h =>
    refine ⟨rows, rfl, hn, fun r hr => ⟨hl r hr, fun j k x h1 h2 => ?_⟩⟩
    obtain ⟨i, hi, rfl⟩ := List.getElem_of_mem hr
    exact h i j k x h1 (by unfold rowAt; rw [List.getElem?_eq_getElem hi]; exact h2)
theorem wt_int {k : IntKind} {d : D} (h : WT (.int k) d) : ∃ n, d = .v (.int k n) ∧ (Lit.int k n).wf = true := by
  cases h with
  | int k n h => exact ⟨n, rfl, h⟩
theorem wt_bytes {d : D} (h : WT (.sl [.int .u8]) d) : ∃ xs : List UInt8, d = .l 1 (rowsOfBytes xs) ∧ xs.length ≤ maxLen := by
  obtain ⟨rows, rfl, hn, hr⟩ := wt_row h
  obtain ⟨xs, h1, _⟩ := map_of (fun x : UInt8 => [D.v (.int .u8 (x.toNat : Int))]) (fun _ => True) rows fun r hm => by
    obtain ⟨h1, h2⟩ := hr r hm
    match r, h1 with
    | [x], _ =>
      obtain ⟨n, rfl, hw⟩ := wt_int (h2 0 _ x rfl rfl)
      have hb : 0 ≤ n ∧ n ≤ 255 := by simpa [Lit.wf, IntKind.min, IntKind.max, IntKind.signed, IntKind.bits] using hw
      exact ⟨UInt8.ofNat n.toNat, by rw [UInt8.toNat_ofNat']; congr 3; omega, trivial⟩
  refine ⟨xs, by rw [h1]; rfl, ?_⟩
  rw [h1, List.length_map] at hn
  exact hn
end Go.Proofs.Ytheikjkfffepnaa
