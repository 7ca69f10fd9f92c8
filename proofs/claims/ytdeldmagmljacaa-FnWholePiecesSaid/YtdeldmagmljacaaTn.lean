import Derived.Test.YtdeldmagmljacaaTa
import Derived.Test.YtdeldmagmljacaaSh
namespace Go.Proofs.Ytdeldmagmljacaa
open Go.RowKit
set_option linter.unusedSimpArgs false

/-! what a station knows and keeps, as data -/
structure KE where
  a : Int
  l : Int
  u : Int
structure HE where
  a : Int
  d : List UInt8
def kRow (e : KE) : List D := [.v (.int .i64 e.a), .v (.int .i64 e.l), .v (.int .i64 e.u)]
def kRows (ks : List KE) : List (List D) := ks.map kRow
def hRow (h : HE) : List D := [.v (.int .i64 h.a), .l 1 (rowsOfBytes h.d)]
def hRows (hs : List HE) : List (List D) := hs.map hRow
def kOf (r : List D) : KE := ⟨(r.getD 0 (.v undef)).toI, (r.getD 1 (.v undef)).toI, (r.getD 2 (.v undef)).toI⟩
def hOf (r : List D) : HE := ⟨(r.getD 0 (.v undef)).toI, bytesOfRows (r.getD 1 (.v undef)).toL⟩
def ksOf (rows : List (List D)) : List KE := rows.map kOf
def hsOf (rows : List (List D)) : List HE := rows.map hOf
/-! where an address is known -/
def kAtF : List KE → Int → Nat → Int
  | [], _, _ => -1
  | e :: t, a, i => if e.a = a then (i : Int) else kAtF t a (i + 1)
def kAt (ks : List KE) (a : Int) : Int := kAtF ks a 0
def g_knownAt : PC := fun args => match args with
  | [.l _ rows, .v (.int .i64 a)] => some (∃ ks, rows = kRows ks ∧ ks.length ≤ 1099511627776, .v (.int .i64 (kAt (ksOf rows) a)), [])
  | _ => none
/-! what can be known and kept together -/
def eOk (e : KE) : Bool := decide ((0 ≤ e.a ∧ e.a ≤ 65535) ∧ (0 ≤ e.l ∧ e.l ≤ 254) ∧ 0 ≤ e.u ∧ e.u ≤ 1000000)
def hOk (h : HE) : Bool := decide ((0 ≤ h.a ∧ h.a ≤ 65535) ∧ h.d.length ≤ 64)
def kAll (ks : List KE) : Prop := ∀ i (h : i < ks.length), eOk ks[i] = true ∧ ∀ j (hj : j < i), ks[j].a ≠ ks[i].a
def hAll (hs : List HE) : Prop := ∀ i (h : i < hs.length), hOk hs[i] = true
def kOkB (ks : List KE) : Bool := decide (ks.length ≤ 4) && (List.range ks.length).all fun i => eOk (ks.getD i ⟨0, 0, 0⟩) && (List.range i).all fun j => (ks.getD j ⟨0, 0, 0⟩).a != (ks.getD i ⟨0, 0, 0⟩).a
def hOkB (hs : List HE) : Bool := decide (hs.length ≤ 4) && hs.all hOk
def nOkB (ks : List KE) (hs : List HE) : Bool := kOkB ks && hOkB hs
def g_entryOk : PC := fun args => match args with
  | [.agg [.v (.int .i64 a), .v (.int .i64 l), .v (.int .i64 u)]] => some (True, .v (.bool (eOk ⟨a, l, u⟩)), [])
  | _ => none
def g_isTime : PC := fun args => match args with
  | [.v (.int .i64 v)] => some (True, .v (.bool (inZ v 0 1000000)), [])
  | _ => none
set_option maxRecDepth 100000 in
theorem isTime_ok : PureOk Try.prog 52 g_isTime := by
  refine PureOk.of_vc (G := []) (by simp) mixed Try.func52 (by kernel_rfl) rfl ?_
  intro args cnd r bs hg hc
  unfold g_isTime at hg
  split at hg
  · rename_i v
    cases hg
    refine ⟨⟨rfl, by simp, by simp [AV.ids, AV.ids.idsL]⟩, _, rfl, fun w vs h => h, ?_⟩
    simp (maxSteps := 3000000) only [Try.f52, tY2, tY3, tY4, tY5, tY9, tY12, tY21, tY22, tY23, tY24, tY27, tY35, tY36, tY47, tY55, tY83, tY84, tY97, tY106, Try.underlying2, Try.underlying3, Try.underlying4, Try.underlying5, Try.underlying9, Try.underlying12, Try.underlying21, Try.underlying22, Try.underlying23, Try.underlying24, Try.underlying27, Try.underlying35, Try.underlying36, Try.underlying47, Try.underlying55, Try.underlying83, Try.underlying84, Try.underlying97, Try.underlying106, e_skip, e_label, e_ret, e_exit, e_seq, e_cond, e_block, e_region, seqK_normal, seqK_ret, seqK_exit, blkK_normal, blkK_ret, blkK_exit, condK_some, regK_true, regK_false, e_nil, e_cons, gateK_go, gateK_skip, gateK_ask, pickK_some, exK_some, x_pick, x_move, x_assign, x_alloc, x_box, x_build, x_buildSlice, x_load, x_store, x_binOp, x_unOp, x_convert, x_makeSlice, x_slice, x_fieldAddr, x_field, x_indexAddr, x_extract, x_nilCheck, x_call, x_len, x_append, x_min, oMin, x_copy, oCopy, eqAVs, callK_some, done_ret, done_normal, doneO_ret, doneO_normal, endsO_one, endsO_nil, endsO_more, ownAbs, frzAbs, leafs, leafs.leafsL, uniq, idxOf, bk, zipB, Blk.liveB, gate_none, gate_some, gateS_none, gateS_some, gateV_bool, gateV_undef, boolOf, evA, putT, refn, fpD, oBin, oUn, upsl, upl, up, ups, lk, dstsOf, resL, resA, packA, oLoadQ, oLoadKid, oStoreQ, oStoreTree, oBuildSliceQ, oBuildTree, oAppendQ, oAppendTree, isTr, isTrP, tkd, tkds, tkRows, ownOf, nodupB, deadL, treeOf, kidAbs, kidBlk, kidRows, TK.isCell, D.toL, oLoad, oStore, oAlloc, oBox, oBuild, oBuildSlice, oMake, oAppend, oIndexAddr, oFieldAddr, oField, oExtract, oNil, oSlice, oLen, oConvert, rowLoad, fillA, fillR, slB, dk, dks, dkRows, frz, loOf, hiOf, lenOf, rowsOf, nilV, lenV, putAt, views, viewsOk, CK.av, CK.ok, AV.cells, AV.one, Value.oneCell', Value.cells, pureAbs, nrm, nrm.nrmL, hpAt, sh, AV.ren, AV.ren.renL, Blk.ren, fpOf, footO, foot, blkIds, AV.ids, AV.ids.idsL, Op.operands, Call.operands, List.find?_cons, List.find?_nil, Nat.reduceBEq, beq_self_eq_true, List.map_cons, List.map_nil, List.getD_cons_zero, List.getD_cons_succ, List.getD_nil, List.set_cons_zero, List.set_cons_succ, List.length_cons, List.length_nil, List.replicate, List.cons_append, List.nil_append, List.append_nil, List.getElem?_cons_zero, List.getElem?_cons_succ, List.getElem?_toArray, List.getElem?_nil, List.take_zero, List.take_succ_cons, List.take_nil, List.drop_zero, List.drop_succ_cons, List.drop_nil, List.headD_cons, List.tail_cons, List.flatten_cons, List.flatten_nil, List.flatMap_cons, List.flatMap_nil, List.toList_toArray, Array.toList_append, Option.bind_some, Option.map_some, Option.map_none, Option.isSome_some, List.all_nil, List.all_cons, Bool.and_self, Bool.and_true, Bool.true_and, true_and, and_true, ↓reduceIte, List.size_toArray, Bool.false_eq_true, Bool.true_eq_false, false_implies, true_implies, Bool.not_true, Bool.not_false, and_self, implies_true, decide_true, decide_false, Nat.reduceAdd, Nat.reduceMul, Nat.reduceLT, Nat.reduceSub, Nat.reduceLeDiff, Nat.reduceEqDiff, eq_self, ne_eq, not_false_eq_true, false_and, and_false, reduceCtorEq, List.filter_nil, List.filter_cons, List.isEmpty_nil, List.isEmpty_cons, bne_self_eq_false, Nat.reduceBneDiff, Nat.lt_add_one, Nat.zero_lt_succ, List.append_assoc, Nat.zero_le, and_self_iff, Int.reduceToNat, List.any_nil, List.any_cons, List.filterMap_nil, List.filterMap_cons, List.contains_nil, List.contains_cons, Bool.or_false, Bool.false_or, Bool.or_true, Bool.true_or, Bool.false_and, Bool.and_false, decide_eq_true_eq, decide_eq_false_iff_not, beq_iff_eq, Int.toNat_natCast]
    repeat' split
    all_goals (refine ⟨_, [], rfl, ⟨⟨⟨?_, rfl, rfl⟩, trivial⟩, by simp [hpAt, fitH], by simp [hpAt]⟩⟩; refine congrArg (fun b => AV.v (Value.bool b)) ?_; first | rfl | (rw [Bool.eq_iff_iff]; simp only [decide_eq_true_eq, inZ, Bool.and_eq_true, Bool.or_eq_true, bne_iff_ne, Bool.false_eq_true, beq_eq_false_iff_ne, beq_iff_eq, ne_eq, decide_eq_false_iff_not, Bool.not_eq_eq_eq_not, Bool.not_true, Bool.not_false, false_iff, iff_false, true_iff, iff_true] at *; omega))
  · cases hg

def g_isNearTime : PC := fun args => match args with
  | [.v (.int .i64 v)] => some (True, .v (.bool (inZ v 0 999980)), [])
  | _ => none
def g_knownOk : PC := fun args => match args with
  | [.l _ rows] => some (∃ ks, rows = kRows ks ∧ ks.length ≤ 1099511627776, .v (.bool (kOkB (ksOf rows))), [])
  | _ => none
def g_heldOk : PC := fun args => match args with
  | [.l _ rows] => some (∃ hs, rows = hRows hs ∧ hs.length ≤ 1099511627776, .v (.bool (hOkB (hsOf rows))), [])
  | _ => none
def g_nearOk : PC := fun args => match args with
  | [.agg [.l _ rows, .l _ rows']] => some ((∃ ks, rows = kRows ks ∧ ks.length ≤ 1099511627776) ∧ (∃ hs, rows' = hRows hs ∧ hs.length ≤ 1099511627776), .v (.bool (nOkB (ksOf rows) (hsOf rows'))), [])
  | _ => none
end Go.Proofs.Ytdeldmagmljacaa

namespace Go.Proofs.Ytdeldmagmljacaa
open Go.RowKit
set_option linter.unusedSimpArgs false

def oks3 : List (FuncId × Abs) := [(46, pureAbs g_l1In)]
/-! the station that has an address -/
def nfV (ks : List KE) (hs : List HE) (a now : Int) : Int :=
  if nOkB ks hs = true ∧ 0 ≤ kAt ks a ∧ now < (ks.getD (kAt ks a).toNat ⟨0, 0, 0⟩).u then (ks.getD (kAt ks a).toNat ⟨0, 0, 0⟩).l else -1
def g_nearFind : PC := fun args => match args with
  | [.agg [.l _ rows, .l _ rows'], .v (.int .i64 a), .v (.int .i64 now)] => some ((∃ ks, rows = kRows ks ∧ ks.length ≤ 1099511627776) ∧ (∃ hs, rows' = hRows hs ∧ hs.length ≤ 1099511627776), .v (.int .i64 (nfV (ksOf rows) (hsOf rows') a now)), [])
  | _ => none
end Go.Proofs.Ytdeldmagmljacaa
