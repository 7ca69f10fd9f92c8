import Derived.Test.YtloffpgdclbkhaaTa
import Derived.Test.YtloffpgdclbkhaaSh
namespace Go.Proofs.Ytloffpgdclbkhaa
open Go.RowKit
set_option linter.unusedSimpArgs false

/-! what a station knows and keeps, as data -/
structure KE where
  a : Int
  l : Int
  u : Int
structure HE where
  a : Int
  d : List UInt8
def kRow (e : KE) : List D := [.v (.int .i64 e.a), .v (.int .i64 e.l), .v (.int .i64 e.u)]
def kRows (ks : List KE) : List (List D) := ks.map kRow
def hRow (h : HE) : List D := [.v (.int .i64 h.a), .l 1 (rowsOfBytes h.d)]
def hRows (hs : List HE) : List (List D) := hs.map hRow
def kOf (r : List D) : KE := ⟨(r.getD 0 (.v undef)).toI, (r.getD 1 (.v undef)).toI, (r.getD 2 (.v undef)).toI⟩
def hOf (r : List D) : HE := ⟨(r.getD 0 (.v undef)).toI, bytesOfRows (r.getD 1 (.v undef)).toL⟩
def ksOf (rows : List (List D)) : List KE := rows.map kOf
def hsOf (rows : List (List D)) : List HE := rows.map hOf
theorem ksOf_rows (ks : List KE) : ksOf (kRows ks) = ks := by
  simp only [ksOf, kRows, List.map_map]
  conv => rhs; rw [← List.map_id ks]
  exact List.map_congr_left fun e _ => rfl
theorem hsOf_rows (hs : List HE) : hsOf (hRows hs) = hs := by
  simp only [hsOf, hRows, List.map_map]
  conv => rhs; rw [← List.map_id hs]
  refine List.map_congr_left fun h _ => ?_
  simp only [Function.comp_apply, hOf, hRow, List.getD_cons_zero, List.getD_cons_succ, D.toI, D.toL, bytesOf_rows, id_eq]
theorem kRows_len (ks : List KE) : (kRows ks).length = ks.length := by simp [kRows]
theorem hRows_len (hs : List HE) : (hRows hs).length = hs.length := by simp [hRows]
theorem kRows_w (ks : List KE) : ∀ r ∈ kRows ks, r.length = 3 := fun r hr => by
  obtain ⟨e, _, rfl⟩ := List.mem_map.1 hr
  rfl
theorem hRows_w (hs : List HE) : ∀ r ∈ hRows hs, r.length = 2 := fun r hr => by
  obtain ⟨e, _, rfl⟩ := List.mem_map.1 hr
  rfl
theorem kRows_get (ks : List KE) (k : Nat) (h : k < ks.length) : (kRows ks).getD k [] = [.v (.int .i64 ks[k].a), .v (.int .i64 ks[k].l), .v (.int .i64 ks[k].u)] := by
  simp [kRows, List.getD, h, kRow]
theorem hRows_get (hs : List HE) (k : Nat) (h : k < hs.length) : (hRows hs).getD k [] = [.v (.int .i64 hs[k].a), .l 1 (rowsOfBytes hs[k].d)] := by
  simp [hRows, List.getD, h, hRow]
theorem kRows_take (ks : List KE) (k : Nat) : (kRows ks).take k = kRows (ks.take k) := by simp [kRows, List.map_take]
theorem kRows_drop (ks : List KE) (k : Nat) : (kRows ks).drop k = kRows (ks.drop k) := by simp [kRows, List.map_drop]
theorem hRows_take (hs : List HE) (k : Nat) : (hRows hs).take k = hRows (hs.take k) := by simp [hRows, List.map_take]
theorem hRows_drop (hs : List HE) (k : Nat) : (hRows hs).drop k = hRows (hs.drop k) := by simp [hRows, List.map_drop]
theorem kRows_app (a b : List KE) : kRows a ++ kRows b = kRows (a ++ b) := by simp [kRows]
theorem hRows_app (a b : List HE) : hRows a ++ hRows b = hRows (a ++ b) := by simp [hRows]

/-! where an address is known -/
def kAtF : List KE → Int → Nat → Int
  | [], _, _ => -1
  | e :: t, a, i => if e.a = a then (i : Int) else kAtF t a (i + 1)
def kAt (ks : List KE) (a : Int) : Int := kAtF ks a 0
theorem drop_at {α : Type} (l : List α) (k : Nat) (h : k < l.length) : l.drop k = l[k] :: l.drop (k + 1) := List.drop_eq_getElem_cons h
theorem kAtF_spec : ∀ (ks : List KE) (a : Int) (i : Nat), (kAtF ks a i = -1 ∧ ∀ j (h : j < ks.length), ks[j].a ≠ a) ∨ (∃ j, ∃ h : j < ks.length, kAtF ks a i = ((i + j : Nat) : Int) ∧ ks[j].a = a ∧ ∀ m (hm : m < j), ks[m].a ≠ a)
  | [], a, i => .inl ⟨rfl, fun j h => by simp at h⟩
  | e :: t, a, i => by
    by_cases he : e.a = a
    · right
      exact ⟨0, by simp, by simp [kAtF, he], by simpa using he, fun m hm => by omega⟩
    · have e1 : kAtF (e :: t) a i = kAtF t a (i + 1) := by simp [kAtF, he]
      rcases kAtF_spec t a (i + 1) with ⟨h1, h2⟩ | ⟨j, hj, h1, h2, h3⟩
      · left
        refine ⟨by rw [e1, h1], fun j h => ?_⟩
        cases j with
        | zero => simpa using he
        | succ j => simpa using h2 j (by simpa using h)
      · right
        refine ⟨j + 1, by simpa using hj, by rw [e1, h1]; congr 1; omega, by simpa using h2, fun m hm => ?_⟩
        cases m with
        | zero => simpa using he
        | succ m => simpa using h3 m (by omega)
theorem kAt_spec (ks : List KE) (a : Int) : (kAt ks a = -1 ∧ ∀ j (h : j < ks.length), ks[j].a ≠ a) ∨ (∃ j, ∃ h : j < ks.length, kAt ks a = (j : Int) ∧ ks[j].a = a ∧ ∀ m (hm : m < j), ks[m].a ≠ a) := by
  have := kAtF_spec ks a 0
  simpa only [kAt, Nat.zero_add] using this
def g_knownAt : PC := fun args => match args with
  | [.l _ rows, .v (.int .i64 a)] => some (∃ ks, rows = kRows ks ∧ ks.length ≤ 1099511627776, .v (.int .i64 (kAt (ksOf rows) a)), [])
  | _ => none
/-! what can be known and kept together -/
def eOk (e : KE) : Bool := decide ((0 ≤ e.a ∧ e.a ≤ 65535) ∧ (0 ≤ e.l ∧ e.l ≤ 254) ∧ 0 ≤ e.u ∧ e.u ≤ 1000000)
def hOk (h : HE) : Bool := decide ((0 ≤ h.a ∧ h.a ≤ 65535) ∧ h.d.length ≤ 64)
def kAll (ks : List KE) : Prop := ∀ i (h : i < ks.length), eOk ks[i] = true ∧ ∀ j (hj : j < i), ks[j].a ≠ ks[i].a
def hAll (hs : List HE) : Prop := ∀ i (h : i < hs.length), hOk hs[i] = true
def kOkB (ks : List KE) : Bool := decide (ks.length ≤ 4) && (List.range ks.length).all fun i => eOk (ks.getD i ⟨0, 0, 0⟩) && (List.range i).all fun j => (ks.getD j ⟨0, 0, 0⟩).a != (ks.getD i ⟨0, 0, 0⟩).a
def hOkB (hs : List HE) : Bool := decide (hs.length ≤ 4) && hs.all hOk
def nOkB (ks : List KE) (hs : List HE) : Bool := kOkB ks && hOkB hs
theorem getD_get {α : Type} {l : List α} {i : Nat} (d : α) (h : i < l.length) : l.getD i d = l[i] := by simp [List.getD, h]
theorem kOkB_iff {ks : List KE} : kOkB ks = true ↔ ks.length ≤ 4 ∧ kAll ks := by
  simp only [kOkB, Bool.and_eq_true, decide_eq_true_eq, List.all_eq_true, List.mem_range, bne_iff_ne]
  refine ⟨fun ⟨h1, h2⟩ => ⟨h1, fun i hi => ?_⟩, fun ⟨h1, h2⟩ => ⟨h1, fun i hi => ?_⟩⟩
  · obtain ⟨q1, q2⟩ := h2 i hi
    rw [getD_get _ hi] at q1
    refine ⟨q1, fun j hj => ?_⟩
    have := q2 j hj
    rwa [getD_get _ hi, getD_get _ (by omega)] at this
  · obtain ⟨q1, q2⟩ := h2 i hi
    rw [getD_get _ hi]
    refine ⟨q1, fun j hj => ?_⟩
    rw [getD_get _ (by omega)]
    exact q2 j hj
theorem hOkB_iff {hs : List HE} : hOkB hs = true ↔ hs.length ≤ 4 ∧ hAll hs := by
  simp only [hOkB, Bool.and_eq_true, decide_eq_true_eq, List.all_eq_true]
  refine ⟨fun ⟨h1, h2⟩ => ⟨h1, fun i hi => h2 _ (List.getElem_mem hi)⟩, fun ⟨h1, h2⟩ => ⟨h1, fun x hx => ?_⟩⟩
  obtain ⟨i, hi, rfl⟩ := List.getElem_of_mem hx
  exact h2 i hi
theorem kOkB_no {ks : List KE} (h : ¬ (ks.length ≤ 4 ∧ kAll ks)) : kOkB ks = false := by rw [← Bool.not_eq_true, kOkB_iff]; exact h
theorem hOkB_no {hs : List HE} (h : ¬ (hs.length ≤ 4 ∧ hAll hs)) : hOkB hs = false := by rw [← Bool.not_eq_true, hOkB_iff]; exact h
def g_entryOk : PC := fun args => match args with
  | [.agg [.v (.int .i64 a), .v (.int .i64 l), .v (.int .i64 u)]] => some (True, .v (.bool (eOk ⟨a, l, u⟩)), [])
  | _ => none
def g_isTime : PC := fun args => match args with
  | [.v (.int .i64 v)] => some (True, .v (.bool (inZ v 0 1000000)), [])
  | _ => none
set_option maxRecDepth 100000 in
theorem isTime_ok : PureOk Try.prog 54 g_isTime := by
  refine PureOk.of_vc (G := []) (by simp) mixed Try.func54 (by kernel_rfl) rfl ?_
  intro args cnd r bs hg hc
  unfold g_isTime at hg
  split at hg
  · rename_i v
    cases hg
    refine ⟨⟨rfl, by simp, by simp [AV.ids, AV.ids.idsL]⟩, _, rfl, fun w vs h => h, ?_⟩
    simp (maxSteps := 3000000) only [Try.f54, tY2, tY3, tY4, tY5, tY9, tY12, tY21, tY22, tY23, tY24, tY26, tY29, tY36, tY37, tY38, tY41, tY42, tY52, tY55, tY93, tY102, Try.underlying2, Try.underlying3, Try.underlying4, Try.underlying5, Try.underlying9, Try.underlying12, Try.underlying21, Try.underlying22, Try.underlying23, Try.underlying24, Try.underlying26, Try.underlying29, Try.underlying36, Try.underlying37, Try.underlying38, Try.underlying41, Try.underlying42, Try.underlying52, Try.underlying55, Try.underlying93, Try.underlying102, e_skip, e_label, e_ret, e_exit, e_seq, e_cond, e_block, e_region, seqK_normal, seqK_ret, seqK_exit, blkK_normal, blkK_ret, blkK_exit, condK_some, regK_true, regK_false, e_nil, e_cons, gateK_go, gateK_skip, gateK_ask, pickK_some, exK_some, x_pick, x_move, x_assign, x_alloc, x_box, x_build, x_buildSlice, x_load, x_store, x_binOp, x_unOp, x_convert, x_makeSlice, x_slice, x_fieldAddr, x_field, x_indexAddr, x_extract, x_nilCheck, x_call, x_len, x_append, x_min, oMin, x_copy, oCopy, eqAVs, callK_some, done_ret, done_normal, doneO_ret, doneO_normal, endsO_one, endsO_nil, endsO_more, ownAbs, frzAbs, leafs, leafs.leafsL, uniq, idxOf, bk, zipB, Blk.liveB, gate_none, gate_some, gateS_none, gateS_some, gateV_bool, gateV_undef, boolOf, evA, putT, refn, fpD, oBin, oUn, upsl, upl, up, ups, lk, dstsOf, resL, resA, packA, oLoadQ, oLoadKid, oStoreQ, oStoreTree, oBuildSliceQ, oBuildTree, oAppendQ, oAppendTree, isTr, isTrP, tkd, tkds, tkRows, ownOf, nodupB, deadL, treeOf, kidAbs, kidBlk, kidRows, TK.isCell, D.toL, oLoad, oStore, oAlloc, oBox, oBuild, oBuildSlice, oMake, oAppend, oIndexAddr, oFieldAddr, oField, oExtract, oNil, oSlice, oLen, oConvert, rowLoad, fillA, fillR, slB, dk, dks, dkRows, frz, loOf, hiOf, lenOf, rowsOf, nilV, lenV, putAt, views, viewsOk, CK.av, CK.ok, AV.cells, AV.one, Value.oneCell', Value.cells, pureAbs, nrm, nrm.nrmL, hpAt, sh, AV.ren, AV.ren.renL, Blk.ren, fpOf, footO, foot, blkIds, AV.ids, AV.ids.idsL, Op.operands, Call.operands, List.find?_cons, List.find?_nil, Nat.reduceBEq, beq_self_eq_true, List.map_cons, List.map_nil, List.getD_cons_zero, List.getD_cons_succ, List.getD_nil, List.set_cons_zero, List.set_cons_succ, List.length_cons, List.length_nil, List.replicate, List.cons_append, List.nil_append, List.append_nil, List.getElem?_cons_zero, List.getElem?_cons_succ, List.getElem?_toArray, List.getElem?_nil, List.take_zero, List.take_succ_cons, List.take_nil, List.drop_zero, List.drop_succ_cons, List.drop_nil, List.headD_cons, List.tail_cons, List.flatten_cons, List.flatten_nil, List.flatMap_cons, List.flatMap_nil, List.toList_toArray, Array.toList_append, Option.bind_some, Option.map_some, Option.map_none, Option.isSome_some, List.all_nil, List.all_cons, Bool.and_self, Bool.and_true, Bool.true_and, true_and, and_true, ↓reduceIte, List.size_toArray, Bool.false_eq_true, Bool.true_eq_false, false_implies, true_implies, Bool.not_true, Bool.not_false, and_self, implies_true, decide_true, decide_false, Nat.reduceAdd, Nat.reduceMul, Nat.reduceLT, Nat.reduceSub, Nat.reduceLeDiff, Nat.reduceEqDiff, eq_self, ne_eq, not_false_eq_true, false_and, and_false, reduceCtorEq, List.filter_nil, List.filter_cons, List.isEmpty_nil, List.isEmpty_cons, bne_self_eq_false, Nat.reduceBneDiff, Nat.lt_add_one, Nat.zero_lt_succ, List.append_assoc, Nat.zero_le, and_self_iff, Int.reduceToNat, List.any_nil, List.any_cons, List.filterMap_nil, List.filterMap_cons, List.contains_nil, List.contains_cons, Bool.or_false, Bool.false_or, Bool.or_true, Bool.true_or, Bool.false_and, Bool.and_false, decide_eq_true_eq, decide_eq_false_iff_not, beq_iff_eq, Int.toNat_natCast]
    repeat' split
    all_goals (refine ⟨_, [], rfl, ⟨⟨⟨?_, rfl, rfl⟩, trivial⟩, by simp [hpAt, fitH], by simp [hpAt]⟩⟩; refine congrArg (fun b => AV.v (Value.bool b)) ?_; first | rfl | (rw [Bool.eq_iff_iff]; simp only [decide_eq_true_eq, inZ, Bool.and_eq_true, Bool.or_eq_true, bne_iff_ne, Bool.false_eq_true, beq_eq_false_iff_ne, beq_iff_eq, ne_eq, decide_eq_false_iff_not, Bool.not_eq_eq_eq_not, Bool.not_true, Bool.not_false, false_iff, iff_false, true_iff, iff_true] at *; omega))
  · cases hg

def g_isNearTime : PC := fun args => match args with
  | [.v (.int .i64 v)] => some (True, .v (.bool (inZ v 0 999980)), [])
  | _ => none
def g_knownOk : PC := fun args => match args with
  | [.l _ rows] => some (∃ ks, rows = kRows ks ∧ ks.length ≤ 1099511627776, .v (.bool (kOkB (ksOf rows))), [])
  | _ => none
def g_heldOk : PC := fun args => match args with
  | [.l _ rows] => some (∃ hs, rows = hRows hs ∧ hs.length ≤ 1099511627776, .v (.bool (hOkB (hsOf rows))), [])
  | _ => none
def g_nearOk : PC := fun args => match args with
  | [.agg [.l _ rows, .l _ rows']] => some ((∃ ks, rows = kRows ks ∧ ks.length ≤ 1099511627776) ∧ (∃ hs, rows' = hRows hs ∧ hs.length ≤ 1099511627776), .v (.bool (nOkB (ksOf rows) (hsOf rows'))), [])
  | _ => none
end Go.Proofs.Ytloffpgdclbkhaa

namespace Go.Proofs.Ytloffpgdclbkhaa
open Go.RowKit
set_option linter.unusedSimpArgs false

def oks3 : List (FuncId × Abs) := [(41, pureAbs g_l1In)]
theorem oks3_ok : ∀ p ∈ oks3, CallOk Try.prog p.1 p.2 := by
  intro p hp
  simp only [oks3, List.mem_cons, List.not_mem_nil, or_false] at hp
  rcases hp with rfl
  · exact l1In_ok.call

/-! the station that has an address -/
def nfV (ks : List KE) (hs : List HE) (a now : Int) : Int :=
  if nOkB ks hs = true ∧ 0 ≤ kAt ks a ∧ now < (ks.getD (kAt ks a).toNat ⟨0, 0, 0⟩).u then (ks.getD (kAt ks a).toNat ⟨0, 0, 0⟩).l else -1
theorem nfV_at {ks : List KE} {hs : List HE} {a now : Int} (k : Nat) (h : k < ks.length) (hok : nOkB ks hs = true) (ha : kAt ks a = (k : Int)) (hu : now < ks[k].u) : nfV ks hs a now = ks[k].l := by
  unfold nfV
  rw [ha, Int.toNat_natCast, getD_get _ h, if_pos ⟨hok, by omega, hu⟩]
theorem nfV_no {ks : List KE} {hs : List HE} {a now : Int} (h : ¬ (nOkB ks hs = true ∧ 0 ≤ kAt ks a ∧ now < (ks.getD (kAt ks a).toNat ⟨0, 0, 0⟩).u)) : nfV ks hs a now = -1 := by
  unfold nfV
  rw [if_neg h]
/-- of addresses that are all different, each is where it is -/
theorem kAt_eq {ks : List KE} (h : kAll ks) (k : Nat) (hk : k < ks.length) : kAt ks ks[k].a = (k : Int) := by
  rcases kAt_spec ks ks[k].a with ⟨_, h2⟩ | ⟨j, hj, h1, h2, h3⟩
  · exact absurd rfl (h2 k hk)
  · by_cases hjk : j = k
    · subst hjk; exact h1
    · rcases Nat.lt_or_gt_of_ne hjk with h4 | h4
      · exact absurd h2 ((h k hk).2 j h4)
      · exact absurd rfl (h3 k h4)
theorem nOkB_k {ks : List KE} {hs : List HE} (h : nOkB ks hs = true) : ks.length ≤ 4 ∧ kAll ks ∧ hs.length ≤ 4 ∧ hAll hs := by
  simp only [nOkB, Bool.and_eq_true] at h
  exact ⟨(kOkB_iff.1 h.1).1, (kOkB_iff.1 h.1).2, (hOkB_iff.1 h.2).1, (hOkB_iff.1 h.2).2⟩
def g_nearFind : PC := fun args => match args with
  | [.agg [.l _ rows, .l _ rows'], .v (.int .i64 a), .v (.int .i64 now)] => some ((∃ ks, rows = kRows ks ∧ ks.length ≤ 1099511627776) ∧ (∃ hs, rows' = hRows hs ∧ hs.length ≤ 1099511627776), .v (.int .i64 (nfV (ksOf rows) (hsOf rows') a now)), [])
  | _ => none
end Go.Proofs.Ytloffpgdclbkhaa
